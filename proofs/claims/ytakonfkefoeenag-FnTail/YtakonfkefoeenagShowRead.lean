/- What ShowName writes is read as the same name: as plain mathematics. -/
import Derived.Test.YtakonfkefoeenagShowM
import Derived.Test.YtakonfkefoeenagReadN
namespace Go.Proofs.Ytakonfkefoeenag
open Go.RowKit

theorem mark_dig {c : UInt8} (h : Nm.markB c = true) : Nm.digB c = false := by
  rcases Nm.markB_true h with rfl | rfl | rfl | rfl | rfl | rfl | rfl | rfl <;> decide

theorem dig_of {n : Nat} (h : n ≤ 9) : Nm.digB (UInt8.ofNat (48 + n)) = true := by
  simp only [Nm.digB, UInt8.toNat_ofNat']
  rw [Nat.mod_eq_of_lt (by omega)]
  simp; omega

theorem num3_back (c : UInt8) : Nm.num3 (UInt8.ofNat (48 + c.toNat / 100)) (UInt8.ofNat (48 + c.toNat / 10 % 10)) (UInt8.ofNat (48 + c.toNat % 10)) = c.toNat := by
  have := c.toNat_lt
  simp only [Nm.num3, UInt8.toNat_ofNat']
  have e1 : (48 + c.toNat / 100) % 2 ^ 8 = 48 + c.toNat / 100 := Nat.mod_eq_of_lt (by omega)
  have e2 : (48 + c.toNat / 10 % 10) % 2 ^ 8 = 48 + c.toNat / 10 % 10 := Nat.mod_eq_of_lt (by omega)
  have e3 : (48 + c.toNat % 10) % 2 ^ 8 = 48 + c.toNat % 10 := Nat.mod_eq_of_lt (by omega)
  rw [e1, e2, e3]
  omega

theorem esc_three_back (c : UInt8) (r : List UInt8) : Nm.escF (Nm.threeL c ++ r) = some (c, 3) := by
  have hc := c.toNat_lt
  have h1 := dig_of (n := c.toNat / 100) (by omega)
  have h2 := dig_of (n := c.toNat / 10 % 10) (by omega)
  have h3 := dig_of (n := c.toNat % 10) (by omega)
  show Nm.escF (_ :: _ :: _ :: r) = _
  rw [Nm.esc_three h1, if_pos ⟨h2, h3⟩, num3_back, if_pos (by omega)]
  congr 2
  exact UInt8.toNat_inj.1 (by simp)

theorem scan_byte (f : Nat) (st : Bool) (c : UInt8) (now rest : List UInt8) (done : List ByteArray) :
    Nm.scanF (f + 1) st (Nm.showB c ++ rest) now done = Nm.scanF f false rest (now ++ [c]) done := by
  cases hm : Nm.markB c with
  | true =>
    rw [Nm.showB_mark hm]
    show Nm.scanF (f + 1) st (92 :: c :: rest) now done = _
    rw [Nm.scanF, if_neg (by decide), if_pos rfl, Nm.esc_byte rest (mark_dig hm)]
    rfl
  | false =>
    obtain ⟨h1, h2, _⟩ := Nm.markB_false hm
    have hn1 : c ≠ 46 := by simpa using h1
    have hn2 : c ≠ 92 := by simpa using h2
    by_cases hp : 33 ≤ c.toNat ∧ c.toNat ≤ 126
    · rw [Nm.showB_plain hm hp]
      show Nm.scanF (f + 1) st (c :: rest) now done = _
      rw [Nm.scanF, if_neg hn1, if_neg hn2]
    · rw [Nm.showB_num hm hp]
      show Nm.scanF (f + 1) st (92 :: (Nm.threeL c ++ rest)) now done = _
      rw [Nm.scanF, if_neg (by decide), if_pos rfl, esc_three_back]
      rfl

theorem scan_bytes : ∀ (l : List UInt8) (f : Nat) (st : Bool) (now rest : List UInt8) (done : List ByteArray), (Nm.showX l ++ rest).length < f →
    ∃ f', rest.length < f' ∧ Nm.scanF f st (Nm.showX l ++ rest) now done = Nm.scanF f' (if l = [] then st else false) rest (now ++ l) done := by
  intro l
  induction l with
  | nil => intro f st now rest done h; exact ⟨f, by simpa [Nm.showX] using h, by simp [Nm.showX]⟩
  | cons c l ih =>
    intro f st now rest done h
    have e : Nm.showX (c :: l) ++ rest = Nm.showB c ++ (Nm.showX l ++ rest) := by simp [Nm.showX]
    rw [e] at h ⊢
    have hb := (Nm.showB_length c).2
    obtain ⟨g, rfl⟩ : ∃ g, f = g + 1 := ⟨f - 1, by omega⟩
    rw [scan_byte]
    obtain ⟨f', h1, h2⟩ := ih g false (now ++ [c]) rest done (by rw [List.length_append] at h; omega)
    refine ⟨f', h1, ?_⟩
    rw [h2]
    simp

theorem ok_fits {x : ByteArray} (h : 1 ≤ x.size ∧ x.size ≤ 63) : Nm.fitsB x.data.toList.length = true := by
  have : x.data.toList.length = x.size := by simp
  rw [this]
  exact Nm.fits_yes h.1 h.2

theorem back_arr (x : ByteArray) : (⟨x.data.toList.toArray⟩ : ByteArray) = x := by
  apply Nm.ba_ext
  simp

theorem scan_show : ∀ (ls : List ByteArray) (f : Nat) (st : Bool) (done : List ByteArray), (∀ x ∈ ls, 1 ≤ x.size ∧ x.size ≤ 63) → (Nm.showL ls).length < f → (ls = [] → st = true) →
    Nm.scanF f st (Nm.showL ls) [] done = (done ++ ls, true, 0) := by
  intro ls
  induction ls with
  | nil =>
    intro f st done _ h hst
    obtain ⟨g, rfl⟩ : ∃ g, f = g + 1 := ⟨f - 1, by omega⟩
    rw [hst rfl]
    show Nm.scanF (g + 1) true [] [] done = _
    rw [Nm.scanF, if_pos rfl]
    simp
  | cons x r ih =>
    intro f st done hx h _
    have hx0 := hx x List.mem_cons_self
    have e : Nm.showL (x :: r) = Nm.showX x.data.toList ++ (46 :: Nm.showL r) := by simp [Nm.showL]
    rw [e] at h ⊢
    obtain ⟨f', h1, h2⟩ := scan_bytes x.data.toList f st [] (46 :: Nm.showL r) done h
    rw [h2]
    simp only [List.length_cons] at h1
    obtain ⟨g, rfl⟩ : ∃ g, f' = g + 1 := ⟨f' - 1, by omega⟩
    rw [List.nil_append, Nm.scanF, if_pos rfl, if_pos (ok_fits hx0), back_arr, ih g true (done ++ [x]) (fun y hy => hx y (List.mem_cons_of_mem _ hy)) (by omega) (fun _ => rfl)]
    simp

/-- The text without its last dot. -/
def showD : List ByteArray → List UInt8
  | [] => []
  | [x] => Nm.showX x.data.toList
  | x :: r => (Nm.showX x.data.toList ++ [46]) ++ showD r

theorem showD_dot : ∀ (ls : List ByteArray), ls ≠ [] → Nm.showL ls = showD ls ++ [46] := by
  intro ls
  induction ls with
  | nil => intro h; exact absurd rfl h
  | cons x r ih =>
    intro _
    cases r with
    | nil => simp [showD, Nm.showL]
    | cons y r =>
      have := ih (by simp)
      rw [Nm.showL, this]
      simp [showD]

theorem scan_showD : ∀ (ls : List ByteArray) (f : Nat) (st : Bool) (done : List ByteArray), ls ≠ [] → (∀ x ∈ ls, 1 ≤ x.size ∧ x.size ≤ 63) → (showD ls).length < f →
    Nm.scanF f st (showD ls) [] done = (done ++ ls, false, 0) := by
  intro ls
  induction ls with
  | nil => intro f st done h; exact absurd rfl h
  | cons x r ih =>
    intro f st done _ hx h
    have hx0 := hx x List.mem_cons_self
    have hne : x.data.toList ≠ [] := by
      intro h
      have : x.data.toList.length = x.size := by simp
      rw [h] at this
      simp at this
      omega
    cases r with
    | nil =>
      have e : showD [x] = Nm.showX x.data.toList ++ [] := by simp [showD]
      rw [e] at h ⊢
      obtain ⟨f', h1, h2⟩ := scan_bytes x.data.toList f st [] [] done h
      rw [h2, if_neg hne]
      obtain ⟨g, rfl⟩ : ∃ g, f' = g + 1 := ⟨f' - 1, by omega⟩
      rw [List.nil_append, Nm.scanF, if_neg (by simp), if_pos (ok_fits hx0), back_arr]
    | cons y r =>
      have e : showD (x :: y :: r) = Nm.showX x.data.toList ++ (46 :: showD (y :: r)) := by simp [showD]
      rw [e] at h ⊢
      obtain ⟨f', h1, h2⟩ := scan_bytes x.data.toList f st [] (46 :: showD (y :: r)) done h
      rw [h2]
      simp only [List.length_cons] at h1
      obtain ⟨g, rfl⟩ : ∃ g, f' = g + 1 := ⟨f' - 1, by omega⟩
      rw [List.nil_append, Nm.scanF, if_pos rfl, if_pos (ok_fits hx0), back_arr, ih g true (done ++ [x]) (by simp) (fun z hz => hx z (List.mem_cons_of_mem _ hz)) (by omega)]
      simp

theorem mk_data (l : List UInt8) : (⟨l.toArray⟩ : ByteArray).data.toList = l := by simp
theorem mk_size (l : List UInt8) : (⟨l.toArray⟩ : ByteArray).size = l.length := by show l.toArray.size = _; simp
theorem mk_list (l : List UInt8) : (⟨l.toArray⟩ : ByteArray).toList = l := by rw [ByteArray.toList_eq]

theorem showX_head {l : List UInt8} (h : l ≠ []) (r : List UInt8) : ¬ (Nm.showX l ++ r = [64]) ∧ ¬ (Nm.showX l ++ r = [46]) := by
  cases l with
  | nil => exact absurd rfl h
  | cons c l =>
    have e : Nm.showX (c :: l) ++ r = Nm.showB c ++ (Nm.showX l ++ r) := by simp [Nm.showX]
    rw [e]
    cases hm : Nm.markB c with
    | true =>
      rw [Nm.showB_mark hm]
      constructor
      · intro h; simp at h
      · intro h; simp at h
    | false =>
      by_cases hp : 33 ≤ c.toNat ∧ c.toNat ≤ 126
      · rw [Nm.showB_plain hm hp]
        obtain ⟨h1, _, _, _, _, _, h7, _⟩ := Nm.markB_false hm
        constructor
        · intro h
          simp at h
          rw [h.1] at h7
          exact absurd h7 (by decide)
        · intro h
          simp at h
          rw [h.1] at h1
          exact absurd h1 (by decide)
      · rw [Nm.showB_num hm hp]
        constructor
        · intro h; simp at h
        · intro h; simp at h

theorem show_shape {ls : List ByteArray} (hn : ls ≠ []) (hx : ∀ x ∈ ls, 1 ≤ x.size ∧ x.size ≤ 63) : ∃ l r, l ≠ [] ∧ showD ls = Nm.showX l ++ r := by
  cases ls with
  | nil => exact absurd rfl hn
  | cons x t =>
    have hx0 := hx x List.mem_cons_self
    have hne : x.data.toList ≠ [] := by
      intro h
      have : x.data.toList.length = x.size := by simp
      rw [h] at this
      simp at this
      omega
    cases t with
    | nil => exact ⟨x.data.toList, [], hne, by simp [showD]⟩
    | cons y t => exact ⟨x.data.toList, 46 :: showD (y :: t), hne, by simp [showD]⟩

/-- The text that is written is read as the name, with no origin. -/
theorem read_show {s : ByteArray} {ls : List ByteArray} (h : Nm.split s = some ls) (hn : ls ≠ []) : readS ⟨(Nm.showL ls).toArray⟩ ByteArray.empty = (s, 0) := by
  obtain ⟨h1, h2⟩ := Nm.split_join h
  have h3 := Nm.split_size h
  have hl := Nm.showL_length ls
  have hp := Nm.showL_pos hn
  obtain ⟨l, r, hl0, hsh⟩ := show_shape hn h2
  have hd := showD_dot ls hn
  have hform : ¬ (ByteArray.empty.size ≠ 0 ∧ Nm.split ByteArray.empty = none) := by intro h; exact h.1 rfl
  have hsz := mk_size (Nm.showL ls)
  have hlist := mk_list (Nm.showL ls)
  have e64 : ((⟨(Nm.showL ls).toArray⟩ : ByteArray).toList == [64]) = false := by
    rw [hlist, beq_eq_false_iff_ne, hd]
    intro e
    have := congrArg List.reverse e
    simp at this
  have e46 : ((⟨(Nm.showL ls).toArray⟩ : ByteArray).toList == [46]) = false := by
    rw [hlist, beq_eq_false_iff_ne, hd, hsh, List.append_assoc]
    exact (showX_head hl0 _).2
  have hsc : Nm.scanS ⟨(Nm.showL ls).toArray⟩ = (ls, true, 0) := by
    rw [Nm.scanS, mk_data, hsz, scan_show ls _ false [] h2 (by omega) (fun h => absurd h hn)]
    simp
  rw [read_scan hform (by omega) (by omega) e64 e46, hsc]
  simp only [ne_eq, not_true_eq_false, if_false, if_true]
  exact make_split h

theorem split_root : Nm.split ⟨#[0]⟩ = some [] := by
  rw [Nm.split_short _ (by decide)]
  exact Nm.splitF_end 255 _ (by decide) (by decide) (by decide)

/-- .. and without its last dot, relative to the root. -/
theorem read_showD {s : ByteArray} {ls : List ByteArray} (h : Nm.split s = some ls) (hn : ls ≠ []) : readS ⟨(showD ls).toArray⟩ ⟨#[0]⟩ = (s, 0) := by
  obtain ⟨h1, h2⟩ := Nm.split_join h
  have h3 := Nm.split_size h
  have hl := Nm.showL_length ls
  obtain ⟨l, r, hl0, hsh⟩ := show_shape hn h2
  have hd := showD_dot ls hn
  have hdl : (Nm.showL ls).length = (showD ls).length + 1 := by rw [hd]; simp
  have hform : ¬ ((⟨#[0]⟩ : ByteArray).size ≠ 0 ∧ Nm.split ⟨#[0]⟩ = none) := by
    intro h
    rw [split_root] at h
    simp at h
  have hsz := mk_size (showD ls)
  have hlist := mk_list (showD ls)
  have e64 : ((⟨(showD ls).toArray⟩ : ByteArray).toList == [64]) = false := by
    rw [hlist, beq_eq_false_iff_ne, hsh]
    exact (showX_head hl0 _).1
  have e46 : ((⟨(showD ls).toArray⟩ : ByteArray).toList == [46]) = false := by
    rw [hlist, beq_eq_false_iff_ne, hsh]
    exact (showX_head hl0 _).2
  have hpos : 0 < (showD ls).length := by
    rw [hsh]
    cases l with
    | nil => exact absurd rfl hl0
    | cons c l =>
      have := (Nm.showB_length c).2
      simp [Nm.showX]
      omega
  have hsc : Nm.scanS ⟨(showD ls).toArray⟩ = (ls, false, 0) := by
    rw [Nm.scanS, mk_data, hsz, scan_showD ls _ false [] hn h2 (by omega)]
    simp
  rw [read_scan hform (by omega) (by omega) e64 e46, hsc, split_root]
  have hone : ¬ (⟨#[0]⟩ : ByteArray).size = 0 := by decide
  simp only [ne_eq, not_true_eq_false, if_false, Bool.false_eq_true, if_neg hone, Option.getD_some, List.append_nil]
  exact make_split h

theorem root_name {s : ByteArray} (h : Nm.split s = some []) : s = ⟨#[0]⟩ := by
  apply Nm.ba_ext
  rw [← (Nm.split_join h).1]
  rfl

theorem read_dot_text (o : ByteArray) (ho : o.size = 0) : readS ⟨#[46]⟩ o = (⟨#[0]⟩, 0) := by
  refine read_dot (by omega) (by decide) (by decide) ?_ ?_
  · rw [show (⟨#[46]⟩ : ByteArray) = ⟨([46] : List UInt8).toArray⟩ from rfl, mk_list]; decide
  · rw [show (⟨#[46]⟩ : ByteArray) = ⟨([46] : List UInt8).toArray⟩ from rfl, mk_list]; decide

end Go.Proofs.Ytakonfkefoeenag
