import Derived.Test.YtjmckodkkckbcaaJOrdL
import Derived.Test.YtjmckodkkckbcaaJMath
import Derived.Lib.Split
import Derived.Lib.IndexMore
/- spec.l04Seen by its contract. -/
namespace Go.Proofs.Ytjmckodkkckbcaa
open Go.RowKit
set_option linter.unusedVariables false

/-- The first place of a rest of a name; -1: there is none. -/
def seenS : List (ByteArray × Nat) → ByteArray → Int
  | [], _ => -1
  | p :: r, t => if p.1 = t then (p.2 : Int) else seenS r t

theorem plVs_at : ∀ (xs : List (ByteArray × Nat)) (k j : Nat) (x : ByteArray × Nat), xs[k]? = some x → j < 2 → (plVs xs)[k * 2 + j]? = (plV x)[j]? := by
  intro xs
  induction xs with
  | nil => intro k j x h; simp at h
  | cons y xs ih =>
    intro k j x h hj
    have e : plVs (y :: xs) = plV y ++ plVs xs := by simp [plVs]
    have hl : (plV y).length = 2 := rfl
    cases k with
    | zero =>
      simp at h; subst h
      rw [e, Nat.zero_mul, Nat.zero_add, List.getElem?_append_left (by omega)]
    | succ k =>
      simp at h
      rw [e, List.getElem?_append_right (by omega), hl, show (k + 1) * 2 + j - 2 = k * 2 + j by omega]
      exact ih k j x h hj

theorem seen_step {xs : List (ByteArray × Nat)} {k : Nat} {x : ByteArray × Nat} (h : xs[k]? = some x) (t : ByteArray) : seenS (xs.drop k) t = if x.1 = t then (x.2 : Int) else seenS (xs.drop (k + 1)) t := by
  obtain ⟨hk, hx⟩ := List.getElem?_eq_some_iff.1 h
  rw [List.drop_eq_getElem_cons hk, hx, seenS]
theorem str_yes {a b : ByteArray} (h : a = b) : (a.toList == b.toList) = true := by simp [h]
theorem str_no {a b : ByteArray} (h : a ≠ b) : (a.toList == b.toList) = false := by
  rw [beq_eq_false_iff_ne]
  intro e
  apply h
  have : a.data.toList = b.data.toList := by rw [← ByteArray.toList_eq, ← ByteArray.toList_eq]; exact e
  exact ByteArray.ext (Array.toList_inj.1 this)

set_option maxRecDepth 100000 in
set_option maxHeartbeats 3200000 in
theorem l04Seen_any (t : ByteArray) (g B : Nat) (bs : List UInt8) (pls : List (ByteArray × Nat)) (vb vp : Value) (w : World) (h : SW w g B bs pls vb vp) (hl : pls.length ≤ 100000000) :
    Calls Try.prog 56 #[.pointer (some ⟨g, 0, none⟩), .string t] w fun e w' => e = .returned (.int .i64 (seenS pls t)) ∧ w' = w := by
  obtain ⟨_, pa, pc, hv, hcap, hmx, hc⟩ := CRow.of_owns h.rp
  subst hv
  unfold maxLen at hmx
  have c1 : w.cell? ⟨g, 1, none⟩ = some (.slice pa pls.length pc) := (blk_cell h.blk 1).trans rfl
  obtain ⟨RES, HR0⟩ : ∃ R, Hid (R = seenS (pls.drop 0) t) := ⟨_, rfl⟩
  have hgoal : seenS pls t = RES := by rw [HR0.out]; rfl
  rw [hgoal]
  clear h hgoal
  go_enter Try.func56, Try.ntmps56
  go_wp2
  go_loop [5] (fun i => ∃ k : Nat, k ≤ pls.length ∧ i = .int .i64 k ∧ Hid (RES = seenS (pls.drop k) t)) (fun i => pls.length - (intOf i).toNat)
  case atStart => exact ⟨0, Nat.zero_le _, rfl, HR0⟩
  case round =>
    obtain ⟨k, hk, rfl, HA⟩ := hrel
    clear HR0
    by_cases hlt : k < pls.length
    · obtain ⟨x, hx⟩ : ∃ x, pls[k]? = some x := ⟨_, List.getElem?_eq_getElem hlt⟩
      obtain ⟨b, off, rfl, hcell⟩ := hc (by omega)
      have d0 := hcell (k * 2) _ ((plVs_at pls k 0 x hx (by decide)).trans rfl)
      have d1 := hcell (k * 2 + 1) _ ((plVs_at pls k 1 x hx (by decide)).trans rfl)
      rw [← Nat.add_assoc] at d1
      have HS := seen_step hx t
      have i1 : (0 : Int) ≤ (k : Int) := by omega
      have i2 : (k : Int) < (pls.length : Int) := by omega
      clear hcell hc hx
      obtain ⟨tl, at'⟩ := x
      simp only at d0 d1 HS
      by_cases he : tl = t
      · have e1 := str_yes he
        obtain rfl : RES = (at' : Int) := by rw [HA.out, HS, if_pos he]
        clear HA HS he
        go_wp2
        go_ret
        exact ⟨rfl, rfl⟩
      · have e1 := str_no he
        have HA2 : Hid (RES = seenS (pls.drop (k + 1)) t) := by show _ = _; rw [HA.out, HS, if_neg he]
        clear HA HS he
        go_wp2
        go_round
        case rel => exact ⟨k + 1, by omega, by go_num, HA2⟩
        case measure => simp [intOf]; omega
    · have hkl : k = pls.length := by omega
      subst hkl
      obtain rfl : RES = -1 := by rw [HA.out, List.drop_length]; rfl
      have i2 : (pls.length : Int) ≤ (pls.length : Int) := by omega
      clear hc HA
      go_wp2
      go_ret
      exact ⟨rfl, rfl⟩
end Go.Proofs.Ytjmckodkkckbcaa
/- A text cut at every byte of one value: mathematics. -/
namespace Go.Proofs.Ytjmckodkkckbcaa
open Go.RowKit

/-- A text cut at every byte c: from byte i on, the piece under way began at a. -/
def cutF (s : ByteArray) (c : UInt8) : Nat → Nat → Nat → List ByteArray
  | 0, _, a => [s.extract a s.size]
  | f + 1, i, a => if h : i < s.size then
      (if s[i].toNat = c.toNat then s.extract a i :: cutF s c f (i + 1) (i + 1) else cutF s c f (i + 1) a)
    else [s.extract a s.size]
def cutB (s : ByteArray) (c : UInt8) : List ByteArray := cutF s c s.size 0 0
def CutAt (s : ByteArray) (c : UInt8) (ls : List ByteArray) (i a : Nat) : Prop := cutB s c = ls ++ cutF s c (s.size - i) i a
theorem cut_start (s : ByteArray) (c : UInt8) : CutAt s c [] 0 0 := by simp [CutAt, cutB]
theorem cut_here {s : ByteArray} {c : UInt8} {ls : List ByteArray} {i a : Nat} (h : CutAt s c ls i a) (hi : i < s.size) (e : s[i].toNat = c.toNat) : CutAt s c (ls ++ [s.extract a i]) (i + 1) (i + 1) := by
  rw [CutAt] at h ⊢
  rw [h, show s.size - i = s.size - (i + 1) + 1 by omega, cutF, dif_pos hi, if_pos e]
  simp
theorem cut_on {s : ByteArray} {c : UInt8} {ls : List ByteArray} {i a : Nat} (h : CutAt s c ls i a) (hi : i < s.size) (e : ¬ s[i].toNat = c.toNat) : CutAt s c ls (i + 1) a := by
  rw [CutAt] at h ⊢
  rw [h, show s.size - i = s.size - (i + 1) + 1 by omega, cutF, dif_pos hi, if_neg e]
theorem cut_end {s : ByteArray} {c : UInt8} {ls : List ByteArray} {i a : Nat} (h : CutAt s c ls i a) (hi : s.size ≤ i) : cutB s c = ls ++ [s.extract a s.size] := by
  rw [CutAt, Nat.sub_eq_zero_of_le hi] at h; exact h

end Go.Proofs.Ytjmckodkkckbcaa
/- A text cut at every byte of one value: the model's way and the library's. -/
namespace Go.Proofs.Ytjmckodkkckbcaa
open Go.RowKit

def cutP (c : UInt8) : List UInt8 → List (List UInt8)
  | [] => [[]]
  | x :: r => if x = c then [] :: cutP c r else match cutP c r with
    | [] => [[x]]
    | h :: t => (x :: h) :: t

theorem cutP_ne (c : UInt8) (l : List UInt8) : ∃ h t, cutP c l = h :: t := by
  cases l with
  | nil => exact ⟨_, _, rfl⟩
  | cons x r =>
    rw [cutP]
    split
    · exact ⟨_, _, rfl⟩
    · split <;> exact ⟨_, _, rfl⟩
theorem cutP_miss {c : UInt8} : ∀ {l : List UInt8}, c ∉ l → cutP c l = [l] := by
  intro l
  induction l with
  | nil => intro _; rfl
  | cons x r ih =>
    intro h
    simp only [List.mem_cons, not_or] at h
    rw [cutP, if_neg (fun e => h.1 e.symm), ih h.2]
theorem cutP_hit {c : UInt8} {b : List UInt8} : ∀ {a : List UInt8}, c ∉ a → cutP c (a ++ c :: b) = a :: cutP c b := by
  intro a
  induction a with
  | nil => intro _; rw [List.nil_append, cutP, if_pos rfl]
  | cons x r ih =>
    intro h
    simp only [List.mem_cons, not_or] at h
    rw [List.cons_append, cutP, if_neg (fun e => h.1 e.symm), ih h.2]

theorem occ_one {l : List UInt8} {c : UInt8} {j : Nat} : Lib.occAt l [c] j = true ↔ l[j]? = some c := by
  unfold Lib.occAt
  cases hd : l.drop j with
  | nil =>
    have : l.length ≤ j := List.drop_eq_nil_iff.1 hd
    simp [List.getElem?_eq_none this]
  | cons x r =>
    have hx : l[j]? = some x := by
      have := congrArg (fun l => l[0]?) hd
      simpa [List.getElem?_drop] using this
    rw [hx]
    simp [List.isPrefixOf]
    exact eq_comm
theorem index_cases (l : List UInt8) (c : UInt8) : (Lib.index l [c] = -1 ∧ c ∉ l) ∨ ∃ i : Nat, Lib.index l [c] = i ∧ l = l.take i ++ c :: l.drop (i + 1) ∧ c ∉ l.take i := by
  rcases Lib.index_spec l [c] with ⟨h, hn⟩ | ⟨i, h, hi, ho, hno⟩
  · refine .inl ⟨h, fun hm => ?_⟩
    obtain ⟨j, hj⟩ := List.getElem?_of_mem hm
    have hjl : j < l.length := (List.getElem?_eq_some_iff.1 hj).1
    have := hn j (by omega)
    rw [occ_one.2 hj] at this
    cases this
  · refine .inr ⟨i, h, ?_, fun hm => ?_⟩
    · have hx := occ_one.1 ho
      obtain ⟨hl, hx⟩ := List.getElem?_eq_some_iff.1 hx
      have h2 := List.drop_eq_getElem_cons hl
      rw [hx] at h2
      rw [← h2, List.take_append_drop]
    · obtain ⟨j, hj⟩ := List.getElem?_of_mem hm
      rw [List.getElem?_take] at hj
      by_cases hji : j < i
      · rw [if_pos hji] at hj
        have := hno j hji
        rw [occ_one.2 hj] at this
        cases this
      · rw [if_neg hji] at hj; cases hj

theorem split_cutP (c : UInt8) : ∀ (k : Nat) (l : List UInt8), (Lib.splitK [c] 0 k l).length = min (k + 1) (cutP c l).length ∧ ((cutP c l).length ≤ k + 1 → Lib.splitK [c] 0 k l = cutP c l) := by
  intro k
  induction k with
  | zero =>
    intro l
    obtain ⟨h, t, e⟩ := cutP_ne c l
    rcases index_cases l c with ⟨_, hm⟩ | ⟨i, _, hl, hm⟩
    · rw [cutP_miss hm]; simp [Lib.splitK]
    · have e2 := cutP_hit (b := l.drop (i + 1)) hm
      rw [← hl] at e2
      obtain ⟨h', t', e'⟩ := cutP_ne c (l.drop (i + 1))
      rw [e2, e']
      simp [Lib.splitK]
  | succ k ih =>
    intro l
    rcases index_cases l c with ⟨hx, hm⟩ | ⟨i, hx, hl, hm⟩
    · rw [cutP_miss hm, Lib.splitK, if_pos (by rw [hx]; rfl)]
      simp
    · have e2 := cutP_hit (b := l.drop (i + 1)) hm
      rw [← hl] at e2
      have hne : ¬ (Lib.index l [c] == -1) = true := by
        rw [hx, beq_iff_eq]; omega
      rw [e2, Lib.splitK, if_neg hne, hx]
      simp only [Int.toNat_natCast, Nat.add_zero, List.length_cons, List.length_nil]
      have := ih (l.drop (i + 1))
      refine ⟨by rw [this.1]; omega, fun h => ?_⟩
      rw [this.2 (by omega)]
theorem count_cutP (c : UInt8) : ∀ (n : Nat) (l : List UInt8), l.length ≤ n → Lib.count l [c] + 1 = (cutP c l).length := by
  intro n
  induction n with
  | zero =>
    intro l h
    have : l = [] := List.length_eq_zero_iff.1 (by omega)
    subst this
    rw [Lib.count_miss (by rfl)]; rfl
  | succ n ih =>
    intro l h
    rcases index_cases l c with ⟨hx, hm⟩ | ⟨i, hx, hl, hm⟩
    · rw [cutP_miss hm, Lib.count_miss hx]; rfl
    · have e2 := cutP_hit (b := l.drop (i + 1)) hm
      rw [← hl] at e2
      have hlen : (l.drop (i + 1)).length ≤ n := by
        have := congrArg List.length hl
        simp at this ⊢
        omega
      have hi := ih _ hlen
      rw [e2, Lib.count_hit (by simp) hx]
      simp only [List.length_cons, List.length_nil, Nat.zero_add]
      omega

/-- The model's cutting is that one. -/
theorem cutF_data (s : ByteArray) (c : UInt8) : ∀ (f i a : Nat), a ≤ i → i ≤ s.size → f = s.size - i →
    ∃ h t, cutP c (s.data.toList.drop i) = h :: t ∧ (cutF s c f i a).map (·.data.toList) = ((s.data.toList.take i).drop a ++ h) :: t := by
  intro f
  induction f with
  | zero =>
    intro i a ha hi hf
    have hd : s.data.toList.drop i = [] := List.drop_eq_nil_of_le (by simp; omega)
    refine ⟨[], [], by rw [hd]; rfl, ?_⟩
    have : i = s.size := by omega
    subst this
    simp [cutF, List.extract_eq_take_drop]
    rw [List.take_of_length_le (by simp), List.take_of_length_le (by simp)]
  | succ f ih =>
    intro i a ha hi hf
    have hlt : i < s.size := by omega
    have hd : s.data.toList.drop i = s[i] :: s.data.toList.drop (i + 1) := by
      rw [List.drop_eq_getElem_cons (by simpa using hlt)]; rfl
    have ht : s.data.toList.take (i + 1) = s.data.toList.take i ++ [s[i]] := Nm.take_step (Nm.get_data hlt)
    rw [cutF, dif_pos hlt, hd]
    by_cases e : s[i].toNat = c.toNat
    · have ec : s[i] = c := UInt8.toNat_inj.1 e
      rw [if_pos e]
      obtain ⟨h, t, h1, h2⟩ := ih (i + 1) (i + 1) (Nat.le_refl _) (by omega) (by omega)
      refine ⟨[], h :: t, by rw [cutP, if_pos ec, h1], ?_⟩
      rw [List.map_cons, h2, List.drop_eq_nil_of_le (by simp; omega), List.nil_append, List.append_nil]
      congr 1
      simp [List.extract_eq_take_drop, List.drop_take]
    · have ec : ¬ s[i] = c := fun h => e (by rw [h])
      rw [if_neg e]
      obtain ⟨h, t, h1, h2⟩ := ih (i + 1) a (by omega) (by omega) (by omega)
      refine ⟨s[i] :: h, t, by rw [cutP, if_neg ec, h1], ?_⟩
      rw [h2, ht, List.drop_append_of_le_length (by simp; omega)]
      simp
theorem cutB_data (s : ByteArray) (c : UInt8) : (cutB s c).map (·.data.toList) = cutP c s.data.toList := by
  obtain ⟨h, t, h1, h2⟩ := cutF_data s c s.size 0 0 (Nat.le_refl _) (Nat.zero_le _) rfl
  rw [List.drop_zero] at h1
  rw [cutB, h2, h1]
  simp

theorem data_inj : ∀ {a b : List ByteArray}, a.map (·.data.toList) = b.map (·.data.toList) → a = b := by
  intro a
  induction a with
  | nil => intro b h; cases b with
    | nil => rfl
    | cons => simp at h
  | cons x r ih => intro b h; cases b with
    | nil => simp at h
    | cons y t =>
      simp only [List.map_cons, List.cons.injEq] at h
      rw [Nm.ba_ext h.1, ih h.2]

theorem cutB_len (s : ByteArray) (c : UInt8) : (cutB s c).length = (cutP c s.data.toList).length := by rw [← cutB_data, List.length_map]
theorem splitB_len (s : ByteArray) (c : UInt8) (k : Nat) : (Lib.splitB ⟨#[c]⟩ 0 k s).length = min (k + 1) (cutB s c).length := by
  have h := congrArg List.length (Lib.splitB_data ⟨#[c]⟩ 0 k s)
  rw [List.length_map] at h
  rw [h, cutB_len]
  exact (split_cutP c k s.data.toList).1
theorem splitB_cut {s : ByteArray} {c : UInt8} {k : Nat} (h : (cutB s c).length ≤ k + 1) : Lib.splitB ⟨#[c]⟩ 0 k s = cutB s c := by
  apply data_inj
  rw [Lib.splitB_data, cutB_data]
  rw [cutB_len] at h
  exact (split_cutP c k s.data.toList).2 h
theorem count_cut (s : ByteArray) (c : UInt8) : Lib.countB s ⟨#[c]⟩ + 1 = (cutB s c).length := by
  rw [cutB_len]
  exact count_cutP c _ s.data.toList (Nat.le_refl _)
theorem cutP_le (c : UInt8) : ∀ l : List UInt8, (cutP c l).length ≤ l.length + 1 := by
  intro l
  induction l with
  | nil => simp [cutP]
  | cons x r ih =>
    rw [cutP]
    split
    · simp; omega
    · split
      · simp
      · rename_i h t e; rw [e] at ih; simp at ih ⊢; omega
theorem cutB_le (s : ByteArray) (c : UInt8) : (cutB s c).length ≤ s.size + 1 := by
  rw [cutB_len]
  have := cutP_le c s.data.toList
  simpa using this
end Go.Proofs.Ytjmckodkkckbcaa
/- A name's text, as plain mathematics. -/
namespace Go.Proofs.Ytjmckodkkckbcaa.Nm
open Go.RowKit

def digB (c : UInt8) : Bool := decide (48 ≤ c.toNat) && decide (c.toNat ≤ 57)

def num3 (c d e : UInt8) : Nat := (c.toNat - 48) * 100 + (d.toNat - 48) * 10 + (e.toNat - 48)

def esc3 (c : UInt8) : List UInt8 → Option (UInt8 × Nat)
  | d :: e :: _ => if digB d = true ∧ digB e = true then (if num3 c d e ≤ 255 then some (UInt8.ofNat (num3 c d e), 3) else none) else none
  | _ => none

/-- What stands behind a backslash: the byte, and how many bytes it takes. -/
def escF : List UInt8 → Option (UInt8 × Nat)
  | [] => none
  | c :: r => if digB c = true then esc3 c r else some (c, 1)

theorem esc_nil : escF [] = none := rfl
theorem esc_byte {c : UInt8} (r : List UInt8) (h : digB c = false) : escF (c :: r) = some (c, 1) := by
  rw [escF, if_neg (by simp [h])]
theorem esc_short {c : UInt8} {r : List UInt8} (h : digB c = true) (hr : r.length < 2) : escF (c :: r) = none := by
  rw [escF, if_pos h]
  match r, hr with
  | [], _ => rfl
  | [_], _ => rfl
theorem esc_three {c d e : UInt8} {r : List UInt8} (h : digB c = true) : escF (c :: d :: e :: r) = if digB d = true ∧ digB e = true then (if num3 c d e ≤ 255 then some (UInt8.ofNat (num3 c d e), 3) else none) else none := by
  rw [escF, if_pos h, esc3]

theorem esc_len {l : List UInt8} {b : UInt8} {n : Nat} (h : escF l = some (b, n)) : 1 ≤ n ∧ n ≤ l.length ∧ n ≤ 3 := by
  cases l with
  | nil => simp [escF] at h
  | cons c r =>
    cases hd : digB c with
    | false =>
      rw [esc_byte r hd] at h
      simp at h
      simp only [List.length_cons]
      omega
    | true =>
      match r with
      | [] => rw [esc_short hd (by simp)] at h; simp at h
      | [_] => rw [esc_short hd (by simp)] at h; simp at h
      | d :: e :: r =>
        rw [esc_three hd] at h
        split at h
        · split at h
          · simp at h
            simp only [List.length_cons]
            omega
          · simp at h
        · simp at h

def fitsB (n : Nat) : Bool := decide (1 ≤ n) && decide (n ≤ 63)

def scanF : Nat → Bool → List UInt8 → List UInt8 → List ByteArray → List ByteArray × Bool × Int
  | 0, _, _, _, _ => ([], false, 0)
  | _ + 1, st, [], now, done =>
    if st = true then (done, true, 0)
    else if fitsB now.length = true then (done ++ [⟨now.toArray⟩], false, 0) else ([], false, 2)
  | f + 1, _, c :: r, now, done =>
    if c = 46 then
      (if fitsB now.length = true then scanF f true r [] (done ++ [⟨now.toArray⟩]) else ([], false, 2))
    else if c = 92 then
      (match escF r with
      | none => ([], false, 4)
      | some (b, n) => scanF f false (r.drop n) (now ++ [b]) done)
    else scanF f false r (now ++ [c]) done

def scanS (s : ByteArray) : List ByteArray × Bool × Int := scanF (s.size + 1) false s.data.toList [] []

def ScAt (s : ByteArray) (st : Bool) (k : Nat) (now : List UInt8) (done : List ByteArray) : Prop :=
  k ≤ s.size ∧ ∃ f, s.size - k < f ∧ scanS s = scanF f st (s.data.toList.drop k) now done

theorem sc_start (s : ByteArray) : ScAt s false 0 [] [] := ⟨Nat.zero_le _, s.size + 1, by omega, by rw [List.drop_zero]; rfl⟩

theorem sc_start' (s : ByteArray) (h : 0 < s.size) : ScAt s true 0 [] [] := by
  refine ⟨Nat.zero_le _, s.size + 1, by omega, ?_⟩
  rw [List.drop_zero, scanS]
  cases hd : s.data.toList with
  | nil =>
    have : s.data.toList.length = 0 := by rw [hd]; rfl
    simp at this
    have h2 : s.size = 0 := by simp [this]
    omega
  | cons c r => simp only [scanF]

theorem drop_at {s : ByteArray} {k : Nat} (h : k < s.size) : s.data.toList.drop k = s[k] :: s.data.toList.drop (k + 1) := by
  have hl : k < s.data.toList.length := by simpa using h
  rw [List.drop_eq_getElem_cons hl]
  rfl

theorem drop_end {s : ByteArray} : s.data.toList.drop s.size = [] := List.drop_of_length_le (by simp)

section
variable {s : ByteArray} {st : Bool} {k : Nat} {now : List UInt8} {done : List ByteArray}

theorem sc_dot (h : ScAt s st k now done) (hk : k < s.size) (hc : s[k] = 46) (hf : fitsB now.length = true) : ScAt s true (k + 1) [] (done ++ [⟨now.toArray⟩]) := by
  obtain ⟨_, f, hf2, e⟩ := h
  obtain ⟨g, rfl⟩ : ∃ g, f = g + 1 := ⟨f - 1, by omega⟩
  refine ⟨by omega, g, by omega, ?_⟩
  rw [e, drop_at hk, scanF, if_pos hc, if_pos hf]

theorem sc_dot_bad (h : ScAt s st k now done) (hk : k < s.size) (hc : s[k] = 46) (hf : fitsB now.length = false) : scanS s = ([], false, 2) := by
  obtain ⟨_, f, hf2, e⟩ := h
  obtain ⟨g, rfl⟩ : ∃ g, f = g + 1 := ⟨f - 1, by omega⟩
  rw [e, drop_at hk, scanF, if_pos hc, if_neg (by simp [hf])]

theorem sc_esc_bad (h : ScAt s st k now done) (hk : k < s.size) (hc : s[k] = 92) (he : escF (s.data.toList.drop (k + 1)) = none) : scanS s = ([], false, 4) := by
  obtain ⟨_, f, hf2, e⟩ := h
  obtain ⟨g, rfl⟩ : ∃ g, f = g + 1 := ⟨f - 1, by omega⟩
  rw [e, drop_at hk, scanF, if_neg (by rw [hc]; decide), if_pos hc, he]

theorem sc_esc (h : ScAt s st k now done) (hk : k < s.size) (hc : s[k] = 92) {b : UInt8} {n : Nat} (he : escF (s.data.toList.drop (k + 1)) = some (b, n)) : ScAt s false (k + 1 + n) (now ++ [b]) done := by
  obtain ⟨_, f, hf2, e⟩ := h
  obtain ⟨g, rfl⟩ : ∃ g, f = g + 1 := ⟨f - 1, by omega⟩
  have hl := esc_len he
  simp only [List.length_drop, Array.length_toList, ByteArray.size_data] at hl
  refine ⟨by omega, g, by omega, ?_⟩
  rw [e, drop_at hk, scanF, if_neg (by rw [hc]; decide), if_pos hc, he]
  simp only [List.drop_drop]

theorem sc_plain (h : ScAt s st k now done) (hk : k < s.size) (hc : s[k] ≠ 46) (hc2 : s[k] ≠ 92) : ScAt s false (k + 1) (now ++ [s[k]]) done := by
  obtain ⟨_, f, hf2, e⟩ := h
  obtain ⟨g, rfl⟩ : ∃ g, f = g + 1 := ⟨f - 1, by omega⟩
  refine ⟨by omega, g, by omega, ?_⟩
  rw [e, drop_at hk, scanF, if_neg hc, if_neg hc2]

theorem sc_abs (h : ScAt s true k now done) (hk : k = s.size) : scanS s = (done, true, 0) := by
  obtain ⟨_, f, hf2, e⟩ := h
  obtain ⟨g, rfl⟩ : ∃ g, f = g + 1 := ⟨f - 1, by omega⟩
  rw [e, hk, drop_end, scanF, if_pos rfl]

theorem sc_rel (h : ScAt s false k now done) (hk : k = s.size) (hf : fitsB now.length = true) : scanS s = (done ++ [⟨now.toArray⟩], false, 0) := by
  obtain ⟨_, f, hf2, e⟩ := h
  obtain ⟨g, rfl⟩ : ∃ g, f = g + 1 := ⟨f - 1, by omega⟩
  rw [e, hk, drop_end, scanF, if_neg (by simp), if_pos hf]

theorem sc_rel_bad (h : ScAt s false k now done) (hk : k = s.size) (hf : fitsB now.length = false) : scanS s = ([], false, 2) := by
  obtain ⟨_, f, hf2, e⟩ := h
  obtain ⟨g, rfl⟩ : ∃ g, f = g + 1 := ⟨f - 1, by omega⟩
  rw [e, hk, drop_end, scanF, if_neg (by simp), if_neg (by simp [hf])]
end

theorem fits_yes {n : Nat} (h1 : 1 ≤ n) (h2 : n ≤ 63) : fitsB n = true := by simp [fitsB, h1, h2]
theorem fits_no {n : Nat} (h : ¬ (1 ≤ n ∧ n ≤ 63)) : fitsB n = false := by
  simp [fitsB]; omega

end Go.Proofs.Ytjmckodkkckbcaa.Nm
