import Derived.Test.YtmaopfagkffccaaGreatJMvM
import Derived.Test.YtmaopfagkffccaaGreatJDataM
import Derived.Lib.Split
import Derived.Lib.IndexMore
import Derived.Test.YtmaopfagkffccaaGreatJMath
/- A text cut at every byte of one value: the model's way and the library's. -/
namespace Go.Proofs.YtmaopfagkffccaaGreat
open Go.RowKit

def cutP (c : UInt8) : List UInt8 → List (List UInt8)
  | [] => [[]]
  | x :: r => if x = c then [] :: cutP c r else match cutP c r with
    | [] => [[x]]
    | h :: t => (x :: h) :: t

theorem cutP_ne (c : UInt8) (l : List UInt8) : ∃ h t, cutP c l = h :: t := by
  cases l with
  | nil => exact ⟨_, _, rfl⟩
  | cons x r =>
    rw [cutP]
    split
    · exact ⟨_, _, rfl⟩
    · split <;> exact ⟨_, _, rfl⟩
theorem cutP_miss {c : UInt8} : ∀ {l : List UInt8}, c ∉ l → cutP c l = [l] := by
  intro l
  induction l with
  | nil => intro _; rfl
  | cons x r ih =>
    intro h
    simp only [List.mem_cons, not_or] at h
    rw [cutP, if_neg (fun e => h.1 e.symm), ih h.2]
theorem cutP_hit {c : UInt8} {b : List UInt8} : ∀ {a : List UInt8}, c ∉ a → cutP c (a ++ c :: b) = a :: cutP c b := by
  intro a
  induction a with
  | nil => intro _; rw [List.nil_append, cutP, if_pos rfl]
  | cons x r ih =>
    intro h
    simp only [List.mem_cons, not_or] at h
    rw [List.cons_append, cutP, if_neg (fun e => h.1 e.symm), ih h.2]

theorem occ_one {l : List UInt8} {c : UInt8} {j : Nat} : Lib.occAt l [c] j = true ↔ l[j]? = some c := by
  unfold Lib.occAt
  cases hd : l.drop j with
  | nil =>
    have : l.length ≤ j := List.drop_eq_nil_iff.1 hd
    simp [List.getElem?_eq_none this]
  | cons x r =>
    have hx : l[j]? = some x := by
      have := congrArg (fun l => l[0]?) hd
      simpa [List.getElem?_drop] using this
    rw [hx]
    simp [List.isPrefixOf]
    exact eq_comm
theorem index_cases (l : List UInt8) (c : UInt8) : (Lib.index l [c] = -1 ∧ c ∉ l) ∨ ∃ i : Nat, Lib.index l [c] = i ∧ l = l.take i ++ c :: l.drop (i + 1) ∧ c ∉ l.take i := by
  rcases Lib.index_spec l [c] with ⟨h, hn⟩ | ⟨i, h, hi, ho, hno⟩
  · refine .inl ⟨h, fun hm => ?_⟩
    obtain ⟨j, hj⟩ := List.getElem?_of_mem hm
    have hjl : j < l.length := (List.getElem?_eq_some_iff.1 hj).1
    have := hn j (by omega)
    rw [occ_one.2 hj] at this
    cases this
  · refine .inr ⟨i, h, ?_, fun hm => ?_⟩
    · have hx := occ_one.1 ho
      obtain ⟨hl, hx⟩ := List.getElem?_eq_some_iff.1 hx
      have h2 := List.drop_eq_getElem_cons hl
      rw [hx] at h2
      rw [← h2, List.take_append_drop]
    · obtain ⟨j, hj⟩ := List.getElem?_of_mem hm
      rw [List.getElem?_take] at hj
      by_cases hji : j < i
      · rw [if_pos hji] at hj
        have := hno j hji
        rw [occ_one.2 hj] at this
        cases this
      · rw [if_neg hji] at hj; cases hj

theorem split_cutP (c : UInt8) : ∀ (k : Nat) (l : List UInt8), (Lib.splitK [c] 0 k l).length = min (k + 1) (cutP c l).length ∧ ((cutP c l).length ≤ k + 1 → Lib.splitK [c] 0 k l = cutP c l) := by
  intro k
  induction k with
  | zero =>
    intro l
    obtain ⟨h, t, e⟩ := cutP_ne c l
    rcases index_cases l c with ⟨_, hm⟩ | ⟨i, _, hl, hm⟩
    · rw [cutP_miss hm]; simp [Lib.splitK]
    · have e2 := cutP_hit (b := l.drop (i + 1)) hm
      rw [← hl] at e2
      obtain ⟨h', t', e'⟩ := cutP_ne c (l.drop (i + 1))
      rw [e2, e']
      simp [Lib.splitK]
  | succ k ih =>
    intro l
    rcases index_cases l c with ⟨hx, hm⟩ | ⟨i, hx, hl, hm⟩
    · rw [cutP_miss hm, Lib.splitK, if_pos (by rw [hx]; rfl)]
      simp
    · have e2 := cutP_hit (b := l.drop (i + 1)) hm
      rw [← hl] at e2
      have hne : ¬ (Lib.index l [c] == -1) = true := by
        rw [hx, beq_iff_eq]; omega
      rw [e2, Lib.splitK, if_neg hne, hx]
      simp only [Int.toNat_natCast, Nat.add_zero, List.length_cons, List.length_nil]
      have := ih (l.drop (i + 1))
      refine ⟨by rw [this.1]; omega, fun h => ?_⟩
      rw [this.2 (by omega)]
theorem count_cutP (c : UInt8) : ∀ (n : Nat) (l : List UInt8), l.length ≤ n → Lib.count l [c] + 1 = (cutP c l).length := by
  intro n
  induction n with
  | zero =>
    intro l h
    have : l = [] := List.length_eq_zero_iff.1 (by omega)
    subst this
    rw [Lib.count_miss (by rfl)]; rfl
  | succ n ih =>
    intro l h
    rcases index_cases l c with ⟨hx, hm⟩ | ⟨i, hx, hl, hm⟩
    · rw [cutP_miss hm, Lib.count_miss hx]; rfl
    · have e2 := cutP_hit (b := l.drop (i + 1)) hm
      rw [← hl] at e2
      have hlen : (l.drop (i + 1)).length ≤ n := by
        have := congrArg List.length hl
        simp at this ⊢
        omega
      have hi := ih _ hlen
      rw [e2, Lib.count_hit (by simp) hx]
      simp only [List.length_cons, List.length_nil, Nat.zero_add]
      omega

/-- The model's cutting is that one. -/
theorem cutF_data (s : ByteArray) (c : UInt8) : ∀ (f i a : Nat), a ≤ i → i ≤ s.size → f = s.size - i →
    ∃ h t, cutP c (s.data.toList.drop i) = h :: t ∧ (cutF s c f i a).map (·.data.toList) = ((s.data.toList.take i).drop a ++ h) :: t := by
  intro f
  induction f with
  | zero =>
    intro i a ha hi hf
    have hd : s.data.toList.drop i = [] := List.drop_eq_nil_of_le (by simp; omega)
    refine ⟨[], [], by rw [hd]; rfl, ?_⟩
    have : i = s.size := by omega
    subst this
    simp [cutF, List.extract_eq_take_drop]
    rw [List.take_of_length_le (by simp), List.take_of_length_le (by simp)]
  | succ f ih =>
    intro i a ha hi hf
    have hlt : i < s.size := by omega
    have hd : s.data.toList.drop i = s[i] :: s.data.toList.drop (i + 1) := by
      rw [List.drop_eq_getElem_cons (by simpa using hlt)]; rfl
    have ht : s.data.toList.take (i + 1) = s.data.toList.take i ++ [s[i]] := Nm.take_step (Nm.get_data hlt)
    rw [cutF, dif_pos hlt, hd]
    by_cases e : s[i].toNat = c.toNat
    · have ec : s[i] = c := UInt8.toNat_inj.1 e
      rw [if_pos e]
      obtain ⟨h, t, h1, h2⟩ := ih (i + 1) (i + 1) (Nat.le_refl _) (by omega) (by omega)
      refine ⟨[], h :: t, by rw [cutP, if_pos ec, h1], ?_⟩
      rw [List.map_cons, h2, List.drop_eq_nil_of_le (by simp; omega), List.nil_append, List.append_nil]
      congr 1
      simp [List.extract_eq_take_drop, List.drop_take]
    · have ec : ¬ s[i] = c := fun h => e (by rw [h])
      rw [if_neg e]
      obtain ⟨h, t, h1, h2⟩ := ih (i + 1) a (by omega) (by omega) (by omega)
      refine ⟨s[i] :: h, t, by rw [cutP, if_neg ec, h1], ?_⟩
      rw [h2, ht, List.drop_append_of_le_length (by simp; omega)]
      simp
theorem cutB_data (s : ByteArray) (c : UInt8) : (cutB s c).map (·.data.toList) = cutP c s.data.toList := by
  obtain ⟨h, t, h1, h2⟩ := cutF_data s c s.size 0 0 (Nat.le_refl _) (Nat.zero_le _) rfl
  rw [List.drop_zero] at h1
  rw [cutB, h2, h1]
  simp

theorem data_inj : ∀ {a b : List ByteArray}, a.map (·.data.toList) = b.map (·.data.toList) → a = b := by
  intro a
  induction a with
  | nil => intro b h; cases b with
    | nil => rfl
    | cons => simp at h
  | cons x r ih => intro b h; cases b with
    | nil => simp at h
    | cons y t =>
      simp only [List.map_cons, List.cons.injEq] at h
      rw [Nm.ba_ext h.1, ih h.2]

theorem cutB_len (s : ByteArray) (c : UInt8) : (cutB s c).length = (cutP c s.data.toList).length := by rw [← cutB_data, List.length_map]
theorem splitB_len (s : ByteArray) (c : UInt8) (k : Nat) : (Lib.splitB ⟨#[c]⟩ 0 k s).length = min (k + 1) (cutB s c).length := by
  have h := congrArg List.length (Lib.splitB_data ⟨#[c]⟩ 0 k s)
  rw [List.length_map] at h
  rw [h, cutB_len]
  exact (split_cutP c k s.data.toList).1
theorem splitB_cut {s : ByteArray} {c : UInt8} {k : Nat} (h : (cutB s c).length ≤ k + 1) : Lib.splitB ⟨#[c]⟩ 0 k s = cutB s c := by
  apply data_inj
  rw [Lib.splitB_data, cutB_data]
  rw [cutB_len] at h
  exact (split_cutP c k s.data.toList).2 h
theorem count_cut (s : ByteArray) (c : UInt8) : Lib.countB s ⟨#[c]⟩ + 1 = (cutB s c).length := by
  rw [cutB_len]
  exact count_cutP c _ s.data.toList (Nat.le_refl _)
theorem cutP_le (c : UInt8) : ∀ l : List UInt8, (cutP c l).length ≤ l.length + 1 := by
  intro l
  induction l with
  | nil => simp [cutP]
  | cons x r ih =>
    rw [cutP]
    split
    · simp; omega
    · split
      · simp
      · rename_i h t e; rw [e] at ih; simp at ih ⊢; omega
theorem cutB_le (s : ByteArray) (c : UInt8) : (cutB s c).length ≤ s.size + 1 := by
  rw [cutB_len]
  have := cutP_le c s.data.toList
  simpa using this
end Go.Proofs.YtmaopfagkffccaaGreat
/- A name's text, as plain mathematics. -/
namespace Go.Proofs.YtmaopfagkffccaaGreat.Nm
open Go.RowKit

def digB (c : UInt8) : Bool := decide (48 ≤ c.toNat) && decide (c.toNat ≤ 57)

def num3 (c d e : UInt8) : Nat := (c.toNat - 48) * 100 + (d.toNat - 48) * 10 + (e.toNat - 48)

def esc3 (c : UInt8) : List UInt8 → Option (UInt8 × Nat)
  | d :: e :: _ => if digB d = true ∧ digB e = true then (if num3 c d e ≤ 255 then some (UInt8.ofNat (num3 c d e), 3) else none) else none
  | _ => none

/-- What stands behind a backslash: the byte, and how many bytes it takes. -/
def escF : List UInt8 → Option (UInt8 × Nat)
  | [] => none
  | c :: r => if digB c = true then esc3 c r else some (c, 1)

theorem esc_nil : escF [] = none := rfl
theorem esc_byte {c : UInt8} (r : List UInt8) (h : digB c = false) : escF (c :: r) = some (c, 1) := by
  rw [escF, if_neg (by simp [h])]
theorem esc_short {c : UInt8} {r : List UInt8} (h : digB c = true) (hr : r.length < 2) : escF (c :: r) = none := by
  rw [escF, if_pos h]
  match r, hr with
  | [], _ => rfl
  | [_], _ => rfl
theorem esc_three {c d e : UInt8} {r : List UInt8} (h : digB c = true) : escF (c :: d :: e :: r) = if digB d = true ∧ digB e = true then (if num3 c d e ≤ 255 then some (UInt8.ofNat (num3 c d e), 3) else none) else none := by
  rw [escF, if_pos h, esc3]

theorem esc_len {l : List UInt8} {b : UInt8} {n : Nat} (h : escF l = some (b, n)) : 1 ≤ n ∧ n ≤ l.length ∧ n ≤ 3 := by
  cases l with
  | nil => simp [escF] at h
  | cons c r =>
    cases hd : digB c with
    | false =>
      rw [esc_byte r hd] at h
      simp at h
      simp only [List.length_cons]
      omega
    | true =>
      match r with
      | [] => rw [esc_short hd (by simp)] at h; simp at h
      | [_] => rw [esc_short hd (by simp)] at h; simp at h
      | d :: e :: r =>
        rw [esc_three hd] at h
        split at h
        · split at h
          · simp at h
            simp only [List.length_cons]
            omega
          · simp at h
        · simp at h

def fitsB (n : Nat) : Bool := decide (1 ≤ n) && decide (n ≤ 63)

def scanF : Nat → Bool → List UInt8 → List UInt8 → List ByteArray → List ByteArray × Bool × Int
  | 0, _, _, _, _ => ([], false, 0)
  | _ + 1, st, [], now, done =>
    if st = true then (done, true, 0)
    else if fitsB now.length = true then (done ++ [⟨now.toArray⟩], false, 0) else ([], false, 2)
  | f + 1, _, c :: r, now, done =>
    if c = 46 then
      (if fitsB now.length = true then scanF f true r [] (done ++ [⟨now.toArray⟩]) else ([], false, 2))
    else if c = 92 then
      (match escF r with
      | none => ([], false, 4)
      | some (b, n) => scanF f false (r.drop n) (now ++ [b]) done)
    else scanF f false r (now ++ [c]) done

def scanS (s : ByteArray) : List ByteArray × Bool × Int := scanF (s.size + 1) false s.data.toList [] []

def ScAt (s : ByteArray) (st : Bool) (k : Nat) (now : List UInt8) (done : List ByteArray) : Prop :=
  k ≤ s.size ∧ ∃ f, s.size - k < f ∧ scanS s = scanF f st (s.data.toList.drop k) now done

theorem sc_start (s : ByteArray) : ScAt s false 0 [] [] := ⟨Nat.zero_le _, s.size + 1, by omega, by rw [List.drop_zero]; rfl⟩

theorem sc_start' (s : ByteArray) (h : 0 < s.size) : ScAt s true 0 [] [] := by
  refine ⟨Nat.zero_le _, s.size + 1, by omega, ?_⟩
  rw [List.drop_zero, scanS]
  cases hd : s.data.toList with
  | nil =>
    have : s.data.toList.length = 0 := by rw [hd]; rfl
    simp at this
    have h2 : s.size = 0 := by simp [this]
    omega
  | cons c r => simp only [scanF]

theorem drop_at {s : ByteArray} {k : Nat} (h : k < s.size) : s.data.toList.drop k = s[k] :: s.data.toList.drop (k + 1) := by
  have hl : k < s.data.toList.length := by simpa using h
  rw [List.drop_eq_getElem_cons hl]
  rfl

theorem drop_end {s : ByteArray} : s.data.toList.drop s.size = [] := List.drop_of_length_le (by simp)

section
variable {s : ByteArray} {st : Bool} {k : Nat} {now : List UInt8} {done : List ByteArray}

theorem sc_dot (h : ScAt s st k now done) (hk : k < s.size) (hc : s[k] = 46) (hf : fitsB now.length = true) : ScAt s true (k + 1) [] (done ++ [⟨now.toArray⟩]) := by
  obtain ⟨_, f, hf2, e⟩ := h
  obtain ⟨g, rfl⟩ : ∃ g, f = g + 1 := ⟨f - 1, by omega⟩
  refine ⟨by omega, g, by omega, ?_⟩
  rw [e, drop_at hk, scanF, if_pos hc, if_pos hf]

theorem sc_dot_bad (h : ScAt s st k now done) (hk : k < s.size) (hc : s[k] = 46) (hf : fitsB now.length = false) : scanS s = ([], false, 2) := by
  obtain ⟨_, f, hf2, e⟩ := h
  obtain ⟨g, rfl⟩ : ∃ g, f = g + 1 := ⟨f - 1, by omega⟩
  rw [e, drop_at hk, scanF, if_pos hc, if_neg (by simp [hf])]

theorem sc_esc_bad (h : ScAt s st k now done) (hk : k < s.size) (hc : s[k] = 92) (he : escF (s.data.toList.drop (k + 1)) = none) : scanS s = ([], false, 4) := by
  obtain ⟨_, f, hf2, e⟩ := h
  obtain ⟨g, rfl⟩ : ∃ g, f = g + 1 := ⟨f - 1, by omega⟩
  rw [e, drop_at hk, scanF, if_neg (by rw [hc]; decide), if_pos hc, he]

theorem sc_esc (h : ScAt s st k now done) (hk : k < s.size) (hc : s[k] = 92) {b : UInt8} {n : Nat} (he : escF (s.data.toList.drop (k + 1)) = some (b, n)) : ScAt s false (k + 1 + n) (now ++ [b]) done := by
  obtain ⟨_, f, hf2, e⟩ := h
  obtain ⟨g, rfl⟩ : ∃ g, f = g + 1 := ⟨f - 1, by omega⟩
  have hl := esc_len he
  simp only [List.length_drop, Array.length_toList, ByteArray.size_data] at hl
  refine ⟨by omega, g, by omega, ?_⟩
  rw [e, drop_at hk, scanF, if_neg (by rw [hc]; decide), if_pos hc, he]
  simp only [List.drop_drop]

theorem sc_plain (h : ScAt s st k now done) (hk : k < s.size) (hc : s[k] ≠ 46) (hc2 : s[k] ≠ 92) : ScAt s false (k + 1) (now ++ [s[k]]) done := by
  obtain ⟨_, f, hf2, e⟩ := h
  obtain ⟨g, rfl⟩ : ∃ g, f = g + 1 := ⟨f - 1, by omega⟩
  refine ⟨by omega, g, by omega, ?_⟩
  rw [e, drop_at hk, scanF, if_neg hc, if_neg hc2]

theorem sc_abs (h : ScAt s true k now done) (hk : k = s.size) : scanS s = (done, true, 0) := by
  obtain ⟨_, f, hf2, e⟩ := h
  obtain ⟨g, rfl⟩ : ∃ g, f = g + 1 := ⟨f - 1, by omega⟩
  rw [e, hk, drop_end, scanF, if_pos rfl]

theorem sc_rel (h : ScAt s false k now done) (hk : k = s.size) (hf : fitsB now.length = true) : scanS s = (done ++ [⟨now.toArray⟩], false, 0) := by
  obtain ⟨_, f, hf2, e⟩ := h
  obtain ⟨g, rfl⟩ : ∃ g, f = g + 1 := ⟨f - 1, by omega⟩
  rw [e, hk, drop_end, scanF, if_neg (by simp), if_pos hf]

theorem sc_rel_bad (h : ScAt s false k now done) (hk : k = s.size) (hf : fitsB now.length = false) : scanS s = ([], false, 2) := by
  obtain ⟨_, f, hf2, e⟩ := h
  obtain ⟨g, rfl⟩ : ∃ g, f = g + 1 := ⟨f - 1, by omega⟩
  rw [e, hk, drop_end, scanF, if_neg (by simp), if_neg (by simp [hf])]
end

theorem fits_yes {n : Nat} (h1 : 1 ≤ n) (h2 : n ≤ 63) : fitsB n = true := by simp [fitsB, h1, h2]
theorem fits_no {n : Nat} (h : ¬ (1 ≤ n ∧ n ≤ 63)) : fitsB n = false := by
  simp [fitsB]; omega

end Go.Proofs.YtmaopfagkffccaaGreat.Nm
/- Numbers as text: mathematics. -/
namespace Go.Proofs.YtmaopfagkffccaaGreat
open Go.RowKit

def decF : Nat → Nat → List UInt8
  | 0, _ => []
  | f + 1, n => if n < 10 then [UInt8.ofNat (48 + n)] else decF f (n / 10) ++ [UInt8.ofNat (48 + n % 10)]
theorem decF_enough : ∀ (f g n : Nat), n < f → n < g → decF f n = decF g n := by
  intro f
  induction f with
  | zero => intro g n h; omega
  | succ f ih =>
    intro g n hf hg
    cases g with
    | zero => omega
    | succ g =>
      rw [decF, decF]
      by_cases h : n < 10
      · rw [if_pos h, if_pos h]
      · rw [if_neg h, if_neg h, ih g (n / 10) (by omega) (by omega)]

/-- A number in decimal digits. -/
def decL (n : Nat) : List UInt8 := decF (n + 1) n
def decS (n : Nat) : ByteArray := ⟨(decL n).toArray⟩
theorem decL_small {n : Nat} (h : n < 10) : decL n = [UInt8.ofNat (48 + n)] := by rw [decL, decF, if_pos h]
theorem decL_step {n : Nat} (h : ¬ n < 10) : decL n = decL (n / 10) ++ [UInt8.ofNat (48 + n % 10)] := by
  rw [decL, decF, if_neg h, decF_enough _ (n / 10 + 1) _ (by omega) (by omega)]; rfl
theorem decF_len : ∀ (f n : Nat), (decF f n).length ≤ f := by
  intro f
  induction f with
  | zero => intro n; simp [decF]
  | succ f ih =>
    intro n
    rw [decF]
    split
    · simp
    · have := ih (n / 10); simp; omega
theorem decL_len20 {n : Nat} (h : n < 10000000000000000000) : (decL n).length ≤ 20 := by
  have key : ∀ (k n : Nat), n < 10 ^ (k + 1) → (decL n).length ≤ k + 1 := by
    intro k
    induction k with
    | zero => intro n hn; rw [decL_small (by simpa using hn)]; simp
    | succ k ih =>
      intro n hn
      by_cases h10 : n < 10
      · rw [decL_small h10]; simp
      · rw [decL_step h10]
        have := ih (n / 10) (by rw [Nat.pow_succ] at hn; omega)
        simp; omega
  exact key 19 n (by have : (10 : Nat) ^ (19 + 1) = 100000000000000000000 := by decide
                     omega)

/-- The number of a text of digits. -/
def numD (l : List UInt8) : Nat := l.foldl (fun n c => n * 10 + (c.toNat - 48)) 0
theorem numD_snoc (l : List UInt8) (c : UInt8) : numD (l ++ [c]) = numD l * 10 + (c.toNat - 48) := by simp [numD]
def numO (s : ByteArray) (most : Nat) : Option Nat :=
  if 1 ≤ s.size ∧ s.size ≤ most ∧ s.data.toList.all Nm.digB = true then some (numD s.data.toList) else none

theorem numO_len {s : ByteArray} {most : Nat} (h : ¬ (1 ≤ s.size ∧ s.size ≤ most)) : numO s most = none := by
  rw [numO, if_neg (fun h' => h ⟨h'.1, h'.2.1⟩)]
theorem numO_bad {s : ByteArray} {most k : Nat} (hk : k < s.size) (h : Nm.digB s[k] = false) : numO s most = none := by
  rw [numO, if_neg]
  rintro ⟨_, _, h3⟩
  have := List.all_eq_true.1 h3 s[k] (List.mem_of_getElem? (Nm.get_data hk))
  rw [h] at this; cases this
theorem numO_good {s : ByteArray} {most : Nat} (h1 : 1 ≤ s.size) (h2 : s.size ≤ most) (h : ∀ j, (hj : j < s.size) → Nm.digB s[j] = true) : numO s most = some (numD s.data.toList) := by
  rw [numO, if_pos]
  refine ⟨h1, h2, ?_⟩
  rw [List.all_eq_true]
  intro c hc
  obtain ⟨i, hi⟩ := List.getElem?_of_mem hc
  have hl : i < s.size := by
    have := (List.getElem?_eq_some_iff.1 hi).1
    simpa using this
  rw [Nm.get_data hl] at hi
  simp at hi
  rw [← hi]
  exact h _ hl
theorem numD_lt : ∀ (l : List UInt8), (∀ c ∈ l, Nm.digB c = true) → numD l < 10 ^ l.length := by
  have key : ∀ (l : List UInt8) (a : Nat), (∀ c ∈ l, Nm.digB c = true) → l.foldl (fun n c => n * 10 + (c.toNat - 48)) a < (a + 1) * 10 ^ l.length := by
    intro l
    induction l with
    | nil => intro a _; simp
    | cons c l ih =>
      intro a h
      have hc : c.toNat ≤ 57 := by
        have := h c (List.mem_cons_self)
        simp [Nm.digB] at this; omega
      rw [List.foldl_cons, List.length_cons, Nat.pow_succ]
      refine Nat.lt_of_lt_of_le (ih _ (fun x hx => h x (List.mem_cons_of_mem _ hx))) ?_
      have h1 : a * 10 + (c.toNat - 48) + 1 ≤ (a + 1) * 10 := by omega
      have h2 := Nat.mul_le_mul_right (10 ^ l.length) h1
      have h3 : (a + 1) * 10 * 10 ^ l.length = (a + 1) * (10 ^ l.length * 10) := by rw [Nat.mul_assoc, Nat.mul_comm 10]
      omega
  intro l h
  have := key l 0 h
  rw [Nat.zero_add, Nat.one_mul] at this
  exact this

/-- A text cut at every byte of one value. -/
def cutTx (c : UInt8) : List UInt8 → List UInt8 → List (List UInt8)
  | [], cur => [cur]
  | x :: r, cur => if x = c then cur :: cutTx c r [] else cutTx c r (cur ++ [x])
end Go.Proofs.YtmaopfagkffccaaGreat
/- What ReadV4 answers: mathematics. -/
namespace Go.Proofs.YtmaopfagkffccaaGreat
open Go.RowKit

/-- A part of an address of four bytes. -/
def v4Part (p : ByteArray) : Option Nat := match numO p 3 with
  | some n => if n ≤ 255 ∧ decS n = p then some n else none
  | none => none
def v4All : List ByteArray → Option (List UInt8)
  | [] => some []
  | p :: r => match v4Part p with
    | none => none
    | some n => (v4All r).map (fun t => UInt8.ofNat n :: t)
def readV4S (s : ByteArray) : ByteArray × Int :=
  if (cutB s 46).length = 4 then (match v4All (cutB s 46) with
    | some l => (⟨l.toArray⟩, 0)
    | none => (⟨#[]⟩, 7)) else (⟨#[]⟩, 7)

theorem v4_count {s : ByteArray} (h : (cutB s 46).length ≠ 4) : readV4S s = (⟨#[]⟩, 7) := by rw [readV4S, if_neg h]

/-- The reading stands behind k parts. -/
def V4At (ls : List ByteArray) (k : Nat) (o : List UInt8) : Prop := v4All ls = (v4All (ls.drop k)).map (fun t => o ++ t)
theorem v4_start (ls : List ByteArray) : V4At ls 0 [] := by simp [V4At]
theorem v4_next {ls : List ByteArray} {k n : Nat} {o : List UInt8} {p : ByteArray} (h : V4At ls k o) (hp : ls[k]? = some p) (hn : v4Part p = some n) : V4At ls (k + 1) (o ++ [UInt8.ofNat n]) := by
  have hk : k < ls.length := (List.getElem?_eq_some_iff.1 hp).1
  have hx : ls[k] = p := (List.getElem?_eq_some_iff.1 hp).2
  rw [V4At] at h ⊢
  rw [h, List.drop_eq_getElem_cons hk, hx, v4All, hn]
  simp only [Option.map_map]
  congr 1; funext t; simp
theorem v4_bad {s : ByteArray} {k : Nat} {o : List UInt8} {p : ByteArray} (h : V4At (cutB s 46) k o) (hp : (cutB s 46)[k]? = some p) (hn : v4Part p = none) : readV4S s = (⟨#[]⟩, 7) := by
  have hk : k < (cutB s 46).length := (List.getElem?_eq_some_iff.1 hp).1
  have hx : (cutB s 46)[k] = p := (List.getElem?_eq_some_iff.1 hp).2
  have e : v4All ((cutB s 46).drop k) = none := by rw [List.drop_eq_getElem_cons hk, hx, v4All, hn]
  rw [V4At, e] at h
  rw [readV4S, h]
  split <;> rfl
theorem v4_end {s : ByteArray} {o : List UInt8} (h4 : (cutB s 46).length = 4) (h : V4At (cutB s 46) 4 o) : readV4S s = (⟨o.toArray⟩, 0) := by
  have e : (cutB s 46).drop 4 = [] := List.drop_eq_nil_of_le (by omega)
  rw [V4At, e] at h
  rw [readV4S, if_pos h4, h]
  simp [v4All]

/-- How long the parts are together. -/
theorem cutP_sum (c : UInt8) : ∀ l : List UInt8, ((cutP c l).map List.length).sum + (cutP c l).length = l.length + 1 := by
  intro l
  induction l with
  | nil => rfl
  | cons x r ih =>
    rw [cutP]
    split
    · simp; omega
    · split
      · rename_i e; rw [e] at ih; simp at ih
      · rename_i h t e; rw [e] at ih; simp at ih ⊢; omega
theorem v4_sizes : ∀ {ls : List ByteArray} {l : List UInt8}, v4All ls = some l → (ls.map (fun p => p.data.toList.length)).sum ≤ 3 * ls.length := by
  intro ls
  induction ls with
  | nil => intro l _; simp
  | cons p r ih =>
    intro l h
    rw [v4All] at h
    cases hp : v4Part p with
    | none => rw [hp] at h; cases h
    | some n =>
      rw [hp] at h
      cases hr : v4All r with
      | none => rw [hr] at h; cases h
      | some t =>
        have := ih hr
        have hz : p.size ≤ 3 := by
          unfold v4Part at hp
          by_cases hq : 1 ≤ p.size ∧ p.size ≤ 3
          · exact hq.2
          · rw [numO_len hq] at hp; cases hp
        have hz2 : p.data.toList.length = p.size := by simp
        simp only [List.map_cons, List.sum_cons, List.length_cons]
        omega
theorem v4_long {s : ByteArray} (h : 15 < s.size) : readV4S s = (⟨#[]⟩, 7) := by
  rw [readV4S]
  split
  · rename_i h4
    cases hv : v4All (cutB s 46) with
    | none => rfl
    | some l =>
      exfalso
      have h1 := v4_sizes hv
      have h2 := cutP_sum 46 s.data.toList
      rw [← cutB_data, List.map_map, List.length_map] at h2
      have h3 : s.data.toList.length = s.size := by simp
      have h5 : ((cutB s 46).map (List.length ∘ fun x => x.data.toList)).sum = ((cutB s 46).map (fun p => p.data.toList.length)).sum := rfl
      omega
  · rfl

theorem dec_two {x y : Nat} (hx : x < 10) (hy : y < 10) (h0 : x ≠ 0) : decL (10 * x + y) = [UInt8.ofNat (48 + x), UInt8.ofNat (48 + y)] := by
  rw [decL_step (by omega), show (10 * x + y) / 10 = x by omega, show (10 * x + y) % 10 = y by omega, decL_small hx]; rfl
theorem dec_three {x y z : Nat} (hx : x < 10) (hy : y < 10) (hz : z < 10) (h0 : x ≠ 0) : decL (100 * x + 10 * y + z) = [UInt8.ofNat (48 + x), UInt8.ofNat (48 + y), UInt8.ofNat (48 + z)] := by
  rw [decL_step (by omega), show (100 * x + 10 * y + z) / 10 = 10 * x + y by omega, show (100 * x + 10 * y + z) % 10 = z by omega, dec_two hx hy h0]; rfl
theorem dec_len2 {n : Nat} (h : n < 100) : (decL n).length ≤ 2 := by
  by_cases h1 : n < 10
  · rw [decL_small h1]; simp
  · rw [decL_step h1, decL_small (by omega)]; simp
theorem dec_len1 {n : Nat} (h : n < 10) : (decL n).length = 1 := by rw [decL_small h]; rfl
theorem dig_back {c : UInt8} (h : Nm.digB c = true) : UInt8.ofNat (48 + (c.toNat - 48)) = c ∧ c.toNat - 48 < 10 := by
  simp [Nm.digB] at h
  have e : 48 + (c.toNat - 48) = c.toNat := by omega
  rw [e]
  exact ⟨by simp, by omega⟩

/-- A number of at most three digits has no needless nought ahead just where it is written so. -/
theorem dec_iff {p : ByteArray} {n : Nat} (h : numO p 3 = some n) (hp : 0 < p.size) : decS n = p ↔ ¬ (1 < p.size ∧ p[0].toNat = 48) := by
  have hq : 1 ≤ p.size ∧ p.size ≤ 3 ∧ p.data.toList.all Nm.digB = true := by
    unfold numO at h
    by_cases hc : 1 ≤ p.size ∧ p.size ≤ 3 ∧ p.data.toList.all Nm.digB = true
    · exact hc
    · rw [if_neg hc] at h; cases h
  have hn : n = numD p.data.toList := by
    rw [numO, if_pos hq] at h; exact (Option.some.inj h).symm
  have hsz : p.data.toList.length = p.size := by simp
  have h0 : p.data.toList[0]? = some p[0] := Nm.get_data hp
  have hS : decS n = p ↔ decL n = p.data.toList := by
    constructor
    · intro e; rw [← e]; simp [decS]
    · intro e; apply Nm.ba_ext; simp [decS, e]
  rw [hS]
  generalize p[0] = q at *
  generalize p.data.toList = l at *
  generalize p.size = z at *
  obtain ⟨_, hz3, hall⟩ := hq
  match l, hsz with
  | [a], hsz =>
    simp at hsz h0
    simp only [List.all_cons, List.all_nil, Bool.and_true] at hall
    obtain ⟨e1, e2⟩ := dig_back hall
    have : n = a.toNat - 48 := by rw [hn]; simp [numD]
    rw [this, decL_small e2, e1]
    constructor
    · intro _; omega
    · intro _; rfl
  | [a, b], hsz =>
    simp at hsz h0
    simp only [List.all_cons, List.all_nil, Bool.and_true, Bool.and_eq_true] at hall
    obtain ⟨e1, e2⟩ := dig_back hall.1
    obtain ⟨f1, f2⟩ := dig_back hall.2
    have hd : 48 ≤ a.toNat := by have := hall.1; simp [Nm.digB] at this; omega
    have : n = 10 * (a.toNat - 48) + (b.toNat - 48) := by rw [hn]; simp [numD]; omega
    subst h0
    by_cases ha : a.toNat = 48
    · constructor
      · intro e
        have h1 := congrArg List.length e
        rw [dec_len1 (by omega)] at h1
        simp at h1
      · intro hx; exact absurd ⟨by omega, ha⟩ hx
    · constructor
      · intro _ hx; exact ha hx.2
      · intro _
        rw [this, dec_two e2 f2 (by omega), e1, f1]
  | [a, b, c], hsz =>
    simp at hsz h0
    simp only [List.all_cons, List.all_nil, Bool.and_true, Bool.and_eq_true] at hall
    obtain ⟨e1, e2⟩ := dig_back hall.1
    obtain ⟨f1, f2⟩ := dig_back hall.2.1
    obtain ⟨g1, g2⟩ := dig_back hall.2.2
    have hd : 48 ≤ a.toNat := by have := hall.1; simp [Nm.digB] at this; omega
    have : n = 100 * (a.toNat - 48) + 10 * (b.toNat - 48) + (c.toNat - 48) := by rw [hn]; simp [numD]; omega
    subst h0
    by_cases ha : a.toNat = 48
    · constructor
      · intro e
        have h1 := congrArg List.length e
        have := dec_len2 (n := n) (by omega)
        simp at h1
        omega
      · intro hx; exact absurd ⟨by omega, ha⟩ hx
    · constructor
      · intro _ hx; exact ha hx.2
      · intro _
        rw [this, dec_three e2 f2 g2 (by omega), e1, f1, g1]
  | a :: b :: c :: d :: r, hsz => simp at hsz; omega
  | [], hsz => simp at hsz; omega

theorem part_none {p : ByteArray} (h : numO p 3 = none) : v4Part p = none := by rw [v4Part, h]
theorem part_big {p : ByteArray} {n : Nat} (h : numO p 3 = some n) (hn : 255 < n) : v4Part p = none := by rw [v4Part, h]; simp only; rw [if_neg (by omega)]
theorem part_not {p : ByteArray} {n : Nat} (h : numO p 3 = some n) (hd : decS n ≠ p) : v4Part p = none := by rw [v4Part, h]; simp only; rw [if_neg (fun x => hd x.2)]
theorem part_some {p : ByteArray} {n : Nat} (h : numO p 3 = some n) (hn : n ≤ 255) (hd : decS n = p) : v4Part p = some n := by rw [v4Part, h]; simp only; rw [if_pos ⟨hn, hd⟩]
theorem num_pos {p : ByteArray} {n m : Nat} (h : numO p m = some n) : 0 < p.size := by
  unfold numO at h
  by_cases hc : 1 ≤ p.size ∧ p.size ≤ m ∧ p.data.toList.all Nm.digB = true
  · omega
  · rw [if_neg hc] at h; cases h
def strV (p : ByteArray × Int) : Value := .tuple #[.string p.1, .int .i64 p.2]
end Go.Proofs.YtmaopfagkffccaaGreat
/- The value of a digit of base 16: mathematics. -/
namespace Go.Proofs.YtmaopfagkffccaaGreat
open Go.RowKit

/-- A hexadecimal digit's value, or minus one. -/
def hexV (c : UInt8) : Int :=
  if Nm.digB c = true then (c.toNat : Int) - 48 else if 97 ≤ c.toNat ∧ c.toNat ≤ 102 then (c.toNat : Int) - 97 + 10
  else if 65 ≤ c.toNat ∧ c.toNat ≤ 70 then (c.toNat : Int) - 65 + 10 else -1

end Go.Proofs.YtmaopfagkffccaaGreat
/- What ReadV6 answers: mathematics. -/
namespace Go.Proofs.YtmaopfagkffccaaGreat
open Go.RowKit

def isHex (c : UInt8) : Bool := decide (0 ≤ hexV c)
theorem hexV_lt (c : UInt8) : hexV c < 16 ∧ -1 ≤ hexV c := by
  unfold hexV
  split
  · rename_i h; simp [Nm.digB] at h; omega
  · split
    · omega
    · split <;> omega
/-- The number of digits of base 16. -/
def hexN (l : List UInt8) : Nat := l.foldl (fun n c => n * 16 + (hexV c).toNat) 0
theorem hexN_snoc (l : List UInt8) (c : UInt8) : hexN (l ++ [c]) = hexN l * 16 + (hexV c).toNat := by simp [hexN]
theorem hexN_lt (l : List UInt8) : hexN l < 16 ^ l.length := by
  have key : ∀ (l : List UInt8) (a : Nat), l.foldl (fun n c => n * 16 + (hexV c).toNat) a < (a + 1) * 16 ^ l.length := by
    intro l
    induction l with
    | nil => intro a; simp
    | cons c l ih =>
      intro a
      have hc := hexV_lt c
      rw [List.foldl_cons, List.length_cons, Nat.pow_succ]
      refine Nat.lt_of_lt_of_le (ih _) ?_
      have h1 : a * 16 + (hexV c).toNat + 1 ≤ (a + 1) * 16 := by omega
      have h2 := Nat.mul_le_mul_right (16 ^ l.length) h1
      have h3 : (a + 1) * 16 * 16 ^ l.length = (a + 1) * (16 ^ l.length * 16) := by rw [Nat.mul_assoc, Nat.mul_comm 16]
      omega
  have := key l 0
  rw [Nat.zero_add, Nat.one_mul] at this
  exact this
theorem hexN_small {l : List UInt8} (h : l.length ≤ 4) : hexN l < 65536 := by
  have h1 := hexN_lt l
  have h2 : 16 ^ l.length ≤ 16 ^ 4 := Nat.pow_le_pow_right (by decide) h
  have h3 : (16 : Nat) ^ 4 = 65536 := by decide
  omega
def grpO (p : ByteArray) : Option Nat := if 1 ≤ p.size ∧ p.size ≤ 4 ∧ p.data.toList.all isHex = true then some (hexN p.data.toList) else none
theorem grpO_len {p : ByteArray} (h : ¬ (1 ≤ p.size ∧ p.size ≤ 4)) : grpO p = none := by rw [grpO, if_neg (fun h' => h ⟨h'.1, h'.2.1⟩)]
theorem grpO_bad {p : ByteArray} {k : Nat} (hk : k < p.size) (h : hexV p[k] < 0) : grpO p = none := by
  rw [grpO, if_neg]
  rintro ⟨_, _, h3⟩
  have := List.all_eq_true.1 h3 p[k] (List.mem_of_getElem? (Nm.get_data hk))
  simp [isHex] at this
  omega
theorem grpO_good {p : ByteArray} (h1 : 1 ≤ p.size) (h2 : p.size ≤ 4) (h : ∀ j, (hj : j < p.size) → 0 ≤ hexV p[j]) : grpO p = some (hexN p.data.toList) := by
  rw [grpO, if_pos]
  refine ⟨h1, h2, ?_⟩
  rw [List.all_eq_true]
  intro c hc
  obtain ⟨i, hi⟩ := List.getElem?_of_mem hc
  have hl : i < p.size := by
    have := (List.getElem?_eq_some_iff.1 hi).1
    simpa using this
  rw [Nm.get_data hl] at hi
  simp at hi
  rw [← hi]
  simp [isHex]
  exact h _ hl
theorem grpO_lt {p : ByteArray} {n : Nat} (h : grpO p = some n) : n < 65536 := by
  unfold grpO at h
  by_cases hc : 1 ≤ p.size ∧ p.size ≤ 4 ∧ p.data.toList.all isHex = true
  · rw [if_pos hc] at h
    have := hexN_small (l := p.data.toList) (by simp; omega)
    rw [← Option.some.inj h]
    exact this
  · rw [if_neg hc] at h; cases h

def put2 (n : Nat) : List UInt8 := [UInt8.ofNat (n / 256), UInt8.ofNat (n % 256)]
/-- A part of an address of sixteen bytes. -/
def gPart (p : ByteArray) (last : Bool) : Option (List UInt8) :=
  if last = true ∧ (readV4S p).2 = 0 then some (readV4S p).1.data.toList else (grpO p).map put2
def gFrom (last : Bool) : List ByteArray → Option (List UInt8)
  | [] => some []
  | p :: r => match gPart p (last && r.isEmpty) with
    | none => none
    | some b => (gFrom last r).map (fun t => b ++ t)
def GAt (last : Bool) (ls : List ByteArray) (k : Nat) (o : List UInt8) : Prop := gFrom last ls = (gFrom last (ls.drop k)).map (fun t => o ++ t)
theorem g_start (last : Bool) (ls : List ByteArray) : GAt last ls 0 [] := by simp [GAt]
theorem drop_at' {ls : List ByteArray} {k : Nat} {p : ByteArray} (hp : ls[k]? = some p) : ls.drop k = p :: ls.drop (k + 1) ∧ (ls.drop (k + 1)).isEmpty = decide (k + 1 = ls.length) := by
  have hk : k < ls.length := (List.getElem?_eq_some_iff.1 hp).1
  have hx : ls[k] = p := (List.getElem?_eq_some_iff.1 hp).2
  refine ⟨by rw [List.drop_eq_getElem_cons hk, hx], ?_⟩
  rw [Bool.eq_iff_iff, List.isEmpty_iff, decide_eq_true_eq, List.drop_eq_nil_iff]
  omega
theorem g_next {last : Bool} {ls : List ByteArray} {k : Nat} {o b : List UInt8} {p : ByteArray} (h : GAt last ls k o) (hp : ls[k]? = some p) (hb : gPart p (last && decide (k + 1 = ls.length)) = some b) : GAt last ls (k + 1) (o ++ b) := by
  obtain ⟨e1, e2⟩ := drop_at' hp
  rw [GAt] at h ⊢
  rw [h, e1, gFrom, e2, hb]
  simp only [Option.map_map]
  congr 1; funext t; simp
theorem g_bad {last : Bool} {ls : List ByteArray} {k : Nat} {o : List UInt8} {p : ByteArray} (h : GAt last ls k o) (hp : ls[k]? = some p) (hb : gPart p (last && decide (k + 1 = ls.length)) = none) : gFrom last ls = none := by
  obtain ⟨e1, e2⟩ := drop_at' hp
  rw [GAt] at h
  rw [h, e1, gFrom, e2, hb]; rfl
theorem g_end {last : Bool} {ls : List ByteArray} {k : Nat} {o : List UInt8} (h : GAt last ls k o) (hk : ls.length ≤ k) : gFrom last ls = some o := by
  rw [GAt, List.drop_eq_nil_of_le hk] at h
  rw [h]; simp [gFrom]

/-- An address of four bytes has four. -/
theorem v4_four {p : ByteArray} (h : (readV4S p).2 = 0) : (readV4S p).1.data.toList.length = 4 := by
  have key : ∀ (ls : List ByteArray) (l : List UInt8), v4All ls = some l → l.length = ls.length := by
    intro ls
    induction ls with
    | nil => intro l h; simp [v4All] at h; subst h; rfl
    | cons p r ih =>
      intro l h
      rw [v4All] at h
      cases hp : v4Part p with
      | none => rw [hp] at h; cases h
      | some n =>
        rw [hp] at h
        cases hr : v4All r with
        | none => rw [hr] at h; cases h
        | some t =>
          rw [hr] at h
          simp at h
          subst h
          simp [ih t hr]
  unfold readV4S at h ⊢
  split at h
  · rename_i h4
    rw [if_pos h4]
    cases hv : v4All (cutB p 46) with
    | none => rw [hv] at h; simp at h
    | some l =>
      simp
      rw [key _ _ hv, h4]
  · simp at h
theorem gPart_len {p : ByteArray} {last : Bool} {b : List UInt8} (h : gPart p last = some b) : b.length = 2 ∨ b.length = 4 := by
  unfold gPart at h
  split at h
  · rename_i hc
    simp at h
    rw [← h]
    exact .inr (v4_four hc.2)
  · cases hg : grpO p with
    | none => rw [hg] at h; cases h
    | some n => rw [hg] at h; simp at h; subst h; exact .inl rfl
theorem gFrom_even (last : Bool) : ∀ (ls : List ByteArray) (l : List UInt8), gFrom last ls = some l → l.length % 2 = 0 ∧ l.length ≤ 4 * ls.length := by
  intro ls
  induction ls with
  | nil => intro l h; simp [gFrom] at h; subst h; simp
  | cons p r ih =>
    intro l h
    rw [gFrom] at h
    cases hp : gPart p (last && r.isEmpty) with
    | none => rw [hp] at h; cases h
    | some b =>
      rw [hp] at h
      cases hr : gFrom last r with
      | none => rw [hr] at h; cases h
      | some t =>
        rw [hr] at h
        simp at h
        subst h
        have h1 := gPart_len hp
        have h2 := ih t hr
        simp
        omega
def groupsS (s : ByteArray) (last : Bool) : Option (List UInt8) := if s.size = 0 then some [] else gFrom last (cutB s 58)
theorem groups_even {s : ByteArray} {last : Bool} {l : List UInt8} (h : groupsS s last = some l) : l.length % 2 = 0 ∧ l.length ≤ 4 * (s.size + 1) := by
  unfold groupsS at h
  split at h
  · simp at h; subst h; simp
  · have := gFrom_even last _ _ h
    have h2 := cutB_le s 58
    omega

def v6Gap (s : ByteArray) (i : Nat) : ByteArray × Int := match groupsS (s.extract 0 i) false, groupsS (s.extract (i + 2) s.size) true with
  | some a, some b => if 14 < a.length + b.length then (⟨#[]⟩, 7) else (⟨(a ++ List.replicate (16 - a.length - b.length) 0 ++ b).toArray⟩, 0)
  | _, _ => (⟨#[]⟩, 7)
def v6Whole (s : ByteArray) : ByteArray × Int := match groupsS s true with
  | some o => if o.length = 16 then (⟨o.toArray⟩, 0) else (⟨#[]⟩, 7)
  | none => (⟨#[]⟩, 7)
def readV6S (s : ByteArray) : ByteArray × Int := if 100 < s.size then (⟨#[]⟩, 7) else
  if 0 ≤ Lib.index s.data.toList [58, 58] then v6Gap s (Lib.index s.data.toList [58, 58]).toNat else v6Whole s

theorem occ_two {s : ByteArray} {i : Nat} (_h : i + 2 ≤ s.size) : Lib.occAt s.data.toList [58, 58] i = ((s.extract i (i + 2)).toList == [58, 58]) := by
  rw [Bool.eq_iff_iff, beq_iff_eq, ByteArray.toList_eq]
  unfold Lib.occAt
  rw [List.isPrefixOf_iff_prefix, List.prefix_iff_eq_take]
  have e : (s.extract i (i + 2)).data.toList = (s.data.toList.drop i).take 2 := by
    simp [List.extract_eq_take_drop]
  rw [e]
  constructor
  · intro h; exact h.symm
  · intro h; exact h.symm
def NoDD (s : ByteArray) (i : Nat) : Prop := Lib.NoOcc s.data.toList [58, 58] i
theorem dd_start (s : ByteArray) : NoDD s 0 := Lib.NoOcc.zero _ _
theorem dd_next {s : ByteArray} {i : Nat} (h : NoDD s i) (hi : i + 2 ≤ s.size) (hn : ((s.extract i (i + 2)).toList == [58, 58]) = false) : NoDD s (i + 1) := by
  intro j hj
  by_cases e : j = i
  · subst e; rw [occ_two hi]; exact hn
  · exact h j (by omega)
theorem dd_hit {s : ByteArray} {i : Nat} (h : NoDD s i) (h100 : ¬ 100 < s.size) (hi : i + 2 ≤ s.size) (hn : ((s.extract i (i + 2)).toList == [58, 58]) = true) : readV6S s = v6Gap s i := by
  have e := Lib.index_hit h (by simp; omega) (by rw [occ_two hi]; exact hn)
  rw [readV6S, if_neg h100, e, if_pos (by omega), Int.toNat_natCast]
theorem dd_none {s : ByteArray} {i : Nat} (h : NoDD s i) (h100 : ¬ 100 < s.size) (hi : s.size < i + 2) : readV6S s = v6Whole s := by
  have e := Lib.index_past (sub := [58, 58]) (by simp) h (by simp; omega)
  rw [readV6S, if_neg h100, e, if_neg (by omega)]
theorem v6_long {s : ByteArray} (h : 100 < s.size) : readV6S s = (⟨#[]⟩, 7) := by rw [readV6S, if_pos h]
end Go.Proofs.YtmaopfagkffccaaGreat
