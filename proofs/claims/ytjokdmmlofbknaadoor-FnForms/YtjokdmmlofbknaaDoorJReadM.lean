import Derived.Test.YtjokdmmlofbknaaDoorJMath
import Derived.Test.YtjokdmmlofbknaaDoorJFoldM
import Derived.Test.YtjokdmmlofbknaaDoorJDraw6
/- A name's text, as plain mathematics. -/
namespace Go.Proofs.YtjokdmmlofbknaaDoor.Nm
open Go.RowKit

def digB (c : UInt8) : Bool := decide (48 ≤ c.toNat) && decide (c.toNat ≤ 57)

def num3 (c d e : UInt8) : Nat := (c.toNat - 48) * 100 + (d.toNat - 48) * 10 + (e.toNat - 48)

def esc3 (c : UInt8) : List UInt8 → Option (UInt8 × Nat)
  | d :: e :: _ => if digB d = true ∧ digB e = true then (if num3 c d e ≤ 255 then some (UInt8.ofNat (num3 c d e), 3) else none) else none
  | _ => none

/-- What stands behind a backslash: the byte, and how many bytes it takes. -/
def escF : List UInt8 → Option (UInt8 × Nat)
  | [] => none
  | c :: r => if digB c = true then esc3 c r else some (c, 1)

theorem esc_nil : escF [] = none := rfl
theorem esc_byte {c : UInt8} (r : List UInt8) (h : digB c = false) : escF (c :: r) = some (c, 1) := by
  rw [escF, if_neg (by simp [h])]
theorem esc_short {c : UInt8} {r : List UInt8} (h : digB c = true) (hr : r.length < 2) : escF (c :: r) = none := by
  rw [escF, if_pos h]
  match r, hr with
  | [], _ => rfl
  | [_], _ => rfl
theorem esc_three {c d e : UInt8} {r : List UInt8} (h : digB c = true) : escF (c :: d :: e :: r) = if digB d = true ∧ digB e = true then (if num3 c d e ≤ 255 then some (UInt8.ofNat (num3 c d e), 3) else none) else none := by
  rw [escF, if_pos h, esc3]

theorem esc_len {l : List UInt8} {b : UInt8} {n : Nat} (h : escF l = some (b, n)) : 1 ≤ n ∧ n ≤ l.length ∧ n ≤ 3 := by
  cases l with
  | nil => simp [escF] at h
  | cons c r =>
    cases hd : digB c with
    | false =>
      rw [esc_byte r hd] at h
      simp at h
      simp only [List.length_cons]
      omega
    | true =>
      match r with
      | [] => rw [esc_short hd (by simp)] at h; simp at h
      | [_] => rw [esc_short hd (by simp)] at h; simp at h
      | d :: e :: r =>
        rw [esc_three hd] at h
        split at h
        · split at h
          · simp at h
            simp only [List.length_cons]
            omega
          · simp at h
        · simp at h

def fitsB (n : Nat) : Bool := decide (1 ≤ n) && decide (n ≤ 63)

def scanF : Nat → Bool → List UInt8 → List UInt8 → List ByteArray → List ByteArray × Bool × Int
  | 0, _, _, _, _ => ([], false, 0)
  | _ + 1, st, [], now, done =>
    if st = true then (done, true, 0)
    else if fitsB now.length = true then (done ++ [⟨now.toArray⟩], false, 0) else ([], false, 2)
  | f + 1, _, c :: r, now, done =>
    if c = 46 then
      (if fitsB now.length = true then scanF f true r [] (done ++ [⟨now.toArray⟩]) else ([], false, 2))
    else if c = 92 then
      (match escF r with
      | none => ([], false, 4)
      | some (b, n) => scanF f false (r.drop n) (now ++ [b]) done)
    else scanF f false r (now ++ [c]) done

def scanS (s : ByteArray) : List ByteArray × Bool × Int := scanF (s.size + 1) false s.data.toList [] []

def ScAt (s : ByteArray) (st : Bool) (k : Nat) (now : List UInt8) (done : List ByteArray) : Prop :=
  k ≤ s.size ∧ ∃ f, s.size - k < f ∧ scanS s = scanF f st (s.data.toList.drop k) now done

theorem sc_start (s : ByteArray) : ScAt s false 0 [] [] := ⟨Nat.zero_le _, s.size + 1, by omega, by rw [List.drop_zero]; rfl⟩

theorem sc_start' (s : ByteArray) (h : 0 < s.size) : ScAt s true 0 [] [] := by
  refine ⟨Nat.zero_le _, s.size + 1, by omega, ?_⟩
  rw [List.drop_zero, scanS]
  cases hd : s.data.toList with
  | nil =>
    have : s.data.toList.length = 0 := by rw [hd]; rfl
    simp at this
    have h2 : s.size = 0 := by simp [this]
    omega
  | cons c r => simp only [scanF]

theorem drop_at {s : ByteArray} {k : Nat} (h : k < s.size) : s.data.toList.drop k = s[k] :: s.data.toList.drop (k + 1) := by
  have hl : k < s.data.toList.length := by simpa using h
  rw [List.drop_eq_getElem_cons hl]
  rfl

theorem drop_end {s : ByteArray} : s.data.toList.drop s.size = [] := List.drop_of_length_le (by simp)

section
variable {s : ByteArray} {st : Bool} {k : Nat} {now : List UInt8} {done : List ByteArray}

theorem sc_dot (h : ScAt s st k now done) (hk : k < s.size) (hc : s[k] = 46) (hf : fitsB now.length = true) : ScAt s true (k + 1) [] (done ++ [⟨now.toArray⟩]) := by
  obtain ⟨_, f, hf2, e⟩ := h
  obtain ⟨g, rfl⟩ : ∃ g, f = g + 1 := ⟨f - 1, by omega⟩
  refine ⟨by omega, g, by omega, ?_⟩
  rw [e, drop_at hk, scanF, if_pos hc, if_pos hf]

theorem sc_dot_bad (h : ScAt s st k now done) (hk : k < s.size) (hc : s[k] = 46) (hf : fitsB now.length = false) : scanS s = ([], false, 2) := by
  obtain ⟨_, f, hf2, e⟩ := h
  obtain ⟨g, rfl⟩ : ∃ g, f = g + 1 := ⟨f - 1, by omega⟩
  rw [e, drop_at hk, scanF, if_pos hc, if_neg (by simp [hf])]

theorem sc_esc_bad (h : ScAt s st k now done) (hk : k < s.size) (hc : s[k] = 92) (he : escF (s.data.toList.drop (k + 1)) = none) : scanS s = ([], false, 4) := by
  obtain ⟨_, f, hf2, e⟩ := h
  obtain ⟨g, rfl⟩ : ∃ g, f = g + 1 := ⟨f - 1, by omega⟩
  rw [e, drop_at hk, scanF, if_neg (by rw [hc]; decide), if_pos hc, he]

theorem sc_esc (h : ScAt s st k now done) (hk : k < s.size) (hc : s[k] = 92) {b : UInt8} {n : Nat} (he : escF (s.data.toList.drop (k + 1)) = some (b, n)) : ScAt s false (k + 1 + n) (now ++ [b]) done := by
  obtain ⟨_, f, hf2, e⟩ := h
  obtain ⟨g, rfl⟩ : ∃ g, f = g + 1 := ⟨f - 1, by omega⟩
  have hl := esc_len he
  simp only [List.length_drop, Array.length_toList, ByteArray.size_data] at hl
  refine ⟨by omega, g, by omega, ?_⟩
  rw [e, drop_at hk, scanF, if_neg (by rw [hc]; decide), if_pos hc, he]
  simp only [List.drop_drop]

theorem sc_plain (h : ScAt s st k now done) (hk : k < s.size) (hc : s[k] ≠ 46) (hc2 : s[k] ≠ 92) : ScAt s false (k + 1) (now ++ [s[k]]) done := by
  obtain ⟨_, f, hf2, e⟩ := h
  obtain ⟨g, rfl⟩ : ∃ g, f = g + 1 := ⟨f - 1, by omega⟩
  refine ⟨by omega, g, by omega, ?_⟩
  rw [e, drop_at hk, scanF, if_neg hc, if_neg hc2]

theorem sc_abs (h : ScAt s true k now done) (hk : k = s.size) : scanS s = (done, true, 0) := by
  obtain ⟨_, f, hf2, e⟩ := h
  obtain ⟨g, rfl⟩ : ∃ g, f = g + 1 := ⟨f - 1, by omega⟩
  rw [e, hk, drop_end, scanF, if_pos rfl]

theorem sc_rel (h : ScAt s false k now done) (hk : k = s.size) (hf : fitsB now.length = true) : scanS s = (done ++ [⟨now.toArray⟩], false, 0) := by
  obtain ⟨_, f, hf2, e⟩ := h
  obtain ⟨g, rfl⟩ : ∃ g, f = g + 1 := ⟨f - 1, by omega⟩
  rw [e, hk, drop_end, scanF, if_neg (by simp), if_pos hf]

theorem sc_rel_bad (h : ScAt s false k now done) (hk : k = s.size) (hf : fitsB now.length = false) : scanS s = ([], false, 2) := by
  obtain ⟨_, f, hf2, e⟩ := h
  obtain ⟨g, rfl⟩ : ∃ g, f = g + 1 := ⟨f - 1, by omega⟩
  rw [e, hk, drop_end, scanF, if_neg (by simp), if_neg (by simp [hf])]
end

theorem fits_yes {n : Nat} (h1 : 1 ≤ n) (h2 : n ≤ 63) : fitsB n = true := by simp [fitsB, h1, h2]
theorem fits_no {n : Nat} (h : ¬ (1 ≤ n ∧ n ≤ 63)) : fitsB n = false := by
  simp [fitsB]; omega

end Go.Proofs.YtjokdmmlofbknaaDoor.Nm
/- Numbers as text: mathematics. -/
namespace Go.Proofs.YtjokdmmlofbknaaDoor
open Go.RowKit

def decF : Nat → Nat → List UInt8
  | 0, _ => []
  | f + 1, n => if n < 10 then [UInt8.ofNat (48 + n)] else decF f (n / 10) ++ [UInt8.ofNat (48 + n % 10)]
theorem decF_enough : ∀ (f g n : Nat), n < f → n < g → decF f n = decF g n := by
  intro f
  induction f with
  | zero => intro g n h; omega
  | succ f ih =>
    intro g n hf hg
    cases g with
    | zero => omega
    | succ g =>
      rw [decF, decF]
      by_cases h : n < 10
      · rw [if_pos h, if_pos h]
      · rw [if_neg h, if_neg h, ih g (n / 10) (by omega) (by omega)]

/-- A number in decimal digits. -/
def decL (n : Nat) : List UInt8 := decF (n + 1) n
def decS (n : Nat) : ByteArray := ⟨(decL n).toArray⟩
theorem decL_small {n : Nat} (h : n < 10) : decL n = [UInt8.ofNat (48 + n)] := by rw [decL, decF, if_pos h]
theorem decL_step {n : Nat} (h : ¬ n < 10) : decL n = decL (n / 10) ++ [UInt8.ofNat (48 + n % 10)] := by
  rw [decL, decF, if_neg h, decF_enough _ (n / 10 + 1) _ (by omega) (by omega)]; rfl
theorem decF_len : ∀ (f n : Nat), (decF f n).length ≤ f := by
  intro f
  induction f with
  | zero => intro n; simp [decF]
  | succ f ih =>
    intro n
    rw [decF]
    split
    · simp
    · have := ih (n / 10); simp; omega
theorem decL_len20 {n : Nat} (h : n < 10000000000000000000) : (decL n).length ≤ 20 := by
  have key : ∀ (k n : Nat), n < 10 ^ (k + 1) → (decL n).length ≤ k + 1 := by
    intro k
    induction k with
    | zero => intro n hn; rw [decL_small (by simpa using hn)]; simp
    | succ k ih =>
      intro n hn
      by_cases h10 : n < 10
      · rw [decL_small h10]; simp
      · rw [decL_step h10]
        have := ih (n / 10) (by rw [Nat.pow_succ] at hn; omega)
        simp; omega
  exact key 19 n (by have : (10 : Nat) ^ (19 + 1) = 100000000000000000000 := by decide
                     omega)

/-- The number of a text of digits. -/
def numD (l : List UInt8) : Nat := l.foldl (fun n c => n * 10 + (c.toNat - 48)) 0
theorem numD_snoc (l : List UInt8) (c : UInt8) : numD (l ++ [c]) = numD l * 10 + (c.toNat - 48) := by simp [numD]
def numO (s : ByteArray) (most : Nat) : Option Nat :=
  if 1 ≤ s.size ∧ s.size ≤ most ∧ s.data.toList.all Nm.digB = true then some (numD s.data.toList) else none

theorem numO_len {s : ByteArray} {most : Nat} (h : ¬ (1 ≤ s.size ∧ s.size ≤ most)) : numO s most = none := by
  rw [numO, if_neg (fun h' => h ⟨h'.1, h'.2.1⟩)]
theorem numO_bad {s : ByteArray} {most k : Nat} (hk : k < s.size) (h : Nm.digB s[k] = false) : numO s most = none := by
  rw [numO, if_neg]
  rintro ⟨_, _, h3⟩
  have := List.all_eq_true.1 h3 s[k] (List.mem_of_getElem? (Nm.get_data hk))
  rw [h] at this; cases this
theorem numO_good {s : ByteArray} {most : Nat} (h1 : 1 ≤ s.size) (h2 : s.size ≤ most) (h : ∀ j, (hj : j < s.size) → Nm.digB s[j] = true) : numO s most = some (numD s.data.toList) := by
  rw [numO, if_pos]
  refine ⟨h1, h2, ?_⟩
  rw [List.all_eq_true]
  intro c hc
  obtain ⟨i, hi⟩ := List.getElem?_of_mem hc
  have hl : i < s.size := by
    have := (List.getElem?_eq_some_iff.1 hi).1
    simpa using this
  rw [Nm.get_data hl] at hi
  simp at hi
  rw [← hi]
  exact h _ hl
theorem numD_lt : ∀ (l : List UInt8), (∀ c ∈ l, Nm.digB c = true) → numD l < 10 ^ l.length := by
  have key : ∀ (l : List UInt8) (a : Nat), (∀ c ∈ l, Nm.digB c = true) → l.foldl (fun n c => n * 10 + (c.toNat - 48)) a < (a + 1) * 10 ^ l.length := by
    intro l
    induction l with
    | nil => intro a _; simp
    | cons c l ih =>
      intro a h
      have hc : c.toNat ≤ 57 := by
        have := h c (List.mem_cons_self)
        simp [Nm.digB] at this; omega
      rw [List.foldl_cons, List.length_cons, Nat.pow_succ]
      refine Nat.lt_of_lt_of_le (ih _ (fun x hx => h x (List.mem_cons_of_mem _ hx))) ?_
      have h1 : a * 10 + (c.toNat - 48) + 1 ≤ (a + 1) * 10 := by omega
      have h2 := Nat.mul_le_mul_right (10 ^ l.length) h1
      have h3 : (a + 1) * 10 * 10 ^ l.length = (a + 1) * (10 ^ l.length * 10) := by rw [Nat.mul_assoc, Nat.mul_comm 10]
      omega
  intro l h
  have := key l 0 h
  rw [Nat.zero_add, Nat.one_mul] at this
  exact this

/-- A text cut at every byte of one value. -/
def cutTx (c : UInt8) : List UInt8 → List UInt8 → List (List UInt8)
  | [], cur => [cur]
  | x :: r, cur => if x = c then cur :: cutTx c r [] else cutTx c r (cur ++ [x])
end Go.Proofs.YtjokdmmlofbknaaDoor
/- What ReadV4 answers: mathematics. -/
namespace Go.Proofs.YtjokdmmlofbknaaDoor
open Go.RowKit

/-- A part of an address of four bytes. -/
def v4Part (p : ByteArray) : Option Nat := match numO p 3 with
  | some n => if n ≤ 255 ∧ decS n = p then some n else none
  | none => none
def v4All : List ByteArray → Option (List UInt8)
  | [] => some []
  | p :: r => match v4Part p with
    | none => none
    | some n => (v4All r).map (fun t => UInt8.ofNat n :: t)
def readV4S (s : ByteArray) : ByteArray × Int :=
  if (cutB s 46).length = 4 then (match v4All (cutB s 46) with
    | some l => (⟨l.toArray⟩, 0)
    | none => (⟨#[]⟩, 7)) else (⟨#[]⟩, 7)

theorem v4_count {s : ByteArray} (h : (cutB s 46).length ≠ 4) : readV4S s = (⟨#[]⟩, 7) := by rw [readV4S, if_neg h]

/-- The reading stands behind k parts. -/
def V4At (ls : List ByteArray) (k : Nat) (o : List UInt8) : Prop := v4All ls = (v4All (ls.drop k)).map (fun t => o ++ t)
theorem v4_start (ls : List ByteArray) : V4At ls 0 [] := by simp [V4At]
theorem v4_next {ls : List ByteArray} {k n : Nat} {o : List UInt8} {p : ByteArray} (h : V4At ls k o) (hp : ls[k]? = some p) (hn : v4Part p = some n) : V4At ls (k + 1) (o ++ [UInt8.ofNat n]) := by
  have hk : k < ls.length := (List.getElem?_eq_some_iff.1 hp).1
  have hx : ls[k] = p := (List.getElem?_eq_some_iff.1 hp).2
  rw [V4At] at h ⊢
  rw [h, List.drop_eq_getElem_cons hk, hx, v4All, hn]
  simp only [Option.map_map]
  congr 1; funext t; simp
theorem v4_bad {s : ByteArray} {k : Nat} {o : List UInt8} {p : ByteArray} (h : V4At (cutB s 46) k o) (hp : (cutB s 46)[k]? = some p) (hn : v4Part p = none) : readV4S s = (⟨#[]⟩, 7) := by
  have hk : k < (cutB s 46).length := (List.getElem?_eq_some_iff.1 hp).1
  have hx : (cutB s 46)[k] = p := (List.getElem?_eq_some_iff.1 hp).2
  have e : v4All ((cutB s 46).drop k) = none := by rw [List.drop_eq_getElem_cons hk, hx, v4All, hn]
  rw [V4At, e] at h
  rw [readV4S, h]
  split <;> rfl
theorem v4_end {s : ByteArray} {o : List UInt8} (h4 : (cutB s 46).length = 4) (h : V4At (cutB s 46) 4 o) : readV4S s = (⟨o.toArray⟩, 0) := by
  have e : (cutB s 46).drop 4 = [] := List.drop_eq_nil_of_le (by omega)
  rw [V4At, e] at h
  rw [readV4S, if_pos h4, h]
  simp [v4All]

/-- How long the parts are together. -/
theorem cutP_sum (c : UInt8) : ∀ l : List UInt8, ((cutP c l).map List.length).sum + (cutP c l).length = l.length + 1 := by
  intro l
  induction l with
  | nil => rfl
  | cons x r ih =>
    rw [cutP]
    split
    · simp; omega
    · split
      · rename_i e; rw [e] at ih; simp at ih
      · rename_i h t e; rw [e] at ih; simp at ih ⊢; omega
theorem v4_sizes : ∀ {ls : List ByteArray} {l : List UInt8}, v4All ls = some l → (ls.map (fun p => p.data.toList.length)).sum ≤ 3 * ls.length := by
  intro ls
  induction ls with
  | nil => intro l _; simp
  | cons p r ih =>
    intro l h
    rw [v4All] at h
    cases hp : v4Part p with
    | none => rw [hp] at h; cases h
    | some n =>
      rw [hp] at h
      cases hr : v4All r with
      | none => rw [hr] at h; cases h
      | some t =>
        have := ih hr
        have hz : p.size ≤ 3 := by
          unfold v4Part at hp
          by_cases hq : 1 ≤ p.size ∧ p.size ≤ 3
          · exact hq.2
          · rw [numO_len hq] at hp; cases hp
        have hz2 : p.data.toList.length = p.size := by simp
        simp only [List.map_cons, List.sum_cons, List.length_cons]
        omega
theorem v4_long {s : ByteArray} (h : 15 < s.size) : readV4S s = (⟨#[]⟩, 7) := by
  rw [readV4S]
  split
  · rename_i h4
    cases hv : v4All (cutB s 46) with
    | none => rfl
    | some l =>
      exfalso
      have h1 := v4_sizes hv
      have h2 := cutP_sum 46 s.data.toList
      rw [← cutB_data, List.map_map, List.length_map] at h2
      have h3 : s.data.toList.length = s.size := by simp
      have h5 : ((cutB s 46).map (List.length ∘ fun x => x.data.toList)).sum = ((cutB s 46).map (fun p => p.data.toList.length)).sum := rfl
      omega
  · rfl

theorem dec_two {x y : Nat} (hx : x < 10) (hy : y < 10) (h0 : x ≠ 0) : decL (10 * x + y) = [UInt8.ofNat (48 + x), UInt8.ofNat (48 + y)] := by
  rw [decL_step (by omega), show (10 * x + y) / 10 = x by omega, show (10 * x + y) % 10 = y by omega, decL_small hx]; rfl
theorem dec_three {x y z : Nat} (hx : x < 10) (hy : y < 10) (hz : z < 10) (h0 : x ≠ 0) : decL (100 * x + 10 * y + z) = [UInt8.ofNat (48 + x), UInt8.ofNat (48 + y), UInt8.ofNat (48 + z)] := by
  rw [decL_step (by omega), show (100 * x + 10 * y + z) / 10 = 10 * x + y by omega, show (100 * x + 10 * y + z) % 10 = z by omega, dec_two hx hy h0]; rfl
theorem dec_len2 {n : Nat} (h : n < 100) : (decL n).length ≤ 2 := by
  by_cases h1 : n < 10
  · rw [decL_small h1]; simp
  · rw [decL_step h1, decL_small (by omega)]; simp
theorem dec_len1 {n : Nat} (h : n < 10) : (decL n).length = 1 := by rw [decL_small h]; rfl
theorem dig_back {c : UInt8} (h : Nm.digB c = true) : UInt8.ofNat (48 + (c.toNat - 48)) = c ∧ c.toNat - 48 < 10 := by
  simp [Nm.digB] at h
  have e : 48 + (c.toNat - 48) = c.toNat := by omega
  rw [e]
  exact ⟨by simp, by omega⟩

/-- A number of at most three digits has no needless nought ahead just where it is written so. -/
theorem dec_iff {p : ByteArray} {n : Nat} (h : numO p 3 = some n) (hp : 0 < p.size) : decS n = p ↔ ¬ (1 < p.size ∧ p[0].toNat = 48) := by
  have hq : 1 ≤ p.size ∧ p.size ≤ 3 ∧ p.data.toList.all Nm.digB = true := by
    unfold numO at h
    by_cases hc : 1 ≤ p.size ∧ p.size ≤ 3 ∧ p.data.toList.all Nm.digB = true
    · exact hc
    · rw [if_neg hc] at h; cases h
  have hn : n = numD p.data.toList := by
    rw [numO, if_pos hq] at h; exact (Option.some.inj h).symm
  have hsz : p.data.toList.length = p.size := by simp
  have h0 : p.data.toList[0]? = some p[0] := Nm.get_data hp
  have hS : decS n = p ↔ decL n = p.data.toList := by
    constructor
    · intro e; rw [← e]; simp [decS]
    · intro e; apply Nm.ba_ext; simp [decS, e]
  rw [hS]
  generalize p[0] = q at *
  generalize p.data.toList = l at *
  generalize p.size = z at *
  obtain ⟨_, hz3, hall⟩ := hq
  match l, hsz with
  | [a], hsz =>
    simp at hsz h0
    simp only [List.all_cons, List.all_nil, Bool.and_true] at hall
    obtain ⟨e1, e2⟩ := dig_back hall
    have : n = a.toNat - 48 := by rw [hn]; simp [numD]
    rw [this, decL_small e2, e1]
    constructor
    · intro _; omega
    · intro _; rfl
  | [a, b], hsz =>
    simp at hsz h0
    simp only [List.all_cons, List.all_nil, Bool.and_true, Bool.and_eq_true] at hall
    obtain ⟨e1, e2⟩ := dig_back hall.1
    obtain ⟨f1, f2⟩ := dig_back hall.2
    have hd : 48 ≤ a.toNat := by have := hall.1; simp [Nm.digB] at this; omega
    have : n = 10 * (a.toNat - 48) + (b.toNat - 48) := by rw [hn]; simp [numD]; omega
    subst h0
    by_cases ha : a.toNat = 48
    · constructor
      · intro e
        have h1 := congrArg List.length e
        rw [dec_len1 (by omega)] at h1
        simp at h1
      · intro hx; exact absurd ⟨by omega, ha⟩ hx
    · constructor
      · intro _ hx; exact ha hx.2
      · intro _
        rw [this, dec_two e2 f2 (by omega), e1, f1]
  | [a, b, c], hsz =>
    simp at hsz h0
    simp only [List.all_cons, List.all_nil, Bool.and_true, Bool.and_eq_true] at hall
    obtain ⟨e1, e2⟩ := dig_back hall.1
    obtain ⟨f1, f2⟩ := dig_back hall.2.1
    obtain ⟨g1, g2⟩ := dig_back hall.2.2
    have hd : 48 ≤ a.toNat := by have := hall.1; simp [Nm.digB] at this; omega
    have : n = 100 * (a.toNat - 48) + 10 * (b.toNat - 48) + (c.toNat - 48) := by rw [hn]; simp [numD]; omega
    subst h0
    by_cases ha : a.toNat = 48
    · constructor
      · intro e
        have h1 := congrArg List.length e
        have := dec_len2 (n := n) (by omega)
        simp at h1
        omega
      · intro hx; exact absurd ⟨by omega, ha⟩ hx
    · constructor
      · intro _ hx; exact ha hx.2
      · intro _
        rw [this, dec_three e2 f2 g2 (by omega), e1, f1, g1]
  | a :: b :: c :: d :: r, hsz => simp at hsz; omega
  | [], hsz => simp at hsz; omega

theorem part_none {p : ByteArray} (h : numO p 3 = none) : v4Part p = none := by rw [v4Part, h]
theorem part_big {p : ByteArray} {n : Nat} (h : numO p 3 = some n) (hn : 255 < n) : v4Part p = none := by rw [v4Part, h]; simp only; rw [if_neg (by omega)]
theorem part_not {p : ByteArray} {n : Nat} (h : numO p 3 = some n) (hd : decS n ≠ p) : v4Part p = none := by rw [v4Part, h]; simp only; rw [if_neg (fun x => hd x.2)]
theorem part_some {p : ByteArray} {n : Nat} (h : numO p 3 = some n) (hn : n ≤ 255) (hd : decS n = p) : v4Part p = some n := by rw [v4Part, h]; simp only; rw [if_pos ⟨hn, hd⟩]
theorem num_pos {p : ByteArray} {n m : Nat} (h : numO p m = some n) : 0 < p.size := by
  unfold numO at h
  by_cases hc : 1 ≤ p.size ∧ p.size ≤ m ∧ p.data.toList.all Nm.digB = true
  · omega
  · rw [if_neg hc] at h; cases h
def strV (p : ByteArray × Int) : Value := .tuple #[.string p.1, .int .i64 p.2]
end Go.Proofs.YtjokdmmlofbknaaDoor
