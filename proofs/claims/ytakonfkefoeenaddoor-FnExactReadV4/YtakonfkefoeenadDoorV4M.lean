/- What ReadV4 answers: mathematics. -/
import Derived.Test.YtakonfkefoeenadDoorSplM
import Derived.Test.YtakonfkefoeenadDoorTxtM
namespace Go.Proofs.YtakonfkefoeenadDoor
open Go.RowKit

/-- A part of an address of four bytes. -/
def v4Part (p : ByteArray) : Option Nat := match numO p 3 with
  | some n => if n ≤ 255 ∧ decS n = p then some n else none
  | none => none
def v4All : List ByteArray → Option (List UInt8)
  | [] => some []
  | p :: r => match v4Part p with
    | none => none
    | some n => (v4All r).map (fun t => UInt8.ofNat n :: t)
def readV4S (s : ByteArray) : ByteArray × Int :=
  if (cutB s 46).length = 4 then (match v4All (cutB s 46) with
    | some l => (⟨l.toArray⟩, 0)
    | none => (⟨#[]⟩, 7)) else (⟨#[]⟩, 7)

theorem v4_count {s : ByteArray} (h : (cutB s 46).length ≠ 4) : readV4S s = (⟨#[]⟩, 7) := by rw [readV4S, if_neg h]

/-- The reading stands behind k parts. -/
def V4At (ls : List ByteArray) (k : Nat) (o : List UInt8) : Prop := v4All ls = (v4All (ls.drop k)).map (fun t => o ++ t)
theorem v4_start (ls : List ByteArray) : V4At ls 0 [] := by simp [V4At]
theorem v4_next {ls : List ByteArray} {k n : Nat} {o : List UInt8} {p : ByteArray} (h : V4At ls k o) (hp : ls[k]? = some p) (hn : v4Part p = some n) : V4At ls (k + 1) (o ++ [UInt8.ofNat n]) := by
  have hk : k < ls.length := (List.getElem?_eq_some_iff.1 hp).1
  have hx : ls[k] = p := (List.getElem?_eq_some_iff.1 hp).2
  rw [V4At] at h ⊢
  rw [h, List.drop_eq_getElem_cons hk, hx, v4All, hn]
  simp only [Option.map_map]
  congr 1; funext t; simp
theorem v4_bad {s : ByteArray} {k : Nat} {o : List UInt8} {p : ByteArray} (h : V4At (cutB s 46) k o) (hp : (cutB s 46)[k]? = some p) (hn : v4Part p = none) : readV4S s = (⟨#[]⟩, 7) := by
  have hk : k < (cutB s 46).length := (List.getElem?_eq_some_iff.1 hp).1
  have hx : (cutB s 46)[k] = p := (List.getElem?_eq_some_iff.1 hp).2
  have e : v4All ((cutB s 46).drop k) = none := by rw [List.drop_eq_getElem_cons hk, hx, v4All, hn]
  rw [V4At, e] at h
  rw [readV4S, h]
  split <;> rfl
theorem v4_end {s : ByteArray} {o : List UInt8} (h4 : (cutB s 46).length = 4) (h : V4At (cutB s 46) 4 o) : readV4S s = (⟨o.toArray⟩, 0) := by
  have e : (cutB s 46).drop 4 = [] := List.drop_eq_nil_of_le (by omega)
  rw [V4At, e] at h
  rw [readV4S, if_pos h4, h]
  simp [v4All]

/-- How long the parts are together. -/
theorem cutP_sum (c : UInt8) : ∀ l : List UInt8, ((cutP c l).map List.length).sum + (cutP c l).length = l.length + 1 := by
  intro l
  induction l with
  | nil => rfl
  | cons x r ih =>
    rw [cutP]
    split
    · simp; omega
    · split
      · rename_i e; rw [e] at ih; simp at ih
      · rename_i h t e; rw [e] at ih; simp at ih ⊢; omega
theorem v4_sizes : ∀ {ls : List ByteArray} {l : List UInt8}, v4All ls = some l → (ls.map (fun p => p.data.toList.length)).sum ≤ 3 * ls.length := by
  intro ls
  induction ls with
  | nil => intro l _; simp
  | cons p r ih =>
    intro l h
    rw [v4All] at h
    cases hp : v4Part p with
    | none => rw [hp] at h; cases h
    | some n =>
      rw [hp] at h
      cases hr : v4All r with
      | none => rw [hr] at h; cases h
      | some t =>
        have := ih hr
        have hz : p.size ≤ 3 := by
          unfold v4Part at hp
          by_cases hq : 1 ≤ p.size ∧ p.size ≤ 3
          · exact hq.2
          · rw [numO_len hq] at hp; cases hp
        have hz2 : p.data.toList.length = p.size := by simp
        simp only [List.map_cons, List.sum_cons, List.length_cons]
        omega
theorem v4_long {s : ByteArray} (h : 15 < s.size) : readV4S s = (⟨#[]⟩, 7) := by
  rw [readV4S]
  split
  · rename_i h4
    cases hv : v4All (cutB s 46) with
    | none => rfl
    | some l =>
      exfalso
      have h1 := v4_sizes hv
      have h2 := cutP_sum 46 s.data.toList
      rw [← cutB_data, List.map_map, List.length_map] at h2
      have h3 : s.data.toList.length = s.size := by simp
      have h5 : ((cutB s 46).map (List.length ∘ fun x => x.data.toList)).sum = ((cutB s 46).map (fun p => p.data.toList.length)).sum := rfl
      omega
  · rfl

theorem dec_two {x y : Nat} (hx : x < 10) (hy : y < 10) (h0 : x ≠ 0) : decL (10 * x + y) = [UInt8.ofNat (48 + x), UInt8.ofNat (48 + y)] := by
  rw [decL_step (by omega), show (10 * x + y) / 10 = x by omega, show (10 * x + y) % 10 = y by omega, decL_small hx]; rfl
theorem dec_three {x y z : Nat} (hx : x < 10) (hy : y < 10) (hz : z < 10) (h0 : x ≠ 0) : decL (100 * x + 10 * y + z) = [UInt8.ofNat (48 + x), UInt8.ofNat (48 + y), UInt8.ofNat (48 + z)] := by
  rw [decL_step (by omega), show (100 * x + 10 * y + z) / 10 = 10 * x + y by omega, show (100 * x + 10 * y + z) % 10 = z by omega, dec_two hx hy h0]; rfl
theorem dec_len2 {n : Nat} (h : n < 100) : (decL n).length ≤ 2 := by
  by_cases h1 : n < 10
  · rw [decL_small h1]; simp
  · rw [decL_step h1, decL_small (by omega)]; simp
theorem dec_len1 {n : Nat} (h : n < 10) : (decL n).length = 1 := by rw [decL_small h]; rfl
theorem dig_back {c : UInt8} (h : Nm.digB c = true) : UInt8.ofNat (48 + (c.toNat - 48)) = c ∧ c.toNat - 48 < 10 := by
  simp [Nm.digB] at h
  have e : 48 + (c.toNat - 48) = c.toNat := by omega
  rw [e]
  exact ⟨by simp, by omega⟩

/-- A number of at most three digits has no needless nought ahead just where it is written so. -/
theorem dec_iff {p : ByteArray} {n : Nat} (h : numO p 3 = some n) (hp : 0 < p.size) : decS n = p ↔ ¬ (1 < p.size ∧ p[0].toNat = 48) := by
  have hq : 1 ≤ p.size ∧ p.size ≤ 3 ∧ p.data.toList.all Nm.digB = true := by
    unfold numO at h
    by_cases hc : 1 ≤ p.size ∧ p.size ≤ 3 ∧ p.data.toList.all Nm.digB = true
    · exact hc
    · rw [if_neg hc] at h; cases h
  have hn : n = numD p.data.toList := by
    rw [numO, if_pos hq] at h; exact (Option.some.inj h).symm
  have hsz : p.data.toList.length = p.size := by simp
  have h0 : p.data.toList[0]? = some p[0] := Nm.get_data hp
  have hS : decS n = p ↔ decL n = p.data.toList := by
    constructor
    · intro e; rw [← e]; simp [decS]
    · intro e; apply Nm.ba_ext; simp [decS, e]
  rw [hS]
  generalize p[0] = q at *
  generalize p.data.toList = l at *
  generalize p.size = z at *
  obtain ⟨_, hz3, hall⟩ := hq
  match l, hsz with
  | [a], hsz =>
    simp at hsz h0
    simp only [List.all_cons, List.all_nil, Bool.and_true] at hall
    obtain ⟨e1, e2⟩ := dig_back hall
    have : n = a.toNat - 48 := by rw [hn]; simp [numD]
    rw [this, decL_small e2, e1]
    constructor
    · intro _; omega
    · intro _; rfl
  | [a, b], hsz =>
    simp at hsz h0
    simp only [List.all_cons, List.all_nil, Bool.and_true, Bool.and_eq_true] at hall
    obtain ⟨e1, e2⟩ := dig_back hall.1
    obtain ⟨f1, f2⟩ := dig_back hall.2
    have hd : 48 ≤ a.toNat := by have := hall.1; simp [Nm.digB] at this; omega
    have : n = 10 * (a.toNat - 48) + (b.toNat - 48) := by rw [hn]; simp [numD]; omega
    subst h0
    by_cases ha : a.toNat = 48
    · constructor
      · intro e
        have h1 := congrArg List.length e
        rw [dec_len1 (by omega)] at h1
        simp at h1
      · intro hx; exact absurd ⟨by omega, ha⟩ hx
    · constructor
      · intro _ hx; exact ha hx.2
      · intro _
        rw [this, dec_two e2 f2 (by omega), e1, f1]
  | [a, b, c], hsz =>
    simp at hsz h0
    simp only [List.all_cons, List.all_nil, Bool.and_true, Bool.and_eq_true] at hall
    obtain ⟨e1, e2⟩ := dig_back hall.1
    obtain ⟨f1, f2⟩ := dig_back hall.2.1
    obtain ⟨g1, g2⟩ := dig_back hall.2.2
    have hd : 48 ≤ a.toNat := by have := hall.1; simp [Nm.digB] at this; omega
    have : n = 100 * (a.toNat - 48) + 10 * (b.toNat - 48) + (c.toNat - 48) := by rw [hn]; simp [numD]; omega
    subst h0
    by_cases ha : a.toNat = 48
    · constructor
      · intro e
        have h1 := congrArg List.length e
        have := dec_len2 (n := n) (by omega)
        simp at h1
        omega
      · intro hx; exact absurd ⟨by omega, ha⟩ hx
    · constructor
      · intro _ hx; exact ha hx.2
      · intro _
        rw [this, dec_three e2 f2 g2 (by omega), e1, f1, g1]
  | a :: b :: c :: d :: r, hsz => simp at hsz; omega
  | [], hsz => simp at hsz; omega

theorem part_none {p : ByteArray} (h : numO p 3 = none) : v4Part p = none := by rw [v4Part, h]
theorem part_big {p : ByteArray} {n : Nat} (h : numO p 3 = some n) (hn : 255 < n) : v4Part p = none := by rw [v4Part, h]; simp only; rw [if_neg (by omega)]
theorem part_not {p : ByteArray} {n : Nat} (h : numO p 3 = some n) (hd : decS n ≠ p) : v4Part p = none := by rw [v4Part, h]; simp only; rw [if_neg (fun x => hd x.2)]
theorem part_some {p : ByteArray} {n : Nat} (h : numO p 3 = some n) (hn : n ≤ 255) (hd : decS n = p) : v4Part p = some n := by rw [v4Part, h]; simp only; rw [if_pos ⟨hn, hd⟩]
theorem num_pos {p : ByteArray} {n m : Nat} (h : numO p m = some n) : 0 < p.size := by
  unfold numO at h
  by_cases hc : 1 ≤ p.size ∧ p.size ≤ m ∧ p.data.toList.all Nm.digB = true
  · omega
  · rw [if_neg hc] at h; cases h
def strV (p : ByteArray × Int) : Value := .tuple #[.string p.1, .int .i64 p.2]
end Go.Proofs.YtakonfkefoeenadDoor
