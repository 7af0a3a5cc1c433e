import Derived.Test.YtjokdmmlofbknaaDoorGrpM
import Derived.Test.YtjokdmmlofbknaaDoorJFoldM
import Derived.Lib.Join
/- What ShowV6 answers: mathematics. -/
namespace Go.Proofs.YtjokdmmlofbknaaDoor
open Go.RowKit

def allZ (z : Nat → Bool) (i n : Nat) : Bool := (List.range n).all fun k => z (i + k)
def spIn (z : Nat → Bool) (n : Nat) : Nat → Nat → Option (Nat × Nat)
  | 0, _ => none
  | f + 1, i => if allZ z i n = true then some (n, i) else spIn z n f (i + 1)
def spOut (z : Nat → Bool) : Nat → Option (Nat × Nat)
  | 0 => none
  | 1 => none
  | n + 2 => match spIn z (n + 2) (9 - (n + 2)) 0 with
    | some r => some r
    | none => spOut z (n + 1)
/-- The model's search. -/
def spFind (z : Nat → Bool) : Option (Nat × Nat) := spOut z 8
/-- The program's. -/
def gapStep (z : Nat → Bool) (k : Nat) (g : Nat × Nat × Nat) : Nat × Nat × Nat :=
  let st := if z k = true then g.1 else k + 1
  if g.2.2 - g.2.1 < k + 1 - st then (st, st, k + 1) else (st, g.2.1, g.2.2)
def gapF (z : Nat → Bool) : Nat → Nat × Nat × Nat
  | 0 => (0, 0, 0)
  | k + 1 => gapStep z k (gapF z k)

def zl (a b c d e f g h : Bool) : Nat → Bool := fun k => [a, b, c, d, e, f, g, h].getD k false
def gapOK (z : Nat → Bool) : Bool := match spFind z with
  | some r => decide ((gapF z 8).2 = (r.2, r.2 + r.1)) && decide (2 ≤ r.1) && decide (r.2 + r.1 ≤ 8)
  | none => decide ((gapF z 8).2.2 - (gapF z 8).2.1 < 2)
set_option maxRecDepth 100000 in
theorem gap_all : ∀ a b c d e f g h : Bool, gapOK (zl a b c d e f g h) = true := by decide +kernel

def zf (s : ByteArray) : Nat → Bool := zl (decide (grp s 0 = 0)) (decide (grp s 1 = 0)) (decide (grp s 2 = 0)) (decide (grp s 3 = 0)) (decide (grp s 4 = 0)) (decide (grp s 5 = 0)) (decide (grp s 6 = 0)) (decide (grp s 7 = 0))
theorem zf_at (s : ByteArray) (k : Nat) (h : k < 8) : zf s k = decide (grp s k = 0) := by
  match k, h with
  | 0, _ => rfl
  | 1, _ => rfl
  | 2, _ => rfl
  | 3, _ => rfl
  | 4, _ => rfl
  | 5, _ => rfl
  | 6, _ => rfl
  | 7, _ => rfl
theorem gap_some {s : ByteArray} {n i : Nat} (h : spFind (zf s) = some (n, i)) : (gapF (zf s) 8).2 = (i, i + n) ∧ 2 ≤ n ∧ i + n ≤ 8 := by
  have := gap_all (decide (grp s 0 = 0)) (decide (grp s 1 = 0)) (decide (grp s 2 = 0)) (decide (grp s 3 = 0)) (decide (grp s 4 = 0)) (decide (grp s 5 = 0)) (decide (grp s 6 = 0)) (decide (grp s 7 = 0))
  change gapOK (zf s) = true at this
  rw [gapOK, h] at this
  simp only [Bool.and_eq_true, decide_eq_true_eq] at this
  exact ⟨this.1.1, this.1.2, this.2⟩
theorem gap_none {s : ByteArray} (h : spFind (zf s) = none) : (gapF (zf s) 8).2.2 - (gapF (zf s) 8).2.1 < 2 := by
  have := gap_all (decide (grp s 0 = 0)) (decide (grp s 1 = 0)) (decide (grp s 2 = 0)) (decide (grp s 3 = 0)) (decide (grp s 4 = 0)) (decide (grp s 5 = 0)) (decide (grp s 6 = 0)) (decide (grp s 7 = 0))
  change gapOK (zf s) = true at this
  rw [gapOK, h] at this
  simpa using this
theorem gapF_le (z : Nat → Bool) : ∀ k, (gapF z k).1 ≤ k ∧ (gapF z k).2.1 ≤ (gapF z k).2.2 ∧ (gapF z k).2.2 ≤ k := by
  intro k
  induction k with
  | zero => simp [gapF]
  | succ k ih =>
    rw [gapF]
    generalize gapF z k = g at *
    unfold gapStep
    simp only
    split <;> split <;> simp only <;> omega

def showV6S (s : ByteArray) : ByteArray × Int := if s.size = 16 then (match spFind (zf s) with
    | some r => (rowS s 0 r.2 ++ ⟨#[58, 58]⟩ ++ rowS s (r.2 + r.1) (8 - (r.2 + r.1)), 0)
    | none => (rowS s 0 8, 0)) else (⟨#[]⟩, 7)

/-- The row of groups is their joining. -/
def grps (s : ByteArray) (a k : Nat) : List ByteArray := (List.range k).map fun j => hexS (grp s (a + j))
theorem joinTail_snoc (sep : List UInt8) (r : List (List UInt8)) (x : List UInt8) : Lib.joinTail sep (r ++ [x]) = Lib.joinTail sep r ++ (sep ++ x) := by simp [Lib.joinTail]
theorem join_snoc (sep : List UInt8) (r : List (List UInt8)) (x : List UInt8) : Lib.join (r ++ [x]) sep = if r.length = 0 then x else Lib.join r sep ++ sep ++ x := by
  cases r with
  | nil => simp [Lib.join_one]
  | cons y t => rw [List.cons_append, Lib.join_cons, joinTail_snoc, Lib.join_cons, if_neg (by simp)]; simp
theorem grps_len (s : ByteArray) (a k : Nat) : (grps s a k).length = k := by simp [grps]
theorem row_join (s : ByteArray) (a : Nat) : ∀ k, (rowS s a k).data.toList = Lib.join ((grps s a k).map (·.data.toList)) [58] := by
  intro k
  induction k with
  | zero => rfl
  | succ k ih =>
    have e : grps s a (k + 1) = grps s a k ++ [hexS (grp s (a + k))] := by simp [grps, List.range_succ]
    rw [e, List.map_append, List.map_cons, List.map_nil, join_snoc, List.length_map, grps_len, rowS]
    by_cases h : k = 0
    · subst h; simp [rowS]
    · rw [if_neg h, if_pos (by omega), ← ih]
      simp
theorem row_string (s : ByteArray) (a k : Nat) : (⟨(Lib.join ((grps s a k).map (·.data.toList)) [58]).toArray⟩ : ByteArray) = rowS s a k := by
  apply Nm.ba_ext
  rw [row_join]
theorem grps_take (s : ByteArray) {i : Nat} (h : i ≤ 8) : (grps s 0 8).take i = grps s 0 i := by
  simp only [grps, ← List.map_take]
  congr 1
  rw [List.take_range, Nat.min_eq_left h]
theorem grps_drop (s : ByteArray) (i : Nat) : (grps s 0 8).drop i = grps s i (8 - i) := by
  apply List.ext_getElem (by simp [grps])
  intro j h1 h2
  simp [grps]
theorem row_len (s : ByteArray) (a k : Nat) : (Lib.join ((grps s a k).map (·.data.toList)) [58]).length ≤ 5 * k := by
  rw [← row_join]
  have := rowS_size s a k
  simpa using this

theorem hex_zero {n : Nat} (h : n < 65536) : ((hexS n).toList == [48]) = decide (n = 0) := by
  rw [Bool.eq_iff_iff, beq_iff_eq, decide_eq_true_eq, ByteArray.toList_eq]
  show hexL n = [48] ↔ n = 0
  constructor
  · intro e
    by_cases h16 : n < 16
    · rw [hexL_small h16] at e
      have e1 : hexD n = 48 := by simpa using e
      have : ∀ k, k < 16 → hexD k = 48 → k = 0 := by decide
      exact this n h16 e1
    · exfalso
      rw [hexL_step h16] at e
      have hl := congrArg List.length e
      have : 1 ≤ (hexL (n / 16)).length := by
        by_cases hh : n / 16 < 16
        · rw [hexL_small hh]; simp
        · rw [hexL_step hh]; simp
      simp at hl
      rw [hl] at this
      simp at this
  · intro e; subst e; rfl
end Go.Proofs.YtjokdmmlofbknaaDoor
