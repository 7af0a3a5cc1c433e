/- Names, as plain mathematics: the labels of a name in wire form. -/
import Derived.WalkKit
namespace Go.Proofs.YtjbdfooppokonaaDoor.Nm

def splitF : Nat → ByteArray → Option (List ByteArray)
  | 0, _ => none
  | f + 1, r =>
    if h : 0 < r.size then
      if r[0].toNat = 0 then (if r.size = 1 then some [] else none)
      else if 63 < r[0].toNat ∨ r.size < r[0].toNat + 1 then none
      else (splitF f (r.extract (r[0].toNat + 1) r.size)).map (fun ls => r.extract 1 (r[0].toNat + 1) :: ls)
    else none

def split (s : ByteArray) : Option (List ByteArray) := if s.size ≤ 255 then splitF 256 s else none

theorem splitF_empty (f : Nat) (r : ByteArray) (h : r.size = 0) : splitF f r = none := by
  cases f with
  | zero => rfl
  | succ f => rw [splitF, dif_neg (by omega)]

theorem splitF_end (f : Nat) (r : ByteArray) (h : 0 < r.size) (h0 : r[0].toNat = 0) (h1 : r.size = 1) : splitF (f + 1) r = some [] := by
  rw [splitF, dif_pos h, if_pos h0, if_pos h1]

theorem splitF_zero (f : Nat) (r : ByteArray) (h : 0 < r.size) (h0 : r[0].toNat = 0) (h1 : r.size ≠ 1) : splitF (f + 1) r = none := by
  rw [splitF, dif_pos h, if_pos h0, if_neg h1]

theorem splitF_bad (f : Nat) (r : ByteArray) (h : 0 < r.size) (h0 : r[0].toNat ≠ 0) (h1 : 63 < r[0].toNat ∨ r.size < r[0].toNat + 1) : splitF (f + 1) r = none := by
  rw [splitF, dif_pos h, if_neg h0, if_pos h1]

theorem splitF_step (f : Nat) (r : ByteArray) (h : 0 < r.size) (h0 : r[0].toNat ≠ 0) (h1 : r[0].toNat ≤ 63) (h2 : r[0].toNat + 1 ≤ r.size) :
    splitF (f + 1) r = (splitF f (r.extract (r[0].toNat + 1) r.size)).map (fun ls => r.extract 1 (r[0].toNat + 1) :: ls) := by
  rw [splitF, dif_pos h, if_neg h0, if_neg (by omega)]

theorem split_long (s : ByteArray) (h : 255 < s.size) : split s = none := by rw [split, if_neg (by omega)]
theorem split_short (s : ByteArray) (h : s.size ≤ 255) : split s = splitF 256 s := by rw [split, if_pos h]

/-- Where the reading stands: 'ls' are the labels that were cut off, 'r' is the rest. -/
def At (s : ByteArray) (ls : List ByteArray) (r : ByteArray) : Prop :=
  ∃ f, r.size < f ∧ split s = (splitF f r).map (fun t => ls ++ t)

theorem at_start (s : ByteArray) (h : s.size ≤ 255) : At s [] s := ⟨256, by omega, by rw [split_short s h]; simp⟩

theorem at_empty {s r : ByteArray} {ls : List ByteArray} (h : At s ls r) (h0 : r.size = 0) : split s = none := by
  obtain ⟨f, _, e⟩ := h; rw [e, splitF_empty f r h0]; rfl

theorem at_end {s r : ByteArray} {ls : List ByteArray} (h : At s ls r) (hp : 0 < r.size) (h0 : r[0].toNat = 0) (h1 : r.size = 1) : split s = some ls := by
  obtain ⟨f, hf, e⟩ := h
  obtain ⟨g, rfl⟩ : ∃ g, f = g + 1 := ⟨f - 1, by omega⟩
  rw [e, splitF_end g r hp h0 h1]; simp

theorem at_zero {s r : ByteArray} {ls : List ByteArray} (h : At s ls r) (hp : 0 < r.size) (h0 : r[0].toNat = 0) (h1 : r.size ≠ 1) : split s = none := by
  obtain ⟨f, hf, e⟩ := h
  obtain ⟨g, rfl⟩ : ∃ g, f = g + 1 := ⟨f - 1, by omega⟩
  rw [e, splitF_zero g r hp h0 h1]; rfl

theorem at_bad {s r : ByteArray} {ls : List ByteArray} (h : At s ls r) (hp : 0 < r.size) (h0 : r[0].toNat ≠ 0) (h1 : 63 < r[0].toNat ∨ r.size < r[0].toNat + 1) : split s = none := by
  obtain ⟨f, hf, e⟩ := h
  obtain ⟨g, rfl⟩ : ∃ g, f = g + 1 := ⟨f - 1, by omega⟩
  rw [e, splitF_bad g r hp h0 h1]; rfl

theorem at_step {s r : ByteArray} {ls : List ByteArray} (h : At s ls r) (hp : 0 < r.size) (h0 : r[0].toNat ≠ 0) (h1 : r[0].toNat ≤ 63) (h2 : r[0].toNat + 1 ≤ r.size) :
    At s (ls ++ [r.extract 1 (r[0].toNat + 1)]) (r.extract (r[0].toNat + 1) r.size) := by
  obtain ⟨f, hf, e⟩ := h
  obtain ⟨g, rfl⟩ : ∃ g, f = g + 1 := ⟨f - 1, by omega⟩
  refine ⟨g, by simp; omega, ?_⟩
  rw [e, splitF_step g r hp h0 h1 h2, Option.map_map]
  congr 1; funext t; simp

theorem tl_len (r : ByteArray) : r.toList.length = r.size := by rw [ByteArray.toList_eq]; simp

theorem tl_one {r : ByteArray} (h : 0 < r.size) (h1 : r.size = 1) (h0 : r[0].toNat = 0) : (r.toList == [0]) = true := by
  rw [beq_iff_eq, ByteArray.toList_eq]
  refine List.ext_getElem (by simpa using h1) ?_
  intro i hi hj
  have : i = 0 := by simpa using hj
  subst this
  have e : r.data.toList[0] = r[0] := rfl
  rw [e]
  exact UInt8.toNat_inj.1 (by simpa using h0)

theorem tl_not_one {r : ByteArray} (h : 0 < r.size) (h1 : ¬ (r.size = 1 ∧ r[0].toNat = 0)) : (r.toList == [0]) = false := by
  rw [beq_eq_false_iff_ne]
  intro e
  rw [ByteArray.toList_eq] at e
  apply h1
  refine ⟨by have := congrArg List.length e; simpa using this, ?_⟩
  have g : r.data.toList[0]? = some 0 := by rw [e]; rfl
  have g2 : r.data.toList[0]? = some r[0] := List.getElem?_eq_getElem (by simpa using h)
  rw [g2] at g
  have g3 : r[0] = 0 := by simpa using g
  rw [g3]; rfl

theorem tl_not_one_empty {r : ByteArray} (h : r.size = 0) : (r.toList == [0]) = false := by
  rw [beq_eq_false_iff_ne]
  intro e
  have := congrArg List.length e
  rw [tl_len] at this
  simp at this; omega

theorem tl_empty {r : ByteArray} (h : r.size = 0) : r.toList.isEmpty = true := by
  rw [List.isEmpty_iff, ← List.length_eq_zero_iff, tl_len]; exact h

theorem tl_not_empty {r : ByteArray} (h : 0 < r.size) : r.toList.isEmpty = false := by
  rw [Bool.eq_false_iff]
  intro e
  rw [List.isEmpty_iff, ← List.length_eq_zero_iff, tl_len] at e; omega

theorem one_cell (x : Value) (h : x.oneCell' = true) : ∀ u : Value, u ∈ [x] → u.oneCell' = true := by
  intro u hu; simp at hu; subst hu; exact h

end Go.Proofs.YtjbdfooppokonaaDoor.Nm
