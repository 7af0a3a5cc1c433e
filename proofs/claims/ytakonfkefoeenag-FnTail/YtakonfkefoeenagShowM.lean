/- Names as text, as plain mathematics. -/
import Derived.Test.YtakonfkefoeenagLab
import Derived.Lib.Bytealg
namespace Go.Proofs.Ytakonfkefoeenag.Nm
open Go.RowKit

def marks : List UInt8 := [46, 92, 34, 59, 40, 41, 64, 36]
def markB (c : UInt8) : Bool := marks.any (· == c)

def threeL (c : UInt8) : List UInt8 := [UInt8.ofNat (48 + c.toNat / 100), UInt8.ofNat (48 + c.toNat / 10 % 10), UInt8.ofNat (48 + c.toNat % 10)]

def showB (c : UInt8) : List UInt8 :=
  if markB c = true then [92, c]
  else if 33 ≤ c.toNat ∧ c.toNat ≤ 126 then [c]
  else 92 :: threeL c

def showX (l : List UInt8) : List UInt8 := l.flatMap showB

def showL : List ByteArray → List UInt8
  | [] => []
  | l :: r => (showX l.data.toList ++ [46]) ++ showL r

theorem showB_mark {c : UInt8} (h : markB c = true) : showB c = [92, c] := by rw [showB, if_pos h]
theorem showB_plain {c : UInt8} (h : markB c = false) (h1 : 33 ≤ c.toNat ∧ c.toNat ≤ 126) : showB c = [c] := by rw [showB, if_neg (by simp [h]), if_pos h1]
theorem showB_num {c : UInt8} (h : markB c = false) (h1 : ¬ (33 ≤ c.toNat ∧ c.toNat ≤ 126)) : showB c = 92 :: threeL c := by rw [showB, if_neg (by simp [h]), if_neg h1]

theorem showB_length (c : UInt8) : (showB c).length ≤ 4 ∧ 1 ≤ (showB c).length := by
  unfold showB threeL
  split
  · simp
  · split <;> simp

theorem showX_append (a b : List UInt8) : showX (a ++ b) = showX a ++ showX b := by simp [showX]

theorem showX_length (l : List UInt8) : (showX l).length ≤ 4 * l.length := by
  induction l with
  | nil => simp [showX]
  | cons c r ih =>
    have := showB_length c
    simp only [showX, List.flatMap_cons, List.length_append, List.length_cons] at *
    omega

theorem showL_append (a b : List ByteArray) : showL (a ++ b) = showL a ++ showL b := by
  induction a with
  | nil => simp [showL]
  | cons x a ih => simp [showL, ih]

theorem showL_length (ls : List ByteArray) : (showL ls).length ≤ 4 * wsum ls := by
  induction ls with
  | nil => simp [showL]
  | cons x r ih =>
    have := showX_length x.data.toList
    simp only [showL, wsum, List.length_append, List.length_cons, List.length_nil, Array.length_toList, ByteArray.size_data] at *
    omega

theorem showL_step {ls : List ByteArray} {k : Nat} {x : ByteArray} (h : ls[k]? = some x) : showL (ls.take (k + 1)) = showL (ls.take k) ++ (showX x.data.toList ++ [46]) := by
  rw [take_step h, showL_append]; simp [showL]

theorem showX_step {x : ByteArray} {j : Nat} (h : j < x.size) : showX (x.data.toList.take (j + 1)) = showX (x.data.toList.take j) ++ showB x[j] := by
  have e : x.data.toList[j]? = some x[j] := by
    rw [List.getElem?_eq_getElem (by simpa using h)]; rfl
  rw [take_step e, showX_append]; simp [showX]

theorem showL_pos {ls : List ByteArray} (h : ls ≠ []) : 0 < (showL ls).length := by
  cases ls with
  | nil => exact absurd rfl h
  | cons x r => simp only [showL, List.length_append, List.length_cons, List.length_nil]; omega

def showS (s : ByteArray) : ByteArray × Int :=
  match split s with
  | none => (ByteArray.empty, 1)
  | some [] => (⟨#[46]⟩, 0)
  | some ls => (⟨(showL ls).toArray⟩, 0)

theorem showS_none {s : ByteArray} (h : split s = none) : showS s = (ByteArray.empty, 1) := by simp [showS, h]
theorem showS_root {s : ByteArray} (h : split s = some []) : showS s = (⟨#[46]⟩, 0) := by simp [showS, h]
theorem showS_some {s : ByteArray} {ls : List ByteArray} (h : split s = some ls) (hn : ls ≠ []) : showS s = (⟨(showL ls).toArray⟩, 0) := by
  cases ls with
  | nil => exact absurd rfl hn
  | cons x r => simp [showS, h]

theorem u8_back (c : UInt8) : ((c.toNat : Int)).toNat.toUInt8 = c := by
  simp

theorem mark_idx (c : UInt8) : decide (0 ≤ firstIdx ⟨#[46, 92, 34, 59, 40, 41, 64, 36]⟩ c) = markB c := by
  rw [firstIdx_nonneg]; rfl

theorem bys_mark (c : UInt8) : [Value.int .u8 (c.toNat : Int)] = bys [c] := rfl
theorem bys_num (c : UInt8) : [Value.int .u8 92, .int .u8 (48 + (c.toNat : Int) / 100), .int .u8 (48 + (c.toNat : Int) / 10 % 10), .int .u8 (48 + (c.toNat : Int) % 10)] = bys (92 :: threeL c) := by
  have := c.toNat_lt
  simp [bys, threeL]; omega

theorem markB_true {c : UInt8} (h : markB c = true) : c = 46 ∨ c = 92 ∨ c = 34 ∨ c = 59 ∨ c = 40 ∨ c = 41 ∨ c = 64 ∨ c = 36 := by
  simp [markB, marks] at h
  rcases h with h | h | h | h | h | h | h | h <;> simp [← h]

theorem markB_false {c : UInt8} (h : markB c = false) : (c == 46) = false ∧ (c == 92) = false ∧ (c == 34) = false ∧ (c == 59) = false ∧ (c == 40) = false ∧ (c == 41) = false ∧ (c == 64) = false ∧ (c == 36) = false := by
  simp only [markB, marks, List.any_cons, List.any_nil, Bool.or_eq_false_iff, beq_eq_false_iff_ne] at h
  obtain ⟨h1, h2, h3, h4, h5, h6, h7, h8, _⟩ := h
  simp only [beq_eq_false_iff_ne]
  exact ⟨h1.symm, h2.symm, h3.symm, h4.symm, h5.symm, h6.symm, h7.symm, h8.symm⟩

theorem four_cells (a b c d : Int) : ∀ u ∈ [Value.int .u8 a, .int .u8 b, .int .u8 c, .int .u8 d], u.oneCell' = true := by
  intro u hu
  simp at hu
  rcases hu with rfl | rfl | rfl | rfl <;> rfl

end Go.Proofs.Ytakonfkefoeenag.Nm
