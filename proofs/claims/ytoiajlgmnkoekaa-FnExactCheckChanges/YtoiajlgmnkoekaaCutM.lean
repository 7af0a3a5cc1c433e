import Derived.Test.YtoiajlgmnkoekaaPartsM
/- Cutting data by the program's forms, step by step: mathematics. -/
namespace Go.Proofs.Ytoiajlgmnkoekaa
open Go.RowKit

def cutCode (t : Int) (d : ByteArray) : Int :=
  if t < 0 ∨ 65535 < t then 6 else if 65535 < d.size then 7 else if (Dt.spans (Dt.implP t) 0 d).isSome then 0 else 7
def cutS (t : Int) (d : ByteArray) : Option (List (Nat × Nat)) := if t < 0 ∨ 65535 < t then none else if 65535 < d.size then none else Dt.spans (Dt.implP t) 0 d

def spanCells (sp : List (Nat × Nat)) : List Value := sp.flatMap fun s => [.int .i64 (s.1 : Int), .int .i64 (s.2 : Int)]
theorem spanCells_append (a b : List (Nat × Nat)) : spanCells (a ++ b) = spanCells a ++ spanCells b := by simp [spanCells]

/-- Where the cutting stands. -/
def CAt (fs : List Dt.Pc) (d : ByteArray) (sp : List (Nat × Nat)) (r : List Dt.Pc) (a : Nat) : Prop :=
  Dt.spans fs 0 d = (Dt.spans r a (d.extract a d.size)).map (fun t => sp ++ t)

theorem cat_start (fs : List Dt.Pc) (d : ByteArray) : CAt fs d [] fs 0 := by simp [CAt]
theorem cat_end {fs : List Dt.Pc} {d : ByteArray} {sp : List (Nat × Nat)} {a : Nat} (h : CAt fs d sp [] a) (h0 : d.size ≤ a) : Dt.spans fs 0 d = some sp := by
  rw [h, Dt.spans, if_pos (by simp; omega)]; simp
theorem cat_left {fs : List Dt.Pc} {d : ByteArray} {sp : List (Nat × Nat)} {a : Nat} (h : CAt fs d sp [] a) (h0 : a < d.size) : Dt.spans fs 0 d = none := by
  rw [h, Dt.spans, if_neg (by simp; omega)]; rfl
theorem cat_none {fs r : List Dt.Pc} {p : Dt.Pc} {d : ByteArray} {sp : List (Nat × Nat)} {a : Nat} (h : CAt fs d sp (p :: r) a) (h0 : Dt.sz p (d.extract a d.size) = none) : Dt.spans fs 0 d = none := by
  rw [h, Dt.spans, h0]; rfl
theorem cat_step {fs r : List Dt.Pc} {p : Dt.Pc} {d : ByteArray} {sp : List (Nat × Nat)} {a n : Nat} (h : CAt fs d sp (p :: r) a) (ha : a ≤ d.size) (h0 : Dt.sz p (d.extract a d.size) = some n) :
    CAt fs d (sp ++ if p.isN then [(a, a + n)] else []) r (a + n) ∧ a + n ≤ d.size := by
  have hn := Dt.sz_le h0
  have hz : (d.extract a d.size).size = d.size - a := by simp
  refine ⟨?_, by omega⟩
  rw [CAt, h, Dt.spans, h0, Option.map_map, Dt.ext_ext (by omega) (Nat.le_refl _)]
  congr 1
  funext t
  cases p.isN <;> simp

theorem code_type {t : Int} {d : ByteArray} (h : t < 0 ∨ 65535 < t) : cutCode t d = 6 ∧ cutS t d = none := by
  rw [cutCode, cutS, if_pos h, if_pos h]; exact ⟨rfl, rfl⟩
theorem code_long {t : Int} {d : ByteArray} (h : ¬ (t < 0 ∨ 65535 < t)) (h1 : 65535 < d.size) : cutCode t d = 7 ∧ cutS t d = none := by
  rw [cutCode, cutS, if_neg h, if_neg h, if_pos h1, if_pos h1]; exact ⟨rfl, rfl⟩
theorem code_none {t : Int} {d : ByteArray} (h : ¬ (t < 0 ∨ 65535 < t)) (h1 : ¬ 65535 < d.size) (h2 : Dt.spans (Dt.implP t) 0 d = none) : cutCode t d = 7 ∧ cutS t d = none := by
  rw [cutCode, cutS, if_neg h, if_neg h, if_neg h1, if_neg h1, h2]; exact ⟨rfl, rfl⟩
theorem code_some {t : Int} {d : ByteArray} {sp : List (Nat × Nat)} (h : ¬ (t < 0 ∨ 65535 < t)) (h1 : ¬ 65535 < d.size) (h2 : Dt.spans (Dt.implP t) 0 d = some sp) : cutCode t d = 0 ∧ cutS t d = some sp := by
  rw [cutCode, cutS, if_neg h, if_neg h, if_neg h1, if_neg h1, h2]; exact ⟨rfl, rfl⟩
theorem implP_len (t : Int) : (Dt.implP t).length ≤ 5 := by
  unfold Dt.implP
  repeat' split
  all_goals simp
end Go.Proofs.Ytoiajlgmnkoekaa
