import Derived.Test.YtehggabhjpiclaaJDataM
import Derived.Test.YtehggabhjpiclaaJBitM
/- Cutting data by the program's forms, step by step: mathematics. -/
namespace Go.Proofs.Ytehggabhjpiclaa
open Go.RowKit

def cutCode (t : Int) (d : ByteArray) : Int :=
  if t < 0 ∨ 65535 < t then 6 else if 65535 < d.size then 7 else if (Dt.spans (Dt.implP t) 0 d).isSome then 0 else 7
def cutS (t : Int) (d : ByteArray) : Option (List (Nat × Nat)) := if t < 0 ∨ 65535 < t then none else if 65535 < d.size then none else Dt.spans (Dt.implP t) 0 d

def spanCells (sp : List (Nat × Nat)) : List Value := sp.flatMap fun s => [.int .i64 (s.1 : Int), .int .i64 (s.2 : Int)]
theorem spanCells_append (a b : List (Nat × Nat)) : spanCells (a ++ b) = spanCells a ++ spanCells b := by simp [spanCells]

/-- Where the cutting stands. -/
def CAt (fs : List Dt.Pc) (d : ByteArray) (sp : List (Nat × Nat)) (r : List Dt.Pc) (a : Nat) : Prop :=
  Dt.spans fs 0 d = (Dt.spans r a (d.extract a d.size)).map (fun t => sp ++ t)

theorem cat_start (fs : List Dt.Pc) (d : ByteArray) : CAt fs d [] fs 0 := by simp [CAt]
theorem cat_end {fs : List Dt.Pc} {d : ByteArray} {sp : List (Nat × Nat)} {a : Nat} (h : CAt fs d sp [] a) (h0 : d.size ≤ a) : Dt.spans fs 0 d = some sp := by
  rw [h, Dt.spans, if_pos (by simp; omega)]; simp
theorem cat_left {fs : List Dt.Pc} {d : ByteArray} {sp : List (Nat × Nat)} {a : Nat} (h : CAt fs d sp [] a) (h0 : a < d.size) : Dt.spans fs 0 d = none := by
  rw [h, Dt.spans, if_neg (by simp; omega)]; rfl
theorem cat_none {fs r : List Dt.Pc} {p : Dt.Pc} {d : ByteArray} {sp : List (Nat × Nat)} {a : Nat} (h : CAt fs d sp (p :: r) a) (h0 : Dt.sz p (d.extract a d.size) = none) : Dt.spans fs 0 d = none := by
  rw [h, Dt.spans, h0]; rfl
theorem cat_step {fs r : List Dt.Pc} {p : Dt.Pc} {d : ByteArray} {sp : List (Nat × Nat)} {a n : Nat} (h : CAt fs d sp (p :: r) a) (ha : a ≤ d.size) (h0 : Dt.sz p (d.extract a d.size) = some n) :
    CAt fs d (sp ++ if p.isN then [(a, a + n)] else []) r (a + n) ∧ a + n ≤ d.size := by
  have hn := Dt.sz_le h0
  have hz : (d.extract a d.size).size = d.size - a := by simp
  refine ⟨?_, by omega⟩
  rw [CAt, h, Dt.spans, h0, Option.map_map, Dt.ext_ext (by omega) (Nat.le_refl _)]
  congr 1
  funext t
  cases p.isN <;> simp

theorem code_type {t : Int} {d : ByteArray} (h : t < 0 ∨ 65535 < t) : cutCode t d = 6 ∧ cutS t d = none := by
  rw [cutCode, cutS, if_pos h, if_pos h]; exact ⟨rfl, rfl⟩
theorem code_long {t : Int} {d : ByteArray} (h : ¬ (t < 0 ∨ 65535 < t)) (h1 : 65535 < d.size) : cutCode t d = 7 ∧ cutS t d = none := by
  rw [cutCode, cutS, if_neg h, if_neg h, if_pos h1, if_pos h1]; exact ⟨rfl, rfl⟩
theorem code_none {t : Int} {d : ByteArray} (h : ¬ (t < 0 ∨ 65535 < t)) (h1 : ¬ 65535 < d.size) (h2 : Dt.spans (Dt.implP t) 0 d = none) : cutCode t d = 7 ∧ cutS t d = none := by
  rw [cutCode, cutS, if_neg h, if_neg h, if_neg h1, if_neg h1, h2]; exact ⟨rfl, rfl⟩
theorem code_some {t : Int} {d : ByteArray} {sp : List (Nat × Nat)} (h : ¬ (t < 0 ∨ 65535 < t)) (h1 : ¬ 65535 < d.size) (h2 : Dt.spans (Dt.implP t) 0 d = some sp) : cutCode t d = 0 ∧ cutS t d = some sp := by
  rw [cutCode, cutS, if_neg h, if_neg h, if_neg h1, if_neg h1, h2]; exact ⟨rfl, rfl⟩
theorem implP_len (t : Int) : (Dt.implP t).length ≤ 5 := by
  unfold Dt.implP
  repeat' split
  all_goals simp
end Go.Proofs.Ytehggabhjpiclaa
/- Data of its form: its parts and its places. Mathematics. -/
namespace Go.Proofs.Ytehggabhjpiclaa
open Go.RowKit

theorem code_zero {t : Int} {d : ByteArray} : cutCode t d = 0 ↔ ∃ sp, cutS t d = some sp := by
  by_cases h : t < 0 ∨ 65535 < t
  · obtain ⟨h1, h2⟩ := code_type (d := d) h
    rw [h1, h2]; simp
  · by_cases h1 : 65535 < d.size
    · obtain ⟨h2, h3⟩ := code_long h h1
      rw [h2, h3]; simp
    · cases hq : Dt.spans (Dt.implP t) 0 d with
      | none => obtain ⟨h2, h3⟩ := code_none h h1 hq; rw [h2, h3]; simp
      | some sp => obtain ⟨h2, h3⟩ := code_some h h1 hq; rw [h2, h3]; simp

/-- Of data of its form: its parts, and where the names stand. -/
theorem good_parts {t : Int} {d : ByteArray} (h : cutCode t d = 0) : ∃ ps, Dt.parts (Dt.specP t) d = some ps ∧ cutS t d = some (Dt.spansOf (Dt.specP t) ps 0) ∧ d.size ≤ 65535 := by
  obtain ⟨sp, hsp⟩ := code_zero.1 h
  by_cases ht : t < 0 ∨ 65535 < t
  · rw [(code_type (d := d) ht).2] at hsp; cases hsp
  · by_cases h1 : 65535 < d.size
    · rw [(code_long ht h1).2] at hsp; cases hsp
    · have e : cutS t d = Dt.spans (Dt.implP t) 0 d := by rw [cutS, if_neg ht, if_neg h1]
      rw [e, ← Dt.forms_agree, Dt.spans_of_parts] at hsp
      cases hq : Dt.parts (Dt.specP t) d with
      | none => rw [hq] at hsp; simp at hsp
      | some ps =>
        refine ⟨ps, rfl, ?_, by omega⟩
        rw [e, ← Dt.forms_agree, Dt.spans_of_parts, hq]; rfl

theorem part_le : ∀ (ps : List ByteArray) (x : ByteArray), x ∈ ps → x.size ≤ (Dt.catL ps).length := by
  intro ps
  induction ps with
  | nil => intro x h; simp at h
  | cons y ps ih =>
    intro x h
    have e : (Dt.catL (y :: ps)).length = y.size + (Dt.catL ps).length := by simp [Dt.catL]
    rcases List.mem_cons.1 h with rfl | h
    · omega
    · have := ih x h; omega

theorem isN_let (c : UInt8) : (Dt.letP c).isN = decide (c.toNat = 110) := by
  by_cases h : c = 110
  · subst h; rfl
  · have h' : c.toNat ≠ 110 := fun e => h (UInt8.toNat_inj.1 (by simpa using e))
    simp only [h', decide_false]
    unfold Dt.letP
    rw [if_neg h]
    repeat' split
    all_goals rfl

theorem spans_few : ∀ (fs : List Dt.Pc) (a : Nat) (d : ByteArray) (sp : List (Nat × Nat)), Dt.spans fs a d = some sp → sp.length ≤ fs.length := by
  intro fs
  induction fs with
  | nil =>
    intro a d sp h
    rw [Dt.spans] at h
    split at h
    · simp at h; subst h; simp
    · simp at h
  | cons p r ih =>
    intro a d sp h
    rw [Dt.spans] at h
    cases hq : Dt.sz p d with
    | none => rw [hq] at h; simp at h
    | some n =>
      rw [hq] at h
      cases hr : Dt.spans r (a + n) (d.extract n d.size) with
      | none => simp [hr] at h
      | some l =>
        have := ih _ _ _ hr
        simp [hr] at h
        subst h
        cases p.isN <;> simp <;> omega

theorem cut_few (t : Int) (d : ByteArray) : ((cutS t d).getD []).length ≤ 5 := by
  cases h : cutS t d with
  | none => simp
  | some sp =>
    rw [cutS] at h
    split at h
    · cases h
    · split at h
      · cases h
      · have h1 := spans_few _ _ _ _ h
        have h2 := implP_len t
        simp; omega

end Go.Proofs.Ytehggabhjpiclaa
/- The types whose data may have pointers. -/
namespace Go.Proofs.Ytehggabhjpiclaa
/-- Data of the types whose names may have pointers. -/
abbrev pointed (t : Nat) : Prop := t = 2 ∨ t = 5 ∨ t = 6 ∨ t = 12 ∨ t = 15
end Go.Proofs.Ytehggabhjpiclaa
