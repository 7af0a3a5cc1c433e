/- Zones as they come in: mathematics. -/
import Derived.Test.YtghapfpapjgbjaaCRow
import Derived.Test.YtghapfpapjgbjaaSls
namespace Go.Proofs.Ytghapfpapjgbjaa
open Go.RowKit
set_option linter.unusedVariables false

/-- A set: its owner, type, time and data. -/
structure Sz where
  own : ByteArray
  ty : Int
  tt : Int
  da : List ByteArray

/-- A set, and the value of its slice of data. -/
abbrev Zp : Type := Sz × Value
def zpV (p : Zp) : List Value := [.string p.1.own, .int .i64 p.1.ty, .int .i64 p.1.tt, p.2]
def zpVs (ps : List Zp) : List Value := ps.flatMap zpV
theorem zpVs_cons (x : Zp) (xs : List Zp) : zpVs (x :: xs) = zpV x ++ zpVs xs := by simp [zpVs]
theorem zpVs_app (a b : List Zp) : zpVs (a ++ b) = zpVs a ++ zpVs b := by simp [zpVs]
theorem zpVs_len (xs : List Zp) : (zpVs xs).length = xs.length * 4 := by
  induction xs with
  | nil => rfl
  | cons x xs ih =>
    have : (zpV x).length = 4 := rfl
    rw [zpVs_cons, List.length_append, ih, List.length_cons, this]; omega
theorem zpVs_at : ∀ (xs : List Zp) (k j : Nat) (x : Zp), xs[k]? = some x → j < 4 → (zpVs xs)[k * 4 + j]? = (zpV x)[j]? := by
  intro xs
  induction xs with
  | nil => intro k j x h; simp at h
  | cons y xs ih =>
    intro k j x h hj
    have hl : (zpV y).length = 4 := rfl
    cases k with
    | zero =>
      simp at h; subst h
      rw [zpVs_cons, Nat.zero_mul, Nat.zero_add, List.getElem?_append_left (by omega)]
    | succ k =>
      simp at h
      rw [zpVs_cons, List.getElem?_append_right (by omega), hl, show (k + 1) * 4 + j - 4 = k * 4 + j by omega]
      exact ih k j x h hj
theorem zp_cells {w : World} {xs : List Zp} {b off k : Nat} {x : Zp} (hc : ∀ (i : Nat) (y : Value), (zpVs xs)[i]? = some y → w.cell? ⟨b, off + i, none⟩ = some y) (h : xs[k]? = some x) :
    w.cell? ⟨b, off + k * 4, none⟩ = some (.string x.1.own) ∧ w.cell? ⟨b, off + k * 4 + 1, none⟩ = some (.int .i64 x.1.ty) ∧ w.cell? ⟨b, off + k * 4 + 2, none⟩ = some (.int .i64 x.1.tt) ∧ w.cell? ⟨b, off + k * 4 + 3, none⟩ = some x.2 :=
  ⟨hc (k * 4) _ ((zpVs_at xs k 0 x h (by decide)).trans rfl), hc (k * 4 + 1) _ ((zpVs_at xs k 1 x h (by decide)).trans rfl), hc (k * 4 + 2) _ ((zpVs_at xs k 2 x h (by decide)).trans rfl), hc (k * 4 + 3) _ ((zpVs_at xs k 3 x h (by decide)).trans rfl)⟩

/-- A slice of sets that is read. -/
def ZRow (w : World) (v : Value) (ps : List Zp) : Prop := CRow w v ps.length 4 (zpVs ps) ∧ ∀ p ∈ ps, Nm.SRow w p.2 p.1.da
theorem ZRow.below {w W : World} {v : Value} {ps : List Zp} (h : ZRow w v ps) (hb : Below w.heap.size w W) : ZRow W v ps := ⟨h.1.below hb, fun p hp => (h.2 p hp).below hb⟩

def zs1 (s : Sz) : Nat := s.own.size + (s.da.length + ssum s.da)
def zsum : List Zp → Nat
  | [] => 0
  | x :: xs => zs1 x.1 + zsum xs
theorem zsum_step : ∀ (xs : List Zp) (k : Nat) (x : Zp), xs[k]? = some x → zsum (xs.take (k + 1)) = zsum (xs.take k) + zs1 x.1 := by
  intro xs
  induction xs with
  | nil => intro k x h; simp at h
  | cons y xs ih =>
    intro k x h
    cases k with
    | zero => simp at h; subst h; simp [zsum]
    | succ k =>
      simp at h
      have := ih k x h
      simp only [List.take_succ_cons, zsum]; omega
theorem zsum_take_le : ∀ (xs : List Zp) (k : Nat), zsum (xs.take k) ≤ zsum xs := by
  intro xs
  induction xs with
  | nil => intro k; simp [zsum]
  | cons y xs ih =>
    intro k
    cases k with
    | zero => simp [zsum]
    | succ k => have := ih k; simp only [List.take_succ_cons, zsum]; omega
theorem zsum_mem : ∀ (xs : List Zp) (x : Zp), x ∈ xs → zs1 x.1 ≤ zsum xs := by
  intro xs
  induction xs with
  | nil => intro x h; simp at h
  | cons y xs ih =>
    intro x h
    rcases List.mem_cons.1 h with rfl | h
    · simp only [zsum]; omega
    · have := ih x h; simp only [zsum]; omega
def szZ1 (s : Sz) (L : Int) : Int := if (zs1 s : Int) ≤ L then L - zs1 s else -1
def szZS (ps : List Zp) (L : Int) : Int := if (ps.length : Int) + (zsum ps : Int) ≤ L then L - ps.length - zsum ps else -1
def szZ (a : ByteArray) (ps : List Zp) (L : Int) : Int := if (a.size : Int) + ps.length + (zsum ps : Int) ≤ L then L - a.size - ps.length - zsum ps else -1
/-- Strings that are not too great for any machine. -/
def ZFit (ps : List Zp) : Prop := ∀ p ∈ ps, p.1.own.size ≤ maxLen ∧ ∀ x ∈ p.1.da, x.size ≤ maxLen
end Go.Proofs.Ytghapfpapjgbjaa
