import Derived.Test.YthhagapmcbkeiaaCut
import Derived.Test.YthhagapmcbkeiaaJMath
import Derived.Test.YthhagapmcbkeiaaJSgN
/- impl.DataNames by its contract. -/
namespace Go.Proofs.Ythhagapmcbkeiaa
open Go.RowKit

set_option maxRecDepth 100000 in
set_option maxHeartbeats 400000 in
theorem implDataNames_any (t : Int) (d : ByteArray) (w : World) (hd : d.size ≤ 2000000) :
    Calls Try.prog 59 #[.int .i64 t, .string d] w fun e w' => ∃ v, e = .returned v ∧ w'.ownsRow w.heap.size 123 2 v ((cutS t d).getD []).length (spanCells ((cutS t d).getD [])) ∧ Below w.heap.size w w' := by
  have hcall := cutData_any t d w hd
  go_enter Try.func59, Try.ntmps59
  go_wp2_with (go_at_call 63; refine hcall.mono ?_; rintro e w2 ⟨v, rfl, h1, h2, hbel⟩)
  go_ret
  refine ⟨_, rfl, ?_, hbel⟩
  cases h : cutS t d with
  | none => rw [h2 h]; exact World.ownsRow_nil _ _ _ _
  | some sp => exact h1 sp h
end Go.Proofs.Ythhagapmcbkeiaa
/- Cells of spans. -/
namespace Go.Proofs.Ythhagapmcbkeiaa
open Go.RowKit

theorem span_cells {sp : List (Nat × Nat)} {k : Nat} {x : Nat × Nat} (h : sp[k]? = some x) : (spanCells sp)[k * 2]? = some (.int .i64 (x.1 : Int)) ∧ (spanCells sp)[k * 2 + 1]? = some (.int .i64 (x.2 : Int)) := by
  induction sp generalizing k with
  | nil => simp at h
  | cons y sp ih =>
    cases k with
    | zero => simp at h; subst h; simp [spanCells]
    | succ k =>
      simp at h
      have := ih h
      have e : spanCells (y :: sp) = [.int .i64 (y.1 : Int), .int .i64 (y.2 : Int)] ++ spanCells sp := by simp [spanCells]
      rw [e, show (k + 1) * 2 = k * 2 + 2 by omega, show k * 2 + 2 + 1 = (k * 2 + 1) + 2 by omega]
      simpa using this

theorem span_len (sp : List (Nat × Nat)) : (spanCells sp).length = sp.length * 2 := by
  induction sp with
  | nil => rfl
  | cons y sp ih =>
    have e : spanCells (y :: sp) = [.int .i64 (y.1 : Int), .int .i64 (y.2 : Int)] ++ spanCells sp := by simp [spanCells]
    rw [e]; simp [ih]; omega
end Go.Proofs.Ythhagapmcbkeiaa
