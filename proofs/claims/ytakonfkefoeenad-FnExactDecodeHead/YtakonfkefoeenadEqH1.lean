/- laws.eqHead by its contract. -/
import Derived.Test.YtakonfkefoeenadHd1
namespace Go.Proofs.Ytakonfkefoeenad
open Go.RowKit
set_option linter.unusedVariables false

set_option maxRecDepth 100000 in
set_option maxHeartbeats 1600000 in
theorem eqHead_any (a0 a2 a10 : Int) (b1 b3 b4 b5 b6 b7 b8 b9 : Bool) (w : World) :
    Calls Try.prog 10 #[.agg #[.int .i64 a0, .bool b1, .int .i64 a2, .bool b3, .bool b4, .bool b5, .bool b6, .bool b7, .bool b8, .bool b9, .int .i64 a10], .agg #[.int .i64 a0, .bool b1, .int .i64 a2, .bool b3, .bool b4, .bool b5, .bool b6, .bool b7, .bool b8, .bool b9, .int .i64 a10]] w fun e w' => e = .returned (.bool true) ∧ Below w.heap.size w w' := by
  have h0 : (a0 != a0) = false := by simp
  have h2 : (a2 != a2) = false := by simp
  have h10 : (a10 != a10) = false := by simp
  go_enter Try.func10, Try.ntmps10
  go_wp2
  go_ret
  exact ⟨rfl, ((Below.refl _ _).alloc (Nat.le_refl _) _).alloc (by simp) _⟩

end Go.Proofs.Ytakonfkefoeenad
