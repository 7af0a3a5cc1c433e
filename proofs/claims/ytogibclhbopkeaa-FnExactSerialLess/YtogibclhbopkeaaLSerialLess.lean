/- The law of SerialLess: its walk. -/
import Derived.Test.YtogibclhbopkeaaSnM
namespace Go.Proofs.Ytogibclhbopkeaa
open Go.RowKit
set_option linter.unusedVariables false

set_option maxRecDepth 100000 in
set_option maxHeartbeats 400000 in
theorem fnExactSerialLess_walk (a0 a1 : Int) (w0 : (Lit.int .i64 a0).wf = true) (w1 : (Lit.int .i64 a1).wf = true) (w : World) :
    Calls Try.prog 3 #[.int .i64 a0, .int .i64 a1] w fun e w' => e = .returned (.bool true) ∧ Below w.heap.size w w' := by
  clear w0 w1
  have hsp := fun W => specSerialLess_any a0 a1 W
  have him := fun W => implSerialLess_any a0 a1 W
  have hc : (serL a0 a1 != serL a0 a1) = false := by simp
  generalize serL a0 a1 = c at *
  go_enter Try.func3, Try.ntmps3
  go_wp2_with fail
  refine (hsp _).mono ?_
  rintro e wf ⟨rfl, rfl⟩
  go_wp2_with fail
  refine (him _).mono ?_
  rintro e wg ⟨rfl, rfl⟩
  go_wp2
  go_ret
  exact ⟨rfl, Below.refl _ _⟩
end Go.Proofs.Ytogibclhbopkeaa
