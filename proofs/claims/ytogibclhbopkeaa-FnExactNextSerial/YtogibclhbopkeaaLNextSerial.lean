/- The law of NextSerial: its walk. -/
import Derived.Test.YtogibclhbopkeaaSnM
namespace Go.Proofs.Ytogibclhbopkeaa
open Go.RowKit
set_option linter.unusedVariables false

set_option maxRecDepth 100000 in
set_option maxHeartbeats 400000 in
theorem fnExactNextSerial_walk (a0 : Int) (w0 : (Lit.int .i64 a0).wf = true) (w : World) :
    Calls Try.prog 4 #[.int .i64 a0] w fun e w' => e = .returned (.bool true) ∧ Below w.heap.size w w' := by
  clear w0
  have hsp := fun W => specNextSerial_any a0 W
  have him := fun W => implNextSerial_any a0 W
  have hc : (serN a0 != serN a0) = false := by simp
  generalize serN a0 = c at *
  go_enter Try.func4, Try.ntmps4
  go_wp2_with fail
  refine (hsp _).mono ?_
  rintro e w1 ⟨rfl, rfl⟩
  go_wp2_with fail
  refine (him _).mono ?_
  rintro e w2 ⟨rfl, rfl⟩
  go_wp2
  go_ret
  exact ⟨rfl, Below.refl _ _⟩
end Go.Proofs.Ytogibclhbopkeaa
