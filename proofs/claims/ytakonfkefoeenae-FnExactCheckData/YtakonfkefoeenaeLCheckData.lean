/- The law of CheckData: its walk. -/
import Derived.Test.YtakonfkefoeenaeSCheck
import Derived.Test.YtakonfkefoeenaeICheck
namespace Go.Proofs.Ytakonfkefoeenae
open Go.RowKit
set_option linter.unusedVariables false

theorem int_same (n : Int) : (n != n) = false := by simp

set_option maxRecDepth 100000 in
set_option maxHeartbeats 400000 in
theorem fnExactCheckData_walk (a0 : Int) (w0 : (Lit.int .i64 a0).wf = true) (a1 : ByteArray) (w1 : a1.size ≤ maxLen) (w : World) :
    Calls Try.prog 5 #[.int .i64 a0, .string a1] w fun e w' => e = .returned (.bool true) ∧ Below w.heap.size w w' := by
  by_cases hl : 1048576 < a1.size
  · have hl' : (1048576 : Int) < (a1.size : Int) := by omega
    go_enter Try.func5, Try.ntmps5
    go_wp2
    go_ret
    exact ⟨rfl, Below.refl _ _⟩
  · have hl' : (a1.size : Int) ≤ 1048576 := by omega
    have hsp := fun W => specCheckData_any a0 a1 W
    have him := fun W => implCheckData_any a0 a1 W (by omega)
    have hi := int_same (cutCode a0 a1)
    generalize cutCode a0 a1 = c at *
    have Hs := hsp w
    go_enter Try.func5, Try.ntmps5
    go_wp2_with fail
    refine Hs.mono ?_
    rintro e w1 ⟨rfl, hb1⟩
    go_wp2_with fail
    refine (him _).mono ?_
    rintro e w2 ⟨rfl, hb2⟩
    go_wp2
    go_ret
    exact ⟨rfl, Nm.below_two hb1 hb2⟩
end Go.Proofs.Ytakonfkefoeenae
