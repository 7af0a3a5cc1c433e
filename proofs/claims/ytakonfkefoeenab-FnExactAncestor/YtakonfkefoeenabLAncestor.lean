/- The law of Ancestor: its walk. -/
import Derived.Test.YtakonfkefoeenabAnc
namespace Go.Proofs.Ytakonfkefoeenab
open Go.RowKit
set_option linter.unusedVariables false

theorem str_same (s : ByteArray) : (s.toList == s.toList) = true := by simp
theorem int_same (n : Int) : (n != n) = false := by simp

set_option maxRecDepth 100000 in
set_option maxHeartbeats 400000 in
theorem fnExactAncestor_walk (a0 : ByteArray) (w0 : a0.size ≤ maxLen) (a1 : Int) (w1 : (Lit.int .i64 a1).wf = true) (w : World) :
    Calls Try.prog 3 #[.string a0, .int .i64 a1] w fun e w' => e = .returned (.bool true) ∧ Below w.heap.size w w' := by
  have hsp := fun W => specAncestor_any a0 a1 W w0
  have him := fun W => implAncestor_any a0 a1 W w0
  have hs := str_same (ancS a0 a1).1
  have hi := int_same (ancS a0 a1).2
  generalize (ancS a0 a1).1 = r at *
  generalize (ancS a0 a1).2 = c at *
  by_cases hl : 1048576 < a0.size
  · have hl' : (1048576 : Int) < (a0.size : Int) := by omega
    go_enter Try.func3, Try.ntmps3
    go_wp2
    go_ret
    exact ⟨rfl, Below.refl _ _⟩
  · have hl' : (a0.size : Int) ≤ 1048576 := by omega
    have Hs := hsp w
    go_enter Try.func3, Try.ntmps3
    go_wp2_with fail
    refine Hs.mono ?_
    rintro e w1 ⟨rfl, hb1⟩
    go_wp2_with fail
    refine (him _).mono ?_
    rintro e w2 ⟨rfl, hb2⟩
    go_wp2
    go_ret
    exact ⟨rfl, Nm.below_two hb1 hb2⟩
end Go.Proofs.Ytakonfkefoeenab
