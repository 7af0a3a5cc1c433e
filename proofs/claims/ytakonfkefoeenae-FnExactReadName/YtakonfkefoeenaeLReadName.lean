/- The law of ReadName: its walk. -/
import Derived.Test.YtakonfkefoeenaeReadI
import Derived.Test.YtakonfkefoeenaeReadS
namespace Go.Proofs.Ytakonfkefoeenae
open Go.RowKit
set_option linter.unusedVariables false

set_option maxRecDepth 100000 in
set_option maxHeartbeats 400000 in
theorem fnExactReadName_walk (a0 a1 : ByteArray) (w0 : a0.size ≤ maxLen) (w1 : a1.size ≤ maxLen) (w : World) :
    Calls Try.prog 4 #[.string a0, .string a1] w fun e w' => e = .returned (.bool true) ∧ Below w.heap.size w w' := by
  have hsp := specReadName_any a0 a1 w w1
  have him := fun W => implReadName_any a0 a1 W w1
  have hs : ((readS a0 a1).1.toList == (readS a0 a1).1.toList) = true := by simp
  have hi : ((readS a0 a1).2 != (readS a0 a1).2) = false := by simp
  generalize (readS a0 a1).1 = r at *
  generalize (readS a0 a1).2 = c at *
  by_cases hl : 1048576 < a0.size
  · have hl' : (1048576 : Int) < (a0.size : Int) := by omega
    go_enter Try.func4, Try.ntmps4
    go_wp2
    go_ret
    exact ⟨rfl, Below.refl _ _⟩
  · have hl' : (a0.size : Int) ≤ 1048576 := by omega
    by_cases hl1 : 1048576 < a1.size
    · have hl1' : (1048576 : Int) < (a1.size : Int) := by omega
      go_enter Try.func4, Try.ntmps4
      go_wp2
      go_ret
      exact ⟨rfl, Below.refl _ _⟩
    · have hl1' : (a1.size : Int) ≤ 1048576 := by omega
      go_enter Try.func4, Try.ntmps4
      go_wp2_with fail
      refine hsp.mono ?_
      rintro e w1 ⟨rfl, hb1⟩
      go_wp2_with fail
      refine (him _).mono ?_
      rintro e w2 ⟨rfl, hb2⟩
      go_wp2
      go_ret
      exact ⟨rfl, Nm.below_two hb1 hb2⟩
end Go.Proofs.Ytakonfkefoeenae
