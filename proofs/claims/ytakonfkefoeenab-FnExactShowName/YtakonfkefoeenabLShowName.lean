/- The law of ShowName: its walk. -/
import Derived.Test.YtakonfkefoeenabShow
import Derived.Test.YtakonfkefoeenabSShow
namespace Go.Proofs.Ytakonfkefoeenab
open Go.RowKit
set_option linter.unusedVariables false


set_option maxRecDepth 100000 in
set_option maxHeartbeats 400000 in
theorem fnExactShowName_walk (a0 : ByteArray) (w0 : a0.size ≤ maxLen) (w : World) :
    Calls Try.prog 4 #[.string a0] w fun e w' => e = .returned (.bool true) ∧ Below w.heap.size w w' := by
  have hsp := fun W => specShowName_any a0 W w0
  have him := fun W => implShowName_any a0 W w0
  have hs : ((Nm.showS a0).1.toList == (Nm.showS a0).1.toList) = true := by simp
  have hi : ((Nm.showS a0).2 != (Nm.showS a0).2) = false := by simp
  generalize (Nm.showS a0).1 = r at *
  generalize (Nm.showS a0).2 = c at *
  by_cases hl : 1048576 < a0.size
  · have hl' : (1048576 : Int) < (a0.size : Int) := by omega
    go_enter Try.func4, Try.ntmps4
    go_wp2
    go_ret
    exact ⟨rfl, Below.refl _ _⟩
  · have hl' : (a0.size : Int) ≤ 1048576 := by omega
    have Hs := hsp w
    go_enter Try.func4, Try.ntmps4
    go_wp2_with fail
    refine Hs.mono ?_
    rintro e w1 ⟨rfl, hb1⟩
    go_wp2_with fail
    refine (him _).mono ?_
    rintro e w2 ⟨rfl, hb2⟩
    go_wp2
    go_ret
    exact ⟨rfl, Nm.below_two hb1 hb2⟩
end Go.Proofs.Ytakonfkefoeenab
