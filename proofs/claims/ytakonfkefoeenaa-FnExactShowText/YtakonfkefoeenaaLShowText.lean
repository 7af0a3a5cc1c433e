/- The law of ShowText: its walk. -/
import Derived.Test.YtakonfkefoeenaaIShowT
namespace Go.Proofs.Ytakonfkefoeenaa
open Go.RowKit
set_option linter.unusedVariables false


set_option maxRecDepth 100000 in
set_option maxHeartbeats 400000 in
theorem fnExactShowText_walk (a0 : ByteArray) (w0 : a0.size ≤ maxLen) (w : World) :
    Calls Try.prog 5 #[.string a0] w fun e w' => e = .returned (.bool true) ∧ Below w.heap.size w w' := by
  by_cases hl : 1048576 < a0.size
  · have hl' : (1048576 : Int) < (a0.size : Int) := by omega
    go_enter Try.func5, Try.ntmps5
    go_wp2
    go_ret
    exact ⟨rfl, Below.refl _ _⟩
  · have hl' : (a0.size : Int) ≤ 1048576 := by omega
    have hsp := fun W => specShowText_any a0 W (by omega)
    have him := fun W => implShowText_any a0 W (by omega)
    have hs : ((showTextS a0).toList == (showTextS a0).toList) = true := by simp
    have hs2 : ((showTextS a0).toList != (showTextS a0).toList) = false := by simp
    generalize showTextS a0 = r at *
    have Hs := hsp w
    go_enter Try.func5, Try.ntmps5
    go_wp2_with fail
    refine Hs.mono ?_
    rintro e w1 ⟨rfl, hb1⟩
    go_wp2_with fail
    refine (him _).mono ?_
    rintro e w2 ⟨rfl, hb2⟩
    go_wp2
    go_ret
    exact ⟨rfl, Nm.below_two hb1 hb2⟩
end Go.Proofs.Ytakonfkefoeenaa
