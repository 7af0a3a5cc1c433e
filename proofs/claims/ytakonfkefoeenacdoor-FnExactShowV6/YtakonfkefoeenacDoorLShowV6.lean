/- The law of ShowV6: its walk. -/
import Derived.Test.YtakonfkefoeenacDoorV6S
import Derived.Test.YtakonfkefoeenacDoorV6J
import Derived.Test.YtakonfkefoeenacDoorLaidM
namespace Go.Proofs.YtakonfkefoeenacDoor
open Go.RowKit
set_option linter.unusedVariables false

theorem bruTab_of {W : World} (hL : laidMet Tryd.prog Rows.fnExactShowV6Row.laid W) : BruTab W :=
  tab_of_laid (g := 3) (t := 64) (e := 5) (n := 64) hL (by exact List.Mem.tail _ (List.Mem.head _)) (by kernel_rfl) (by kernel_rfl) Tryd.underlying64 Tryd.underlying5 (by kernel_rfl) (by kernel_rfl)

set_option maxRecDepth 100000 in
set_option maxHeartbeats 400000 in
theorem fnExactShowV6_walk (a0 : ByteArray) (w0 : a0.size ≤ maxLen) (w : World) (hL : laidMet Tryd.prog Rows.fnExactShowV6Row.laid w) :
    Calls Tryd.prog 3 #[.string a0] w fun e w' => e = .returned (.bool true) ∧ Below w.heap.size w w' := by
  have hT := bruTab_of hL
  clear hL
  by_cases hl : 1048576 < a0.size
  · have hl' : (1048576 : Int) < (a0.size : Int) := by omega
    go_enter Tryd.func3, Tryd.ntmps3
    go_wp2
    go_ret
    exact ⟨rfl, Below.refl _ _⟩
  · have hl' : (a0.size : Int) ≤ 1048576 := by omega
    have Hs := specShowV6_any a0 w
    have him := fun W (hb : Below w.heap.size w W) => implShowV6_any a0 W (hT.below hb)
    have h1 : ((showV6S a0).1.toList == (showV6S a0).1.toList) = true := by simp
    have h2 : ((showV6S a0).2 != (showV6S a0).2) = false := by simp
    generalize (showV6S a0).1 = r at *
    generalize (showV6S a0).2 = c at *
    clear hT
    go_enter Tryd.func3, Tryd.ntmps3
    go_wp2_with fail
    refine Hs.mono ?_
    rintro e w1 ⟨rfl, hb1⟩
    go_wp2_with fail
    refine (him _ hb1).mono ?_
    rintro e w2 ⟨rfl, hb2⟩
    go_wp2
    go_ret
    exact ⟨rfl, Nm.below_two hb1 hb2⟩
end Go.Proofs.YtakonfkefoeenacDoor
