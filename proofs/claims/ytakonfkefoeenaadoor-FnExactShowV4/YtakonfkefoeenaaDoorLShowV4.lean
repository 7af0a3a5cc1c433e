/- The law of ShowV4: its walk. -/
import Derived.Test.YtakonfkefoeenaaDoorV4W
import Derived.Test.YtakonfkefoeenaaDoorV4X
import Derived.Test.YtakonfkefoeenaaDoorLaidM
namespace Go.Proofs.YtakonfkefoeenaaDoor
open Go.RowKit
set_option linter.unusedVariables false

theorem powTab_of {W : World} (hL : laidMet Tryd.prog Rows.fnExactShowV4Row.laid W) : PowTab W :=
  tab_of_laid (g := 0) (t := 52) (e := 42) (n := 20) hL (by exact List.Mem.tail _ (List.Mem.tail _ (List.Mem.head _))) (by kernel_rfl) (by kernel_rfl) Tryd.underlying52 Tryd.underlying42 (by kernel_rfl) (by kernel_rfl)

set_option maxRecDepth 100000 in
set_option maxHeartbeats 400000 in
theorem fnExactShowV4_walk (a0 : ByteArray) (w0 : a0.size ≤ maxLen) (w : World) (hL : laidMet Tryd.prog Rows.fnExactShowV4Row.laid w) :
    Calls Tryd.prog 3 #[.string a0] w fun e w' => e = .returned (.bool true) ∧ Below w.heap.size w w' := by
  have hT := powTab_of hL
  clear hL
  by_cases hl : 1048576 < a0.size
  · have hl' : (1048576 : Int) < (a0.size : Int) := by omega
    go_enter Tryd.func3, Tryd.ntmps3
    go_wp2
    go_ret
    exact ⟨rfl, Below.refl _ _⟩
  · have hl' : (a0.size : Int) ≤ 1048576 := by omega
    have Hs := specShowV4_any a0 w
    have him := fun W (hb : Below w.heap.size w W) => implShowV4_any a0 W (hT.below hb)
    have h1 : ((showV4S a0).1.toList == (showV4S a0).1.toList) = true := by simp
    have h2 : ((showV4S a0).2 != (showV4S a0).2) = false := by simp
    generalize (showV4S a0).1 = r at *
    generalize (showV4S a0).2 = c at *
    clear hT
    go_enter Tryd.func3, Tryd.ntmps3
    go_wp2_with fail
    refine Hs.mono ?_
    rintro e w1 ⟨rfl, hb1⟩
    go_wp2_with fail
    refine (him _ hb1).mono ?_
    rintro e w2 ⟨rfl, hb2⟩
    go_wp2
    go_ret
    exact ⟨rfl, Nm.below_two hb1 hb2⟩
end Go.Proofs.YtakonfkefoeenaaDoor
