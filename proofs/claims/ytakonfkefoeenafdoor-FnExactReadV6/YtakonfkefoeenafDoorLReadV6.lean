/- The law of ReadV6: its walk. -/
import Derived.Test.YtakonfkefoeenafDoorV6T
import Derived.Test.YtakonfkefoeenafDoorV6K
namespace Go.Proofs.YtakonfkefoeenafDoor
open Go.RowKit
set_option linter.unusedVariables false

set_option maxRecDepth 100000 in
set_option maxHeartbeats 400000 in
theorem fnExactReadV6_walk (a0 : ByteArray) (w0 : a0.size ≤ maxLen) (w : World) (hL : laidMet Tryd.prog Rows.fnExactReadV6Row.laid w) (hsh : w.ShapedOpen Tryd.prog) :
    Calls Tryd.prog 3 #[.string a0] w fun e w' => e = .returned (.bool true) ∧ Below w.heap.size w w' := by
  clear hL
  by_cases hl : 1048576 < a0.size
  · have hl' : (1048576 : Int) < (a0.size : Int) := by omega
    go_enter Tryd.func3, Tryd.ntmps3
    go_wp2
    go_ret
    exact ⟨rfl, Below.refl _ _⟩
  · have hl' : (a0.size : Int) ≤ 1048576 := by omega
    have Hs := specReadV6_any a0 w
    have him := fun W (hb : Below w.heap.size w W) => implReadV6_any a0 W (shaped_below hsh hb)
    simp only [strV] at Hs him
    have h1 : ((readV6S a0).1.toList == (readV6S a0).1.toList) = true := by simp
    have h2 : ((readV6S a0).2 != (readV6S a0).2) = false := by simp
    generalize (readV6S a0).1 = r at *
    generalize (readV6S a0).2 = c at *
    clear hsh
    go_enter Tryd.func3, Tryd.ntmps3
    go_wp2_with fail
    refine Hs.mono ?_
    rintro e w1 ⟨rfl, hb1⟩
    go_wp2_with fail
    refine (him _ hb1).mono ?_
    rintro e w2 ⟨rfl, hb2⟩
    go_wp2
    go_ret
    exact ⟨rfl, Nm.below_two hb1 hb2⟩
end Go.Proofs.YtakonfkefoeenafDoor
