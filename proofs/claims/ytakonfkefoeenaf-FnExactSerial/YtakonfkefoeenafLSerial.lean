/- The law of Serial: its walk. -/
import Derived.Test.YtakonfkefoeenafSer2
namespace Go.Proofs.Ytakonfkefoeenaf
open Go.RowKit
set_option linter.unusedVariables false

theorem int_same (n : Int) : (n != n) = false := by simp

set_option maxRecDepth 100000 in
set_option maxHeartbeats 400000 in
theorem fnExactSerial_walk (a0 : ByteArray) (w0 : a0.size ≤ maxLen) (w : World) :
    Calls Try.prog 3 #[.string a0] w fun e w' => e = .returned (.bool true) ∧ Below w.heap.size w w' := by
  by_cases hl : 1048576 < a0.size
  · have hl' : (1048576 : Int) < (a0.size : Int) := by omega
    go_enter Try.func3, Try.ntmps3
    go_wp2
    go_ret
    exact ⟨rfl, Below.refl _ _⟩
  · have hl' : (a0.size : Int) ≤ 1048576 := by omega
    have hsp := fun W => specSerial_any a0 W (by omega)
    have him := fun W => implSerial_any a0 W (by omega)
    have h1 := int_same (if cutCode 6 a0 = 0 then serS a0 else 0)
    have h2 := int_same (if cutCode 6 a0 = 0 then 0 else 7)
    generalize (if cutCode 6 a0 = 0 then serS a0 else 0) = c at *
    generalize (if cutCode 6 a0 = 0 then (0 : Int) else 7) = c2 at *
    have Hs := hsp w
    go_enter Try.func3, Try.ntmps3
    go_wp2_with fail
    refine Hs.mono ?_
    rintro e w1 ⟨rfl, hb1⟩
    go_wp2_with fail
    refine (him _).mono ?_
    rintro e w2 ⟨rfl, hb2⟩
    go_wp2
    go_ret
    exact ⟨rfl, Nm.below_two hb1 hb2⟩
end Go.Proofs.Ytakonfkefoeenaf
