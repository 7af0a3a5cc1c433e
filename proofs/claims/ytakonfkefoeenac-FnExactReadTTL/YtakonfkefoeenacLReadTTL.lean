/- The law of ReadTTL: its walk. -/
import Derived.Test.YtakonfkefoeenacIParts
namespace Go.Proofs.Ytakonfkefoeenac
open Go.RowKit
set_option linter.unusedVariables false


set_option maxRecDepth 100000 in
set_option maxHeartbeats 400000 in
theorem fnExactReadTTL_walk (a0 : ByteArray) (w0 : a0.size ≤ maxLen) (w : World) :
    Calls Try.prog 7 #[.string a0] w fun e w' => e = .returned (.bool true) ∧ Below w.heap.size w w' := by
  by_cases hl : 1048576 < a0.size
  · have hl' : (1048576 : Int) < (a0.size : Int) := by omega
    go_enter Try.func7, Try.ntmps7
    go_wp2
    go_ret
    exact ⟨rfl, Below.refl _ _⟩
  · have hl' : (a0.size : Int) ≤ 1048576 := by omega
    have hsp := fun W => specReadTTL_any a0 W
    have him := fun W => implReadTTL_any a0 W
    simp only [ttlV] at hsp him
    have h1 : ((ttlS a0).1 != (ttlS a0).1) = false := by simp
    have h2 : ((ttlS a0).2 != (ttlS a0).2) = false := by simp
    generalize (ttlS a0).1 = r at *
    generalize (ttlS a0).2 = c at *
    have Hs := hsp w
    go_enter Try.func7, Try.ntmps7
    go_wp2_with fail
    refine Hs.mono ?_
    rintro e w1 ⟨rfl, hw1⟩; obtain rfl : w = w1 := hw1.symm; clear hw1
    go_wp2_with fail
    refine (him _).mono ?_
    rintro e w2 ⟨rfl, hw2⟩; obtain rfl : w = w2 := hw2.symm; clear hw2
    go_wp2
    go_ret
    exact ⟨rfl, Below.refl _ _⟩
end Go.Proofs.Ytakonfkefoeenac
