/- The law of WithSerial: its walk. -/
import Derived.Test.YtakonfkefoeenafWithS
namespace Go.Proofs.Ytakonfkefoeenaf
open Go.RowKit
set_option linter.unusedVariables false

theorem str_same (s : ByteArray) : (s.toList == s.toList) = true ∧ (s.toList != s.toList) = false := by simp
theorem int_same2 (n : Int) : (n != n) = false := by simp

set_option maxRecDepth 100000 in
set_option maxHeartbeats 400000 in
theorem fnExactWithSerial_walk (a0 : ByteArray) (w0 : a0.size ≤ maxLen) (a1 : Int) (w1 : (Lit.int .i64 a1).wf = true) (w : World) :
    Calls Try.prog 4 #[.string a0, .int .i64 a1] w fun e w' => e = .returned (.bool true) ∧ Below w.heap.size w w' := by
  by_cases hl : 1048576 < a0.size
  · have hl' : (1048576 : Int) < (a0.size : Int) := by omega
    go_enter Try.func4, Try.ntmps4
    go_wp2
    go_ret
    exact ⟨rfl, Below.refl _ _⟩
  · have hl' : (a0.size : Int) ≤ 1048576 := by omega
    have hsp := fun W => specWithSerial_any a0 a1 W (by omega)
    have him := fun W => implWithSerial_any a0 a1 W (by omega)
    obtain ⟨h1, h3⟩ := str_same (withR a0 a1).1
    have h2 := int_same2 (withR a0 a1).2
    generalize (withR a0 a1).1 = c at *
    generalize (withR a0 a1).2 = c2 at *
    have Hs := hsp w
    go_enter Try.func4, Try.ntmps4
    go_wp2_with fail
    refine Hs.mono ?_
    rintro e w1 ⟨rfl, hb1⟩
    go_wp2_with fail
    refine (him _).mono ?_
    rintro e w2 ⟨rfl, hb2⟩
    go_wp2
    go_ret
    exact ⟨rfl, Nm.below_two hb1 hb2⟩
end Go.Proofs.Ytakonfkefoeenaf
