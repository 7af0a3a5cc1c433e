/- The law of FoldData: its walk. -/
import Derived.Test.YtakonfkefoeenagFoldD
namespace Go.Proofs.Ytakonfkefoeenag
open Go.RowKit
set_option linter.unusedVariables false

theorem fd_same (s : ByteArray) : (s.toList == s.toList) = true ∧ (s.toList != s.toList) = false := by simp

set_option maxRecDepth 100000 in
set_option maxHeartbeats 400000 in
theorem fnExactFoldData_walk (a0 : Int) (w0 : (Lit.int .i64 a0).wf = true) (a1 : ByteArray) (w1 : a1.size ≤ maxLen) (w : World) :
    Calls Try.prog 3 #[.int .i64 a0, .string a1] w fun e w' => e = .returned (.bool true) ∧ Below w.heap.size w w' := by
  by_cases hl : 1048576 < a1.size
  · have hl' : (1048576 : Int) < (a1.size : Int) := by omega
    go_enter Try.func3, Try.ntmps3
    go_wp2
    go_ret
    exact ⟨rfl, Below.refl _ _⟩
  · have hl' : (a1.size : Int) ≤ 1048576 := by omega
    have hsp := fun W => specFoldData_any a0 a1 W
    have him := fun W => implFoldData_any a0 a1 W (by omega)
    obtain ⟨h1, h2⟩ := fd_same (foldR a0 a1)
    generalize foldR a0 a1 = c at *
    have Hs := hsp w
    go_enter Try.func3, Try.ntmps3
    go_wp2_with fail
    refine Hs.mono ?_
    rintro e w1 ⟨rfl, hb1⟩
    go_wp2_with fail
    refine (him _).mono ?_
    rintro e w2 ⟨rfl, hb2⟩
    go_wp2
    go_ret
    exact ⟨rfl, Nm.below_two hb1 hb2⟩
end Go.Proofs.Ytakonfkefoeenag
