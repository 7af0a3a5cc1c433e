/- The law of ReplaceTail: its walk. -/
import Derived.Test.YtakonfkefoeenaeSRepl
namespace Go.Proofs.Ytakonfkefoeenae
open Go.RowKit
set_option linter.unusedVariables false

set_option maxRecDepth 100000 in
set_option maxHeartbeats 400000 in
theorem fnExactReplaceTail_walk (a0 a1 a2 : ByteArray) (w0 : a0.size ≤ maxLen) (w1 : a1.size ≤ maxLen) (w2 : a2.size ≤ maxLen) (w : World) :
    Calls Try.prog 6 #[.string a0, .string a1, .string a2] w fun e w' => e = .returned (.bool true) ∧ Below w.heap.size w w' := by
  have hsp := specReplaceTail_any a0 a1 a2 w w0 w1 w2
  have him := fun W => implReplaceTail_any a0 a1 a2 W w0 w1 w2
  have hs : ((replS a0 a1 a2).1.toList == (replS a0 a1 a2).1.toList) = true := by simp
  have hi : ((replS a0 a1 a2).2 != (replS a0 a1 a2).2) = false := by simp
  generalize (replS a0 a1 a2).1 = r at *
  generalize (replS a0 a1 a2).2 = c at *
  by_cases hl : 1048576 < a0.size
  · have hl' : (1048576 : Int) < (a0.size : Int) := by omega
    go_enter Try.func6, Try.ntmps6
    go_wp2
    go_ret
    exact ⟨rfl, Below.refl _ _⟩
  · have hl' : (a0.size : Int) ≤ 1048576 := by omega
    by_cases hl1 : 1048576 < a1.size
    · have hl1' : (1048576 : Int) < (a1.size : Int) := by omega
      go_enter Try.func6, Try.ntmps6
      go_wp2
      go_ret
      exact ⟨rfl, Below.refl _ _⟩
    · have hl1' : (a1.size : Int) ≤ 1048576 := by omega
      by_cases hl2 : 1048576 < a2.size
      · have hl2' : (1048576 : Int) < (a2.size : Int) := by omega
        go_enter Try.func6, Try.ntmps6
        go_wp2
        go_ret
        exact ⟨rfl, Below.refl _ _⟩
      · have hl2' : (a2.size : Int) ≤ 1048576 := by omega
        go_enter Try.func6, Try.ntmps6
        go_wp2_with fail
        refine hsp.mono ?_
        rintro e w1 ⟨rfl, hb1⟩
        go_wp2_with fail
        refine (him _).mono ?_
        rintro e w2 ⟨rfl, hb2⟩
        go_wp2
        go_ret
        exact ⟨rfl, Nm.below_two hb1 hb2⟩
end Go.Proofs.Ytakonfkefoeenae
