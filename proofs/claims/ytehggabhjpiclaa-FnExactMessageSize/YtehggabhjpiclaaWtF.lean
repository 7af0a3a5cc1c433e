import Derived.Test.YtehggabhjpiclaaWtQ
import Derived.BigQuiet
/- spec.l04Flag and spec.l04Head by their contracts. -/
namespace Go.Proofs.Ytehggabhjpiclaa
open Go.RowKit
set_option linter.unusedVariables false

def flS (b : Bool) (i : Nat) : Nat := if b then 2 ^ i else 0

set_option maxRecDepth 100000 in
set_option maxHeartbeats 1600000 in
theorem l04Flag_any (b : Bool) (i : Nat) (hi : i = 15 ∨ i = 10 ∨ i = 9 ∨ i = 8 ∨ i = 7 ∨ i = 6 ∨ i = 5 ∨ i = 4) (w : World) :
    Calls Try.prog 42 #[.bool b, .int .i64 (i : Int)] w fun e w' => e = .returned (.int .i64 (flS b i : Int)) ∧ w' = w := by
  cases b
  · go_enter Try.func42, Try.ntmps42
    go_wp2
    go_ret
    exact ⟨rfl, rfl⟩
  · rcases hi with rfl | rfl | rfl | rfl | rfl | rfl | rfl | rfl
    all_goals
      go_enter Try.func42, Try.ntmps42
      go_wp2
      go_ret
      exact ⟨by rfl, rfl⟩
end Go.Proofs.Ytehggabhjpiclaa
