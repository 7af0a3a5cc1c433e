/- Numbers within bounds, by the contracts of the two tests. -/
import Derived.Test.YtinbaopcapnbgaaCRow
import Derived.Test.YtinbaopcapnbgaaWiP
import Derived.RegionTactic
namespace Go.Proofs.Ytinbaopcapnbgaa
open Go.RowKit
set_option linter.unusedVariables false

set_option maxRecDepth 100000 in
set_option maxHeartbeats 400000 in
theorem l04In_any (n m : Int) (w : World) : Calls Try.prog 21 #[.int .i64 n, .int .i64 m] w fun e w' => e = .returned (.bool (decide (0 ≤ n) && decide (n ≤ m))) ∧ w' = w := by
  by_cases h0 : 0 ≤ n
  · by_cases h1 : n ≤ m
    · have e : (decide (0 ≤ n) && decide (n ≤ m)) = true := by simp [h0, h1]
      rw [e]
      clear e
      go_enter Try.func21, Try.ntmps21
      go_wp2
      go_ret
      exact ⟨rfl, rfl⟩
    · have h1' : m < n := by omega
      have e : (decide (0 ≤ n) && decide (n ≤ m)) = false := by simp [h0, h1]
      rw [e]
      clear e
      go_enter Try.func21, Try.ntmps21
      go_wp2
      go_ret
      exact ⟨rfl, rfl⟩
  · have h0' : n < 0 := by omega
    have e : (decide (0 ≤ n) && decide (n ≤ m)) = false := by simp [h0]
    rw [e]
    clear e
    go_enter Try.func21, Try.ntmps21
    go_wp2
    go_ret
    exact ⟨rfl, rfl⟩
end Go.Proofs.Ytinbaopcapnbgaa
