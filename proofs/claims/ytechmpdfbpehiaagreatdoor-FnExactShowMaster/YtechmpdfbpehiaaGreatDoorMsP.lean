import Derived.Test.YtechmpdfbpehiaaGreatDoorJCRow
import Derived.RegionTactic
/- Small tests of numbers, of the model and of the program, by their contracts. -/
namespace Go.Proofs.YtechmpdfbpehiaaGreatDoor
open Go.RowKit
set_option linter.unusedVariables false

/-- The meta types. -/
def metaB (t : Int) : Bool := t == 0 || t == 41 || (decide (249 ≤ t) && decide (t ≤ 255))

set_option maxRecDepth 100000 in
set_option maxHeartbeats 400000 in
theorem isMeta_any (t : Int) (w : World) : Calls Tryz.prog 39 #[.int .i64 t] w fun e w' => e = .returned (.bool (metaB t)) ∧ w' = w := by
  by_cases h0 : t = 0
  · subst h0
    go_enter Tryz.func39, Tryz.ntmps39
    go_wp2
    go_ret
    exact ⟨rfl, rfl⟩
  · have e0 : (t == 0) = false := by rw [beq_eq_false_iff_ne]; exact h0
    by_cases h1 : t = 41
    · subst h1
      go_enter Tryz.func39, Tryz.ntmps39
      go_wp2
      go_ret
      exact ⟨rfl, rfl⟩
    · have e1 : (t == 41) = false := by rw [beq_eq_false_iff_ne]; exact h1
      by_cases h2 : 249 ≤ t
      · by_cases h3 : t ≤ 255
        · have HM : Hid (metaB t = true) := by show _ = _; simp [metaB, h2, h3]
          go_enter Tryz.func39, Tryz.ntmps39
          go_wp2
          go_ret
          rw [HM.out]
          exact ⟨rfl, rfl⟩
        · have h3' : 255 < t := by omega
          have HM : Hid (metaB t = false) := by show _ = _; simp [metaB, h0, h1]; omega
          go_enter Tryz.func39, Tryz.ntmps39
          go_wp2
          go_ret
          rw [HM.out]
          exact ⟨rfl, rfl⟩
      · have h2' : t < 249 := by omega
        have HM : Hid (metaB t = false) := by show _ = _; simp [metaB, h0, h1]; omega
        go_enter Tryz.func39, Tryz.ntmps39
        go_wp2
        go_ret
        rw [HM.out]
        exact ⟨rfl, rfl⟩

set_option maxRecDepth 100000 in
set_option maxHeartbeats 400000 in
theorem l05Meta_any (t : Int) (w : World) : Calls Tryz.prog 12 #[.int .i64 t] w fun e w' => e = .returned (.bool (metaB t)) ∧ w' = w := by
  by_cases h0 : t = 0
  · subst h0
    go_enter Tryz.func12, Tryz.ntmps12
    go_wp2
    go_ret
    exact ⟨rfl, rfl⟩
  · have e0 : (t == 0) = false := by rw [beq_eq_false_iff_ne]; exact h0
    by_cases h1 : t = 41
    · subst h1
      go_enter Tryz.func12, Tryz.ntmps12
      go_wp2
      go_ret
      exact ⟨rfl, rfl⟩
    · have e1 : (t == 41) = false := by rw [beq_eq_false_iff_ne]; exact h1
      by_cases h2 : 249 ≤ t
      · by_cases h3 : t ≤ 255
        · have HM : Hid (metaB t = true) := by show _ = _; simp [metaB, h2, h3]
          go_enter Tryz.func12, Tryz.ntmps12
          go_wp2
          go_ret
          rw [HM.out]
          exact ⟨rfl, rfl⟩
        · have h3' : 255 < t := by omega
          have HM : Hid (metaB t = false) := by show _ = _; simp [metaB, h0, h1]; omega
          go_enter Tryz.func12, Tryz.ntmps12
          go_wp2
          go_ret
          rw [HM.out]
          exact ⟨rfl, rfl⟩
      · have h2' : t < 249 := by omega
        have HM : Hid (metaB t = false) := by show _ = _; simp [metaB, h0, h1]; omega
        go_enter Tryz.func12, Tryz.ntmps12
        go_wp2
        go_ret
        rw [HM.out]
        exact ⟨rfl, rfl⟩

set_option maxRecDepth 100000 in
set_option maxHeartbeats 400000 in
theorem within_any (n m : Int) (w : World) : Calls Tryz.prog 38 #[.int .i64 n, .int .i64 m] w fun e w' => e = .returned (.bool (decide (0 ≤ n) && decide (n ≤ m))) ∧ w' = w := by
  by_cases h0 : 0 ≤ n
  · by_cases h1 : n ≤ m
    · have e : (decide (0 ≤ n) && decide (n ≤ m)) = true := by simp [h0, h1]
      rw [e]
      clear e
      go_enter Tryz.func38, Tryz.ntmps38
      go_wp2
      go_ret
      exact ⟨rfl, rfl⟩
    · have h1' : m < n := by omega
      have e : (decide (0 ≤ n) && decide (n ≤ m)) = false := by simp [h0, h1]
      rw [e]
      clear e
      go_enter Tryz.func38, Tryz.ntmps38
      go_wp2
      go_ret
      exact ⟨rfl, rfl⟩
  · have h0' : n < 0 := by omega
    have e : (decide (0 ≤ n) && decide (n ≤ m)) = false := by simp [h0]
    rw [e]
    clear e
    go_enter Tryz.func38, Tryz.ntmps38
    go_wp2
    go_ret
    exact ⟨rfl, rfl⟩

set_option maxRecDepth 100000 in
set_option maxHeartbeats 400000 in
theorem l04In_any (n m : Int) (w : World) : Calls Tryz.prog 11 #[.int .i64 n, .int .i64 m] w fun e w' => e = .returned (.bool (decide (0 ≤ n) && decide (n ≤ m))) ∧ w' = w := by
  by_cases h0 : 0 ≤ n
  · by_cases h1 : n ≤ m
    · have e : (decide (0 ≤ n) && decide (n ≤ m)) = true := by simp [h0, h1]
      rw [e]
      clear e
      go_enter Tryz.func11, Tryz.ntmps11
      go_wp2
      go_ret
      exact ⟨rfl, rfl⟩
    · have h1' : m < n := by omega
      have e : (decide (0 ≤ n) && decide (n ≤ m)) = false := by simp [h0, h1]
      rw [e]
      clear e
      go_enter Tryz.func11, Tryz.ntmps11
      go_wp2
      go_ret
      exact ⟨rfl, rfl⟩
  · have h0' : n < 0 := by omega
    have e : (decide (0 ≤ n) && decide (n ≤ m)) = false := by simp [h0]
    rw [e]
    clear e
    go_enter Tryz.func11, Tryz.ntmps11
    go_wp2
    go_ret
    exact ⟨rfl, rfl⟩
end Go.Proofs.YtechmpdfbpehiaaGreatDoor
