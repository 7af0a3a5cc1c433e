import Derived.Test.YtoiajlgmnkoekaaJRcM
import Derived.RegionTactic
/- Small tests of numbers, of the model and of the program, by their contracts. -/
namespace Go.Proofs.Ytoiajlgmnkoekaa
open Go.RowKit
set_option linter.unusedVariables false

/-- The meta types. -/
def metaB (t : Int) : Bool := t == 0 || t == 41 || (decide (249 ≤ t) && decide (t ≤ 255))

set_option maxRecDepth 100000 in
set_option maxHeartbeats 400000 in
theorem isMeta_any (t : Int) (w : World) : Calls Try.prog 35 #[.int .i64 t] w fun e w' => e = .returned (.bool (metaB t)) ∧ w' = w := by
  by_cases h0 : t = 0
  · subst h0
    go_enter Try.func35, Try.ntmps35
    go_wp2
    go_ret
    exact ⟨rfl, rfl⟩
  · have e0 : (t == 0) = false := by rw [beq_eq_false_iff_ne]; exact h0
    by_cases h1 : t = 41
    · subst h1
      go_enter Try.func35, Try.ntmps35
      go_wp2
      go_ret
      exact ⟨rfl, rfl⟩
    · have e1 : (t == 41) = false := by rw [beq_eq_false_iff_ne]; exact h1
      by_cases h2 : 249 ≤ t
      · by_cases h3 : t ≤ 255
        · have HM : Hid (metaB t = true) := by show _ = _; simp [metaB, h2, h3]
          go_enter Try.func35, Try.ntmps35
          go_wp2
          go_ret
          rw [HM.out]
          exact ⟨rfl, rfl⟩
        · have h3' : 255 < t := by omega
          have HM : Hid (metaB t = false) := by show _ = _; simp [metaB, h0, h1]; omega
          go_enter Try.func35, Try.ntmps35
          go_wp2
          go_ret
          rw [HM.out]
          exact ⟨rfl, rfl⟩
      · have h2' : t < 249 := by omega
        have HM : Hid (metaB t = false) := by show _ = _; simp [metaB, h0, h1]; omega
        go_enter Try.func35, Try.ntmps35
        go_wp2
        go_ret
        rw [HM.out]
        exact ⟨rfl, rfl⟩

set_option maxRecDepth 100000 in
set_option maxHeartbeats 400000 in
theorem l05Meta_any (t : Int) (w : World) : Calls Try.prog 27 #[.int .i64 t] w fun e w' => e = .returned (.bool (metaB t)) ∧ w' = w := by
  by_cases h0 : t = 0
  · subst h0
    go_enter Try.func27, Try.ntmps27
    go_wp2
    go_ret
    exact ⟨rfl, rfl⟩
  · have e0 : (t == 0) = false := by rw [beq_eq_false_iff_ne]; exact h0
    by_cases h1 : t = 41
    · subst h1
      go_enter Try.func27, Try.ntmps27
      go_wp2
      go_ret
      exact ⟨rfl, rfl⟩
    · have e1 : (t == 41) = false := by rw [beq_eq_false_iff_ne]; exact h1
      by_cases h2 : 249 ≤ t
      · by_cases h3 : t ≤ 255
        · have HM : Hid (metaB t = true) := by show _ = _; simp [metaB, h2, h3]
          go_enter Try.func27, Try.ntmps27
          go_wp2
          go_ret
          rw [HM.out]
          exact ⟨rfl, rfl⟩
        · have h3' : 255 < t := by omega
          have HM : Hid (metaB t = false) := by show _ = _; simp [metaB, h0, h1]; omega
          go_enter Try.func27, Try.ntmps27
          go_wp2
          go_ret
          rw [HM.out]
          exact ⟨rfl, rfl⟩
      · have h2' : t < 249 := by omega
        have HM : Hid (metaB t = false) := by show _ = _; simp [metaB, h0, h1]; omega
        go_enter Try.func27, Try.ntmps27
        go_wp2
        go_ret
        rw [HM.out]
        exact ⟨rfl, rfl⟩

end Go.Proofs.Ytoiajlgmnkoekaa
