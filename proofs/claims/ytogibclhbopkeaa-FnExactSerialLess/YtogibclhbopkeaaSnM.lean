/- Serials: which comes before another, which comes behind one. -/
import Derived.Test.YtogibclhbopkeaaWiT
import Derived.Test.YtogibclhbopkeaaBitM
namespace Go.Proofs.Ytogibclhbopkeaa
open Go.RowKit
set_option linter.unusedVariables false

theorem wrap_any (n : Int) (h : -9223372036854775808 ≤ n) (h2 : n < 9223372036854775808) : IntKind.i64.wrap n = n := by
  by_cases h0 : 0 ≤ n
  · exact Go.wrap_small n h0 h2
  · have e : n % 2 ^ 64 = n + 18446744073709551616 := by omega
    simp only [IntKind.wrap, IntKind.bits, IntKind.signed, e]
    rw [if_pos]
    · omega
    · simp
      omega

theorem and_32 (d : Int) : bits .and .i64 d 4294967295 = d % 4294967296 := by
  show IntKind.i64.wrap ((BitVec.ofInt 64 d &&& BitVec.ofInt 64 4294967295).toNat : Int) = _
  have e2 : (BitVec.ofInt 64 4294967295).toNat = 2 ^ 32 - 1 := by decide
  have e1 : (BitVec.ofInt 64 d).toNat = (d % 18446744073709551616).toNat := by rw [BitVec.toNat_ofInt]; rfl
  rw [BitVec.toNat_and, e2, Nat.and_two_pow_sub_one_eq_mod, e1]
  have h : (d % 18446744073709551616).toNat % 2 ^ 32 < 9223372036854775808 := by omega
  rw [wrap_pos _ h]
  omega

abbrev serIn (a : Int) : Bool := decide (0 ≤ a) && decide (a ≤ 4294967295)
/-- whether a serial comes before another -/
def serL (a b : Int) : Bool := serIn a && serIn b && (decide (1 ≤ (b - a) % 4294967296) && decide ((b - a) % 4294967296 ≤ 2147483647))
/-- the serial behind one -/
def serN (a : Int) : Int := if serIn a = true then (if a = 4294967295 then 1 else a + 1) else 0

set_option maxRecDepth 100000 in
set_option maxHeartbeats 1600000 in
theorem implSerialLess_any (a b : Int) (w : World) : Calls Try.prog 6 #[.int .i64 a, .int .i64 b] w fun e w' => e = .returned (.bool (serL a b)) ∧ w' = w := by
  have hi1 : ∀ W : World, Calls Try.prog 10 #[.int .i64 a, .int .i64 4294967295] W fun e w' => e = .returned (.bool (serIn a)) ∧ w' = W := fun W => within_any a 4294967295 W
  have hi2 : ∀ W : World, Calls Try.prog 10 #[.int .i64 b, .int .i64 4294967295] W fun e w' => e = .returned (.bool (serIn b)) ∧ w' = W := fun W => within_any b 4294967295 W
  by_cases ha : serIn a = true
  · by_cases hb : serIn b = true
    · obtain ⟨x1, x2⟩ : 0 ≤ a ∧ a ≤ 4294967295 := by simpa [serIn] using ha
      obtain ⟨x3, x4⟩ : 0 ≤ b ∧ b ≤ 4294967295 := by simpa [serIn] using hb
      have hs : IntKind.i64.wrap (b - a) = b - a := wrap_any _ (by omega) (by omega)
      have hs2 : IntKind.i64.wrap (b - a + 4294967296) = b - a + 4294967296 := Go.wrap_small _ (by omega) (by omega)
      have hn := and_32 (b - a)
      have hr : (b - a + 4294967296).tmod 4294967296 = (b - a) % 4294967296 := by rw [Int.tmod_eq_emod_of_nonneg (by omega)]; omega
      have hr2 : IntKind.i64.wrap ((b - a) % 4294967296) = (b - a) % 4294967296 := Go.wrap_small _ (by omega) (by omega)
      have hS : serL a b = (decide (1 ≤ (b - a) % 4294967296) && decide ((b - a) % 4294967296 ≤ 2147483647)) := by simp [serL, ha, hb]
      rw [hS]
      rw [ha] at hi1
      rw [hb] at hi2
      clear hS ha hb
      by_cases h1 : 1 ≤ (b - a) % 4294967296
      · simp only [h1, decide_true, Bool.true_and]
        go_enter Try.func6, Try.ntmps6
        go_wp2_with (go_at_call 10; first | (with_reducible refine (hi1 _).mono ?_; rintro e wf ⟨rfl, hw⟩; obtain rfl := hw.symm; clear hw) | (with_reducible refine (hi2 _).mono ?_; rintro e wf ⟨rfl, hw⟩; obtain rfl := hw.symm; clear hw))
        go_ret
        exact ⟨rfl, rfl⟩
      · simp only [h1, decide_false, Bool.false_and]
        go_enter Try.func6, Try.ntmps6
        go_wp2_with (go_at_call 10; first | (with_reducible refine (hi1 _).mono ?_; rintro e wf ⟨rfl, hw⟩; obtain rfl := hw.symm; clear hw) | (with_reducible refine (hi2 _).mono ?_; rintro e wf ⟨rfl, hw⟩; obtain rfl := hw.symm; clear hw))
        go_ret
        exact ⟨rfl, rfl⟩
    · have hb' : serIn b = false := by simpa using hb
      have hS : serL a b = false := by simp [serL, hb']
      rw [hS]
      rw [ha] at hi1
      rw [hb'] at hi2
      clear hS ha hb hb'
      go_enter Try.func6, Try.ntmps6
      go_wp2_with (go_at_call 10; first | (with_reducible refine (hi1 _).mono ?_; rintro e wf ⟨rfl, hw⟩; obtain rfl := hw.symm; clear hw) | (with_reducible refine (hi2 _).mono ?_; rintro e wf ⟨rfl, hw⟩; obtain rfl := hw.symm; clear hw))
      go_ret
      exact ⟨rfl, rfl⟩
  · have ha' : serIn a = false := by simpa using ha
    have hS : serL a b = false := by simp [serL, ha']
    rw [hS]
    rw [ha'] at hi1
    clear hS ha ha'
    go_enter Try.func6, Try.ntmps6
    go_wp2_with (go_at_call 10; first | (with_reducible refine (hi1 _).mono ?_; rintro e wf ⟨rfl, hw⟩; obtain rfl := hw.symm; clear hw) | (with_reducible refine (hi2 _).mono ?_; rintro e wf ⟨rfl, hw⟩; obtain rfl := hw.symm; clear hw))
    go_ret
    exact ⟨rfl, rfl⟩

set_option maxRecDepth 100000 in
set_option maxHeartbeats 1600000 in
theorem specSerialLess_any (a b : Int) (w : World) : Calls Try.prog 5 #[.int .i64 a, .int .i64 b] w fun e w' => e = .returned (.bool (serL a b)) ∧ w' = w := by
  have hi1 : ∀ W : World, Calls Try.prog 9 #[.int .i64 a, .int .i64 4294967295] W fun e w' => e = .returned (.bool (serIn a)) ∧ w' = W := fun W => l04In_any a 4294967295 W
  have hi2 : ∀ W : World, Calls Try.prog 9 #[.int .i64 b, .int .i64 4294967295] W fun e w' => e = .returned (.bool (serIn b)) ∧ w' = W := fun W => l04In_any b 4294967295 W
  by_cases ha : serIn a = true
  · by_cases hb : serIn b = true
    · obtain ⟨x1, x2⟩ : 0 ≤ a ∧ a ≤ 4294967295 := by simpa [serIn] using ha
      obtain ⟨x3, x4⟩ : 0 ≤ b ∧ b ≤ 4294967295 := by simpa [serIn] using hb
      have hs : IntKind.i64.wrap (b - a) = b - a := wrap_any _ (by omega) (by omega)
      have hs2 : IntKind.i64.wrap (b - a + 4294967296) = b - a + 4294967296 := Go.wrap_small _ (by omega) (by omega)
      have hn := and_32 (b - a)
      have hr : (b - a + 4294967296).tmod 4294967296 = (b - a) % 4294967296 := by rw [Int.tmod_eq_emod_of_nonneg (by omega)]; omega
      have hr2 : IntKind.i64.wrap ((b - a) % 4294967296) = (b - a) % 4294967296 := Go.wrap_small _ (by omega) (by omega)
      have hS : serL a b = (decide (1 ≤ (b - a) % 4294967296) && decide ((b - a) % 4294967296 ≤ 2147483647)) := by simp [serL, ha, hb]
      rw [hS]
      rw [ha] at hi1
      rw [hb] at hi2
      clear hS ha hb
      by_cases h1 : 1 ≤ (b - a) % 4294967296
      · simp only [h1, decide_true, Bool.true_and]
        go_enter Try.func5, Try.ntmps5
        go_wp2_with (go_at_call 9; first | (with_reducible refine (hi1 _).mono ?_; rintro e wf ⟨rfl, hw⟩; obtain rfl := hw.symm; clear hw) | (with_reducible refine (hi2 _).mono ?_; rintro e wf ⟨rfl, hw⟩; obtain rfl := hw.symm; clear hw))
        go_ret
        exact ⟨rfl, rfl⟩
      · simp only [h1, decide_false, Bool.false_and]
        go_enter Try.func5, Try.ntmps5
        go_wp2_with (go_at_call 9; first | (with_reducible refine (hi1 _).mono ?_; rintro e wf ⟨rfl, hw⟩; obtain rfl := hw.symm; clear hw) | (with_reducible refine (hi2 _).mono ?_; rintro e wf ⟨rfl, hw⟩; obtain rfl := hw.symm; clear hw))
        go_ret
        exact ⟨rfl, rfl⟩
    · have hb' : serIn b = false := by simpa using hb
      have hS : serL a b = false := by simp [serL, hb']
      rw [hS]
      rw [ha] at hi1
      rw [hb'] at hi2
      clear hS ha hb hb'
      go_enter Try.func5, Try.ntmps5
      go_wp2_with (go_at_call 9; first | (with_reducible refine (hi1 _).mono ?_; rintro e wf ⟨rfl, hw⟩; obtain rfl := hw.symm; clear hw) | (with_reducible refine (hi2 _).mono ?_; rintro e wf ⟨rfl, hw⟩; obtain rfl := hw.symm; clear hw))
      go_ret
      exact ⟨rfl, rfl⟩
  · have ha' : serIn a = false := by simpa using ha
    have hS : serL a b = false := by simp [serL, ha']
    rw [hS]
    rw [ha'] at hi1
    clear hS ha ha'
    go_enter Try.func5, Try.ntmps5
    go_wp2_with (go_at_call 9; first | (with_reducible refine (hi1 _).mono ?_; rintro e wf ⟨rfl, hw⟩; obtain rfl := hw.symm; clear hw) | (with_reducible refine (hi2 _).mono ?_; rintro e wf ⟨rfl, hw⟩; obtain rfl := hw.symm; clear hw))
    go_ret
    exact ⟨rfl, rfl⟩

set_option maxRecDepth 100000 in
set_option maxHeartbeats 1600000 in
theorem implNextSerial_any (a : Int) (w : World) : Calls Try.prog 8 #[.int .i64 a] w fun e w' => e = .returned (.int .i64 (serN a)) ∧ w' = w := by
  have hi1 : ∀ W : World, Calls Try.prog 10 #[.int .i64 a, .int .i64 4294967295] W fun e w' => e = .returned (.bool (serIn a)) ∧ w' = W := fun W => within_any a 4294967295 W
  have hi2 := hi1
  by_cases ha : serIn a = true
  · obtain ⟨x1, x2⟩ : 0 ≤ a ∧ a ≤ 4294967295 := by simpa [serIn] using ha
    rw [ha] at hi1
    by_cases h1 : a = 4294967295
    · subst h1
      have hS : serN 4294967295 = 1 := by decide
      rw [hS]
      clear hS ha
      go_enter Try.func8, Try.ntmps8
      go_wp2_with (go_at_call 10; first | (with_reducible refine (hi1 _).mono ?_; rintro e wf ⟨rfl, hw⟩; obtain rfl := hw.symm; clear hw) | (with_reducible refine (hi2 _).mono ?_; rintro e wf ⟨rfl, hw⟩; obtain rfl := hw.symm; clear hw))
      go_ret
      exact ⟨rfl, rfl⟩
    · have hS : serN a = a + 1 := by simp [serN, ha, h1]
      have hs : IntKind.i64.wrap (a + 1) = a + 1 := Go.wrap_small _ (by omega) (by omega)
      rw [hS]
      clear hS ha
      go_enter Try.func8, Try.ntmps8
      go_wp2_with (go_at_call 10; first | (with_reducible refine (hi1 _).mono ?_; rintro e wf ⟨rfl, hw⟩; obtain rfl := hw.symm; clear hw) | (with_reducible refine (hi2 _).mono ?_; rintro e wf ⟨rfl, hw⟩; obtain rfl := hw.symm; clear hw))
      go_ret
      exact ⟨rfl, rfl⟩
  · have ha' : serIn a = false := by simpa using ha
    have hS : serN a = 0 := by simp [serN, ha']
    rw [hS]
    rw [ha'] at hi1
    clear hS ha ha'
    go_enter Try.func8, Try.ntmps8
    go_wp2_with (go_at_call 10; first | (with_reducible refine (hi1 _).mono ?_; rintro e wf ⟨rfl, hw⟩; obtain rfl := hw.symm; clear hw) | (with_reducible refine (hi2 _).mono ?_; rintro e wf ⟨rfl, hw⟩; obtain rfl := hw.symm; clear hw))
    go_ret
    exact ⟨rfl, rfl⟩

set_option maxRecDepth 100000 in
set_option maxHeartbeats 1600000 in
theorem specNextSerial_any (a : Int) (w : World) : Calls Try.prog 7 #[.int .i64 a] w fun e w' => e = .returned (.int .i64 (serN a)) ∧ w' = w := by
  have hi1 : ∀ W : World, Calls Try.prog 9 #[.int .i64 a, .int .i64 4294967295] W fun e w' => e = .returned (.bool (serIn a)) ∧ w' = W := fun W => l04In_any a 4294967295 W
  have hi2 := hi1
  by_cases ha : serIn a = true
  · obtain ⟨x1, x2⟩ : 0 ≤ a ∧ a ≤ 4294967295 := by simpa [serIn] using ha
    rw [ha] at hi1
    by_cases h1 : a = 4294967295
    · subst h1
      have hS : serN 4294967295 = 1 := by decide
      rw [hS]
      clear hS ha
      go_enter Try.func7, Try.ntmps7
      go_wp2_with (go_at_call 9; first | (with_reducible refine (hi1 _).mono ?_; rintro e wf ⟨rfl, hw⟩; obtain rfl := hw.symm; clear hw) | (with_reducible refine (hi2 _).mono ?_; rintro e wf ⟨rfl, hw⟩; obtain rfl := hw.symm; clear hw))
      go_ret
      exact ⟨rfl, rfl⟩
    · have hS : serN a = a + 1 := by simp [serN, ha, h1]
      have hs : IntKind.i64.wrap (a + 1) = a + 1 := Go.wrap_small _ (by omega) (by omega)
      rw [hS]
      clear hS ha
      go_enter Try.func7, Try.ntmps7
      go_wp2_with (go_at_call 9; first | (with_reducible refine (hi1 _).mono ?_; rintro e wf ⟨rfl, hw⟩; obtain rfl := hw.symm; clear hw) | (with_reducible refine (hi2 _).mono ?_; rintro e wf ⟨rfl, hw⟩; obtain rfl := hw.symm; clear hw))
      go_ret
      exact ⟨rfl, rfl⟩
  · have ha' : serIn a = false := by simpa using ha
    have hS : serN a = 0 := by simp [serN, ha']
    rw [hS]
    rw [ha'] at hi1
    clear hS ha ha'
    go_enter Try.func7, Try.ntmps7
    go_wp2_with (go_at_call 9; first | (with_reducible refine (hi1 _).mono ?_; rintro e wf ⟨rfl, hw⟩; obtain rfl := hw.symm; clear hw) | (with_reducible refine (hi2 _).mono ?_; rintro e wf ⟨rfl, hw⟩; obtain rfl := hw.symm; clear hw))
    go_ret
    exact ⟨rfl, rfl⟩
end Go.Proofs.Ytogibclhbopkeaa
