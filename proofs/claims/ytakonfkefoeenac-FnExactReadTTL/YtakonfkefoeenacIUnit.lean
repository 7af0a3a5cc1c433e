/- impl.secondsOf by its contract. -/
import Derived.Test.YtakonfkefoeenacTxt3
import Derived.Test.YtakonfkefoeenacFoldB
namespace Go.Proofs.Ytakonfkefoeenac
open Go.RowKit

theorem low_val (c : UInt8) : (Nm.low c).toNat = if 65 ≤ c.toNat ∧ c.toNat ≤ 90 then c.toNat + 32 else c.toNat := by
  unfold Nm.low
  split
  · have := c.toNat_lt
    simp; omega
  · rfl
theorem unit_low (c : UInt8) : unitS c = (if (Nm.low c).toNat = 115 then 1 else if (Nm.low c).toNat = 109 then 60 else if (Nm.low c).toNat = 104 then 3600 else if (Nm.low c).toNat = 100 then 86400 else if (Nm.low c).toNat = 119 then 604800 else 0) := by
  rw [low_val, unitS]
  have := c.toNat_lt
  generalize c.toNat = n at *
  repeat' split
  all_goals omega

set_option maxRecDepth 100000 in
set_option maxHeartbeats 1600000 in
theorem secondsOf_any (c : UInt8) (w : World) :
    Calls Try.prog 47 #[.int .u8 c.toNat] w fun e w' => e = .returned (.int .i64 (unitS c)) ∧ w' = w := by
  have hf := fun W => foldByte_any c W
  have hu := unit_low c
  generalize Nm.low c = d at *
  generalize unitS c = z at *
  by_cases h1 : d.toNat = 115
  · rw [if_pos h1] at hu
    have q1 : ((d.toNat : Int) == 115) = true := by rw [beq_iff_eq]; omega
    subst hu
    clear h1
    go_enter Try.func47, Try.ntmps47
    go_wp2_with (go_at_call 43; refine (hf _).mono ?_; rintro e w1 ⟨rfl, hw⟩; obtain rfl : w = w1 := hw.symm; clear hw)
    go_ret
    exact ⟨rfl, rfl⟩
  rw [if_neg h1] at hu
  have q1 : ((d.toNat : Int) == 115) = false := by rw [beq_eq_false_iff_ne]; omega
  by_cases h2 : d.toNat = 109
  · rw [if_pos h2] at hu
    have q2 : ((d.toNat : Int) == 109) = true := by rw [beq_iff_eq]; omega
    subst hu
    clear h1 h2
    go_enter Try.func47, Try.ntmps47
    go_wp2_with (go_at_call 43; refine (hf _).mono ?_; rintro e w1 ⟨rfl, hw⟩; obtain rfl : w = w1 := hw.symm; clear hw)
    go_ret
    exact ⟨rfl, rfl⟩
  rw [if_neg h2] at hu
  have q2 : ((d.toNat : Int) == 109) = false := by rw [beq_eq_false_iff_ne]; omega
  by_cases h3 : d.toNat = 104
  · rw [if_pos h3] at hu
    have q3 : ((d.toNat : Int) == 104) = true := by rw [beq_iff_eq]; omega
    subst hu
    clear h1 h2 h3
    go_enter Try.func47, Try.ntmps47
    go_wp2_with (go_at_call 43; refine (hf _).mono ?_; rintro e w1 ⟨rfl, hw⟩; obtain rfl : w = w1 := hw.symm; clear hw)
    go_ret
    exact ⟨rfl, rfl⟩
  rw [if_neg h3] at hu
  have q3 : ((d.toNat : Int) == 104) = false := by rw [beq_eq_false_iff_ne]; omega
  by_cases h4 : d.toNat = 100
  · rw [if_pos h4] at hu
    have q4 : ((d.toNat : Int) == 100) = true := by rw [beq_iff_eq]; omega
    subst hu
    clear h1 h2 h3 h4
    go_enter Try.func47, Try.ntmps47
    go_wp2_with (go_at_call 43; refine (hf _).mono ?_; rintro e w1 ⟨rfl, hw⟩; obtain rfl : w = w1 := hw.symm; clear hw)
    go_ret
    exact ⟨rfl, rfl⟩
  rw [if_neg h4] at hu
  have q4 : ((d.toNat : Int) == 100) = false := by rw [beq_eq_false_iff_ne]; omega
  by_cases h5 : d.toNat = 119
  · rw [if_pos h5] at hu
    have q5 : ((d.toNat : Int) == 119) = true := by rw [beq_iff_eq]; omega
    subst hu
    clear h1 h2 h3 h4 h5
    go_enter Try.func47, Try.ntmps47
    go_wp2_with (go_at_call 43; refine (hf _).mono ?_; rintro e w1 ⟨rfl, hw⟩; obtain rfl : w = w1 := hw.symm; clear hw)
    go_ret
    exact ⟨rfl, rfl⟩
  rw [if_neg h5] at hu
  have q5 : ((d.toNat : Int) == 119) = false := by rw [beq_eq_false_iff_ne]; omega
  subst hu
  clear h1 h2 h3 h4 h5
  go_enter Try.func47, Try.ntmps47
  go_wp2_with (go_at_call 43; refine (hf _).mono ?_; rintro e w1 ⟨rfl, hw⟩; obtain rfl : w = w1 := hw.symm; clear hw)
  go_ret
  exact ⟨rfl, rfl⟩
end Go.Proofs.Ytakonfkefoeenac
