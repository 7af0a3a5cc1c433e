/- spec.l03Hex by its contract. -/
import Derived.Test.YtakonfkefoeenafDoorSDig
import Derived.Test.YtakonfkefoeenafDoorHexV
namespace Go.Proofs.YtakonfkefoeenafDoor
open Go.RowKit

set_option maxRecDepth 100000 in
set_option maxHeartbeats 800000 in
theorem l03Hex_any (c : UInt8) (w : World) :
    Calls Tryd.prog 11 #[.int .u8 c.toNat] w fun e w' => e = .returned (.int .i64 (hexV c)) ∧ w' = w := by
  have hdig := l01Digit_any c
  have hc : (c.toNat : Int) < 256 := by have := c.toNat_lt; omega
  obtain ⟨Z, HZ⟩ : ∃ Z, Hid (Z = hexV c) := ⟨_, rfl⟩
  rw [← HZ.out]
  cases hD : Nm.digB c with
  | true =>
    have hr : 48 ≤ c.toNat ∧ c.toNat ≤ 57 := by simp [Nm.digB] at hD; omega
    have h1 : (48 : Int) ≤ (c.toNat : Int) := by omega
    have h2 : (c.toNat : Int) ≤ 57 := by omega
    have HN : Hid (Z = (c.toNat : Int) - 48) := by show _ = _; rw [HZ.out, hexV, if_pos hD]
    rw [hD] at hdig
    clear hD hr
    go_enter Tryd.func11, Tryd.ntmps11
    go_wp2_with (go_at_call 19; refine (hdig _).mono ?_; rintro e w1 ⟨rfl, hw⟩; obtain rfl : w = w1 := hw.symm; clear hw)
    go_ret
    rw [HN.out]
    exact ⟨rfl, rfl⟩
  | false =>
    rw [hD] at hdig
    by_cases g1 : 97 ≤ c.toNat
    · by_cases g2 : c.toNat ≤ 102
      · have h1 : (97 : Int) ≤ (c.toNat : Int) := by omega
        have h2 : (c.toNat : Int) ≤ 102 := by omega
        have HN : Hid (Z = (c.toNat : Int) - 97 + 10) := by show _ = _; rw [HZ.out, hexV, if_neg (by simp [hD]), if_pos ⟨g1, g2⟩]
        clear hD
        go_enter Tryd.func11, Tryd.ntmps11
        go_wp2_with (go_at_call 19; refine (hdig _).mono ?_; rintro e w1 ⟨rfl, hw⟩; obtain rfl : w = w1 := hw.symm; clear hw)
        go_ret
        rw [HN.out]
        exact ⟨rfl, rfl⟩
      · have h1 : (97 : Int) ≤ (c.toNat : Int) := by omega
        have h2 : (102 : Int) < (c.toNat : Int) := by omega
        have d2 : decide ((c.toNat : Int) ≤ 102) = false := by simp; omega
        have d3 : decide ((c.toNat : Int) ≤ 70) = false := by simp; omega
        have HN : Hid (Z = -1) := by show _ = _; rw [HZ.out, hexV, if_neg (by simp [hD]), if_neg (by omega), if_neg (by omega)]
        clear hD
        go_enter Tryd.func11, Tryd.ntmps11
        go_wp2_with (go_at_call 19; refine (hdig _).mono ?_; rintro e w1 ⟨rfl, hw⟩; obtain rfl : w = w1 := hw.symm; clear hw)
        go_ret
        rw [HN.out]
        exact ⟨rfl, rfl⟩
    · have d1 : decide ((97 : Int) ≤ (c.toNat : Int)) = false := by simp; omega
      by_cases g3 : 65 ≤ c.toNat
      · by_cases g4 : c.toNat ≤ 70
        · have h1 : (65 : Int) ≤ (c.toNat : Int) := by omega
          have h2 : (c.toNat : Int) ≤ 70 := by omega
          have HN : Hid (Z = (c.toNat : Int) - 65 + 10) := by show _ = _; rw [HZ.out, hexV, if_neg (by simp [hD]), if_neg (by omega), if_pos ⟨g3, g4⟩]
          clear hD
          go_enter Tryd.func11, Tryd.ntmps11
          go_wp2_with (go_at_call 19; refine (hdig _).mono ?_; rintro e w1 ⟨rfl, hw⟩; obtain rfl : w = w1 := hw.symm; clear hw)
          go_ret
          rw [HN.out]
          exact ⟨rfl, rfl⟩
        · have h1 : (65 : Int) ≤ (c.toNat : Int) := by omega
          have h2 : (70 : Int) < (c.toNat : Int) := by omega
          have d2 : decide ((c.toNat : Int) ≤ 70) = false := by simp; omega
          have HN : Hid (Z = -1) := by show _ = _; rw [HZ.out, hexV, if_neg (by simp [hD]), if_neg (by omega), if_neg (by omega)]
          clear hD
          go_enter Tryd.func11, Tryd.ntmps11
          go_wp2_with (go_at_call 19; refine (hdig _).mono ?_; rintro e w1 ⟨rfl, hw⟩; obtain rfl : w = w1 := hw.symm; clear hw)
          go_ret
          rw [HN.out]
          exact ⟨rfl, rfl⟩
      · have h1 : (c.toNat : Int) < 65 := by omega
        have d2 : decide ((65 : Int) ≤ (c.toNat : Int)) = false := by simp; omega
        have HN : Hid (Z = -1) := by show _ = _; rw [HZ.out, hexV, if_neg (by simp [hD]), if_neg (by omega), if_neg (by omega)]
        clear hD
        go_enter Tryd.func11, Tryd.ntmps11
        go_wp2_with (go_at_call 19; refine (hdig _).mono ?_; rintro e w1 ⟨rfl, hw⟩; obtain rfl : w = w1 := hw.symm; clear hw)
        go_ret
        rw [HN.out]
        exact ⟨rfl, rfl⟩
end Go.Proofs.YtakonfkefoeenafDoor
