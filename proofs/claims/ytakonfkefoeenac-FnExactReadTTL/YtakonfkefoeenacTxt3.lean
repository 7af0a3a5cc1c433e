/- spec.l03Unit, l03Mnemonic, l03Hex, l03Script by their contracts. -/
import Derived.Test.YtakonfkefoeenacSDig
namespace Go.Proofs.Ytakonfkefoeenac
open Go.RowKit

def unitS (c : UInt8) : Int :=
  if c.toNat = 115 ∨ c.toNat = 83 then 1 else if c.toNat = 109 ∨ c.toNat = 77 then 60 else if c.toNat = 104 ∨ c.toNat = 72 then 3600
  else if c.toNat = 100 ∨ c.toNat = 68 then 86400 else if c.toNat = 119 ∨ c.toNat = 87 then 604800 else 0

set_option maxRecDepth 100000 in
set_option maxHeartbeats 1600000 in
theorem l03Unit_any (c : UInt8) (w : World) :
    Calls Try.prog 38 #[.int .u8 c.toNat] w fun e w' => e = .returned (.int .i64 (unitS c)) ∧ w' = w := by
  have HU : ∀ z, unitS c = z → Hid (unitS c = z) := fun _ h => h
  by_cases h : c.toNat = 115 ∨ c.toNat = 83 ∨ c.toNat = 109 ∨ c.toNat = 77 ∨ c.toNat = 104 ∨ c.toNat = 72 ∨ c.toNat = 100 ∨ c.toNat = 68 ∨ c.toNat = 119 ∨ c.toNat = 87
  · rcases h with h | h | h | h | h | h | h | h | h | h
    all_goals
      have HE : ∃ z, Hid (unitS c = z) ∧ z = unitS c := ⟨_, rfl, rfl⟩
      simp only [unitS, h]
      go_enter Try.func38, Try.ntmps38
      go_wp2
      go_ret
      exact ⟨rfl, rfl⟩
  · have HA : Hid (unitS c = 0) := by
      show _ = _
      unfold unitS
      rw [if_neg (by omega), if_neg (by omega), if_neg (by omega), if_neg (by omega), if_neg (by omega)]
    have b1 : ((c.toNat : Int) == 115) = false := by rw [beq_eq_false_iff_ne]; omega
    have b2 : ((c.toNat : Int) == 83) = false := by rw [beq_eq_false_iff_ne]; omega
    have b3 : ((c.toNat : Int) == 109) = false := by rw [beq_eq_false_iff_ne]; omega
    have b4 : ((c.toNat : Int) == 77) = false := by rw [beq_eq_false_iff_ne]; omega
    have b5 : ((c.toNat : Int) == 104) = false := by rw [beq_eq_false_iff_ne]; omega
    have b6 : ((c.toNat : Int) == 72) = false := by rw [beq_eq_false_iff_ne]; omega
    have b7 : ((c.toNat : Int) == 100) = false := by rw [beq_eq_false_iff_ne]; omega
    have b8' : ((c.toNat : Int) == 68) = false := by rw [beq_eq_false_iff_ne]; omega
    have b9 : ((c.toNat : Int) == 119) = false := by rw [beq_eq_false_iff_ne]; omega
    have b10 : ((c.toNat : Int) == 87) = false := by rw [beq_eq_false_iff_ne]; omega
    clear h HU
    go_enter Try.func38, Try.ntmps38
    go_wp2
    go_ret
    rw [HA.out]
    exact ⟨rfl, rfl⟩
end Go.Proofs.Ytakonfkefoeenac
