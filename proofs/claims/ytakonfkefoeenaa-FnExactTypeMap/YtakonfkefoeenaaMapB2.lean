/- Setting a bit in a map's bytes: mathematics. -/
import Derived.Test.YtakonfkefoeenaaMapB
import Derived.Laws.BitsAllLaws
namespace Go.Proofs.Ytakonfkefoeenaa
open Go.RowKit

def b8 (b0 b1 b2 b3 b4 b5 b6 b7 : Bool) : Nat := (((((((0 * 2 + b0.toNat) * 2 + b1.toNat) * 2 + b2.toNat) * 2 + b3.toNat) * 2 + b4.toNat) * 2 + b5.toNat) * 2 + b6.toNat) * 2 + b7.toNat

theorem byteS_b8 (S : Nat → Bool) (k : Nat) : byteS S k = b8 (S (8 * k + 0)) (S (8 * k + 1)) (S (8 * k + 2)) (S (8 * k + 3)) (S (8 * k + 4)) (S (8 * k + 5)) (S (8 * k + 6)) (S (8 * k + 7)) := rfl

theorem b8_0 : ∀ b0 b1 b2 b3 b4 b5 b6 b7 : Bool, b8 true b1 b2 b3 b4 b5 b6 b7 = b8 b0 b1 b2 b3 b4 b5 b6 b7 ||| 128 := by decide
theorem b8_1 : ∀ b0 b1 b2 b3 b4 b5 b6 b7 : Bool, b8 b0 true b2 b3 b4 b5 b6 b7 = b8 b0 b1 b2 b3 b4 b5 b6 b7 ||| 64 := by decide
theorem b8_2 : ∀ b0 b1 b2 b3 b4 b5 b6 b7 : Bool, b8 b0 b1 true b3 b4 b5 b6 b7 = b8 b0 b1 b2 b3 b4 b5 b6 b7 ||| 32 := by decide
theorem b8_3 : ∀ b0 b1 b2 b3 b4 b5 b6 b7 : Bool, b8 b0 b1 b2 true b4 b5 b6 b7 = b8 b0 b1 b2 b3 b4 b5 b6 b7 ||| 16 := by decide
theorem b8_4 : ∀ b0 b1 b2 b3 b4 b5 b6 b7 : Bool, b8 b0 b1 b2 b3 true b5 b6 b7 = b8 b0 b1 b2 b3 b4 b5 b6 b7 ||| 8 := by decide
theorem b8_5 : ∀ b0 b1 b2 b3 b4 b5 b6 b7 : Bool, b8 b0 b1 b2 b3 b4 true b6 b7 = b8 b0 b1 b2 b3 b4 b5 b6 b7 ||| 4 := by decide
theorem b8_6 : ∀ b0 b1 b2 b3 b4 b5 b6 b7 : Bool, b8 b0 b1 b2 b3 b4 b5 true b7 = b8 b0 b1 b2 b3 b4 b5 b6 b7 ||| 2 := by decide
theorem b8_7 : ∀ b0 b1 b2 b3 b4 b5 b6 b7 : Bool, b8 b0 b1 b2 b3 b4 b5 b6 true = b8 b0 b1 b2 b3 b4 b5 b6 b7 ||| 1 := by decide

theorem byteS_or {S S' : Nat → Bool} {n : Nat} (h : ∀ j, S' j = if j = n then true else S j) : byteS S' (n / 8) = byteS S (n / 8) ||| 2 ^ (7 - n % 8) := by
  have hn : n = 8 * (n / 8) + n % 8 := by omega
  have hr : n % 8 < 8 := by omega
  generalize hk : n / 8 = k at *
  generalize n % 8 = r at *
  rw [byteS_b8, byteS_b8]
  have hother : ∀ i, i ≠ r → S' (8 * k + i) = S (8 * k + i) := by
    intro i hi
    rw [h, if_neg (by omega)]
  have hself : S' (8 * k + r) = true := by rw [h, if_pos (by omega)]
  obtain rfl | rfl | rfl | rfl | rfl | rfl | rfl | rfl : r = 0 ∨ r = 1 ∨ r = 2 ∨ r = 3 ∨ r = 4 ∨ r = 5 ∨ r = 6 ∨ r = 7 := by omega
  · rw [hself, hother 1 (by decide), hother 2 (by decide), hother 3 (by decide), hother 4 (by decide), hother 5 (by decide), hother 6 (by decide), hother 7 (by decide)]
    exact b8_0 _ _ _ _ _ _ _ _
  · rw [hself, hother 0 (by decide), hother 2 (by decide), hother 3 (by decide), hother 4 (by decide), hother 5 (by decide), hother 6 (by decide), hother 7 (by decide)]
    exact b8_1 _ _ _ _ _ _ _ _
  · rw [hself, hother 0 (by decide), hother 1 (by decide), hother 3 (by decide), hother 4 (by decide), hother 5 (by decide), hother 6 (by decide), hother 7 (by decide)]
    exact b8_2 _ _ _ _ _ _ _ _
  · rw [hself, hother 0 (by decide), hother 1 (by decide), hother 2 (by decide), hother 4 (by decide), hother 5 (by decide), hother 6 (by decide), hother 7 (by decide)]
    exact b8_3 _ _ _ _ _ _ _ _
  · rw [hself, hother 0 (by decide), hother 1 (by decide), hother 2 (by decide), hother 3 (by decide), hother 5 (by decide), hother 6 (by decide), hother 7 (by decide)]
    exact b8_4 _ _ _ _ _ _ _ _
  · rw [hself, hother 0 (by decide), hother 1 (by decide), hother 2 (by decide), hother 3 (by decide), hother 4 (by decide), hother 6 (by decide), hother 7 (by decide)]
    exact b8_5 _ _ _ _ _ _ _ _
  · rw [hself, hother 0 (by decide), hother 1 (by decide), hother 2 (by decide), hother 3 (by decide), hother 4 (by decide), hother 5 (by decide), hother 7 (by decide)]
    exact b8_6 _ _ _ _ _ _ _ _
  · rw [hself, hother 0 (by decide), hother 1 (by decide), hother 2 (by decide), hother 3 (by decide), hother 4 (by decide), hother 5 (by decide), hother 6 (by decide)]
    exact b8_7 _ _ _ _ _ _ _ _

theorem byteS_else {S S' : Nat → Bool} {n k : Nat} (h : ∀ j, S' j = if j = n then true else S j) (hk : k ≠ n / 8) : byteS S' k = byteS S k := by
  have hj : ∀ i, i < 8 → S' (8 * k + i) = S (8 * k + i) := by
    intro i hi
    rw [h, if_neg (by omega)]
  rw [byteS_b8, byteS_b8, hj 0 (by decide), hj 1 (by decide), hj 2 (by decide), hj 3 (by decide), hj 4 (by decide), hj 5 (by decide), hj 6 (by decide), hj 7 (by decide)]

theorem half_pow {r : Nat} (h : r < 8) : (128 : Int) / 2 ^ r = ((2 ^ (7 - r) : Nat) : Int) ∧ 2 ^ (7 - r) < 256 := by
  obtain rfl | rfl | rfl | rfl | rfl | rfl | rfl | rfl : r = 0 ∨ r = 1 ∨ r = 2 ∨ r = 3 ∨ r = 4 ∨ r = 5 ∨ r = 6 ∨ r = 7 := by omega
  all_goals exact ⟨by decide, by decide⟩

theorem or_bit {S S' : Nat → Bool} {n : Nat} (h : ∀ j, S' j = if j = n then true else S j) : bits .or .u8 ((byteS S (n / 8) : Nat) : Int) ((128 : Int) / 2 ^ (n % 8)) = ((byteS S' (n / 8) : Nat) : Int) := by
  obtain ⟨e1, e2⟩ := half_pow (r := n % 8) (by omega)
  rw [e1, u8_or_nat _ _ (byteS_lt _ _) e2, byteS_or h]

theorem byteS_none (k : Nat) : byteS (memB []) k = 0 := by
  rw [byteS_b8]
  simp [memB_nil, b8]

theorem trim_stop {f : Nat → Nat} {m : Nat} (h : f m ≠ 0) : trim f (m + 1) = m + 1 := by rw [trim, if_neg h]
theorem trim_down {f : Nat → Nat} {m : Nat} (h : f m = 0) : trim f (m + 1) = trim f m := by rw [trim, if_pos h]
end Go.Proofs.Ytakonfkefoeenaa
