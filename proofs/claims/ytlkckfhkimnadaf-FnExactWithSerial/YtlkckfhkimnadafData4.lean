/- spec.l02Num by its contract. -/
import Derived.Test.YtlkckfhkimnadafLab
import Derived.Test.YtlkckfhkimnadafFoldM
import Derived.Test.YtlkckfhkimnadafRows
import Derived.WalkSpells
import Derived.WalkLawsBesides
namespace Go.Proofs.Ytlkckfhkimnadaf
open Go.RowKit

/-- The number of some bytes, the high one first. -/
def numL (l : List UInt8) : Nat := l.foldl (fun n c => n * 256 + c.toNat) 0

theorem numL_snoc (l : List UInt8) (c : UInt8) : numL (l ++ [c]) = numL l * 256 + c.toNat := by simp [numL]

theorem fold_lt : ∀ (l : List UInt8) (a : Nat), l.foldl (fun n c => n * 256 + c.toNat) a < (a + 1) * 256 ^ l.length := by
  intro l
  induction l with
  | nil => intro a; simp
  | cons c l ih =>
    intro a
    rw [List.foldl_cons, List.length_cons, Nat.pow_succ]
    refine Nat.lt_of_lt_of_le (ih _) ?_
    have hc := c.toNat_lt
    have h1 : a * 256 + c.toNat + 1 ≤ (a + 1) * 256 := by omega
    calc (a * 256 + c.toNat + 1) * 256 ^ l.length ≤ ((a + 1) * 256) * 256 ^ l.length := Nat.mul_le_mul_right _ h1
      _ = (a + 1) * (256 ^ l.length * 256) := by rw [Nat.mul_assoc, Nat.mul_comm 256]

theorem numL_lt (l : List UInt8) : numL l < 256 ^ l.length := by
  have := fold_lt l 0
  rw [Nat.zero_add, Nat.one_mul] at this
  exact this

theorem numL_small {l : List UInt8} (h : l.length ≤ 6) : numL l < 281474976710656 := by
  have h1 := numL_lt l
  have h2 : 256 ^ l.length ≤ 256 ^ 6 := Nat.pow_le_pow_right (by decide) h
  have h3 : (256 : Nat) ^ 6 = 281474976710656 := by decide
  omega

set_option maxRecDepth 100000 in
set_option maxHeartbeats 400000 in
theorem l02Num_any (s : ByteArray) (w : World) (hs : s.size ≤ 6) :
    Calls Try.prog 27 #[.string s] w fun e w' => e = .returned (.int .i64 (numL s.data.toList)) ∧ w' = w := by
  go_enter Try.func27, Try.ntmps27
  go_wp2
  go_loop [3, 4] (fun u v => ∃ k : Nat, k ≤ s.size ∧ v = .int .i64 k ∧ u = .int .i64 (numL (s.data.toList.take k))) (fun _ v => s.size - (intOf v).toNat)
  case atStart => exact ⟨0, Nat.zero_le _, rfl, rfl⟩
  case round =>
    obtain ⟨k, hk, rfl, rfl⟩ := hrel
    by_cases hlt : k < s.size
    · have hd := Nm.get_data hlt
      have e1 : s.data.toList.take (k + 1) = s.data.toList.take k ++ [s[k]] := Nm.take_step hd
      have hb := numL_small (l := s.data.toList.take k) (by simp; omega)
      have e2 := numL_snoc (s.data.toList.take k) s[k]
      rw [← e1] at e2
      have hc : (s[k].toNat : Int) < 256 := by have := s[k].toNat_lt; omega
      have hlt' : (k : Int) < (s.size : Int) := by omega
      generalize numL (s.data.toList.take k) = m at *
      clear e1 hd
      go_wp2
      go_round
      case rel => exact ⟨k + 1, by omega, by go_num, by rw [e2]; go_num⟩
      case measure => simp [intOf]; omega
    · have hke : k = s.size := by omega
      subst hke
      have et : s.data.toList.take s.size = s.data.toList := List.take_of_length_le (by simp)
      rw [et]
      go_wp2
      go_ret
      exact ⟨rfl, rfl⟩
end Go.Proofs.Ytlkckfhkimnadaf
