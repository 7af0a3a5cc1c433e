/- impl.turn by its contract. -/
import Derived.Test.YtokegkiddkpedaaDoorShC
namespace Go.Proofs.YtokegkiddkpedaaDoor
open Go.RowKit
set_option linter.unusedVariables false

theorem and31 {n : Nat} (h1 : 1 ≤ n) (h2 : n ≤ 31) : bits .and .u64 (IntKind.u64.wrap (-(n : Int))) 31 = ((32 - n : Nat) : Int) := by
  have e : ∀ k : Fin 31, bits .and .u64 (IntKind.u64.wrap (-((k.val + 1 : Nat) : Int))) 31 = ((32 - (k.val + 1) : Nat) : Int) := by decide
  have := e ⟨n - 1, by omega⟩
  rw [show n - 1 + 1 = n by omega] at this
  exact this
set_option maxRecDepth 100000 in
set_option maxHeartbeats 1600000 in
theorem rot_any (x : Wd) (n m : Nat) (h1 : 1 ≤ n) (hm : Hid (m = 32 - n)) (m1 : 1 ≤ m) (m2 : m ≤ 31) (w : World) :
    Calls Tryd.prog 23 #[.int .u32 (x.toNat : Int), .int .i64 (-(n : Int))] w fun e w' => e = .returned (.int .u32 ((turnW x n).toNat : Int)) ∧ w' = w := by
  have hx := x.isLt
  have hb : bits .and .u64 (IntKind.u64.wrap (-(n : Int))) 31 = (m : Int) := by rw [hm.out]; exact and31 h1 (by have := hm.out; omega)
  have i1 : (0 : Int) ≤ (m : Int) := by omega
  have i2 : (m : Int) ≤ 31 := by omega
  go_enter Tryd.func23, Tryd.ntmps23
  go_wp2
  go_ret
  refine ⟨?_, rfl⟩
  have e1 : 32 - m = n := by have := hm.out; omega
  have e2 : 32 - n = m := by have := hm.out; omega
  rw [turnW, BitVec.or_comm, ← w_or, e2, ← w_shr, ← w_shl]
  first | rfl | (rw [← e1]; rfl)
set_option maxRecDepth 100000 in
set_option maxHeartbeats 1600000 in
theorem turn_any (x : Wd) (n : Nat) (h1 : 1 ≤ n) (h2 : n ≤ 31) (w : World) :
    Calls Tryd.prog 22 #[.int .u32 (x.toNat : Int), .int .i64 (n : Int)] w fun e w' => e = .returned (.int .u32 ((turnW x n).toNat : Int)) ∧ w' = w := by
  have i1 : (0 : Int) ≤ (n : Int) := by omega
  have i2 : (n : Int) ≤ 31 := by omega
  have hr := rot_any x n (32 - n) h1 rfl (by omega) (by omega) w
  go_enter Tryd.func22, Tryd.ntmps22
  go_wp2_with (first | (go_at_call 23; refine hr.mono ?_; rintro e wv ⟨rfl, rfl⟩))
  go_ret
  exact ⟨rfl, rfl⟩
end Go.Proofs.YtokegkiddkpedaaDoor
