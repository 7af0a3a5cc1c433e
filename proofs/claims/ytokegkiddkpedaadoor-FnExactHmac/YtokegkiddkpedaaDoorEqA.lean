/- Arrays of 32 bytes compared. -/
import Derived.Test.YtokegkiddkpedaaDoorShL8
import Derived.Test.YtokegkiddkpedaaDoorShC
import Derived.RegionTactic
namespace Go.Proofs.YtokegkiddkpedaaDoor
open Go.RowKit
set_option linter.unusedVariables false

theorem byA_at {l : List UInt8} {k : Nat} (h : k < l.length) : (byA l)[k]? = some (.int .u8 ((l[k]).toNat : Int)) := by simp [byA, h]

set_option maxRecDepth 100000 in
set_option maxHeartbeats 1600000 in
theorem eqByteA32_any (l : List UInt8) (hl : l.length = 32) (w : World) :
    Calls Tryd.prog 7 #[.agg (byA l), .agg (byA l)] w fun e w' => e = .returned (.bool true) ∧ Below w.heap.size w w' := by
  obtain ⟨W0, hW0⟩ : ∃ W0, W0 = (w.alloc (.cells (byA l) 23)).alloc (.cells (byA l) 23) := ⟨_, rfl⟩
  have b1 : Blk W0 w.heap.size (byA l) 23 := by rw [hW0]; exact blk_alloc (blk_new _ _ _) _
  have b2 : Blk W0 (w.heap.size + 1) (byA l) 23 := by
    have h := blk_new (w.alloc (.cells (byA l) 23)) (byA l) 23
    rw [World.size_alloc] at h
    rw [hW0]; exact h
  have hB : Below w.heap.size w W0 := by
    have h1 := (Below.refl w.heap.size w).alloc (Nat.le_refl _) (.cells (byA l) 23)
    rw [hW0]; exact h1.alloc h1.size _
  go_enter Tryd.func7, Tryd.ntmps7
  go_wp2
  rw [← hW0]
  have HL := Nm.hide hl
  clear hW0 hl
  go_loopw [5] (fun i wr => ∃ k : Nat, k ≤ 32 ∧ i = .int .i64 k ∧ Blk wr w.heap.size (byA l) 23 ∧ Blk wr (w.heap.size + 1) (byA l) 23 ∧ Below w.heap.size w wr) (fun i _ => 32 - (intOf i).toNat)
  case atStart => exact ⟨0, by omega, rfl, b1, b2, hB⟩
  case round =>
    clear b1 b2 hB
    obtain ⟨k, hk, rfl, b1, b2, hB⟩ := hrel
    by_cases hlt : k < 32
    · have i1 : (0 : Int) ≤ (k : Int) := by omega
      have i2 : (k : Int) < 32 := by omega
      have hkl : k < l.length := by rw [HL.out]; exact hlt
      have c1 := (blk_cell b1 k).trans (byA_at hkl)
      have c2 := (blk_cell b2 k).trans (byA_at hkl)
      generalize l[k] = c at *
      have hcc : ((c.toNat : Int) != (c.toNat : Int)) = false := by simp
      go_wp2
      go_region
      all_goals go_wp2
      go_roundw
      case rel => exact ⟨k + 1, by omega, by go_num, blk_drew b1, blk_drew b2, hB.drew⟩
      case measure => simp [intOf]; omega
    · obtain rfl : k = 32 := by omega
      have i2 : ¬ ((32 : Nat) : Int) < 32 := by omega
      go_wp2
      go_ret
      exact ⟨rfl, hB⟩
end Go.Proofs.YtokegkiddkpedaaDoor
