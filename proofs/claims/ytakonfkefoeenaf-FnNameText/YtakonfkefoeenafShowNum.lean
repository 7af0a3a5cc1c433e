/- impl.showNumber by its contract. -/
import Derived.Test.YtakonfkefoeenafShowM
import Derived.Test.YtakonfkefoeenafRows
import Derived.WalkSpells
import Derived.WalkLawsBesides
import Derived.Deep.AppendLies
namespace Go.Proofs.Ytakonfkefoeenaf
open Go.RowKit

theorem Try.infoU8n : (Try.prog.info? 5).map (fun i => (i.zero, i.size, i.bytes)) = some (some (.int .u8 0), 1, 1) := by kernel_rfl

set_option maxRecDepth 100000 in
set_option maxHeartbeats 800000 in
theorem showNumber_any (v : Value) (n B : Nat) (l : List UInt8) (c : UInt8) (w : World) (hown : w.ownsRow B 5 1 v n (Nm.bys l)) (hB : B ≤ w.heap.size) (hn : n ≤ 8000000000) :
    Calls Try.prog 54 #[v, .int .u8 c.toNat] w fun e w' => ∃ v', e = .returned v' ∧ w'.ownsRow B 5 1 v' (n + 4) (Nm.bys (l ++ (92 :: Nm.threeL c))) ∧ Below B w w' := by
  obtain ⟨j0, hj, k0, k1, k2⟩ := info_parts Try.infoU8n
  have hcl : (c.toNat : Int) < 256 := by have := c.toNat_lt; omega
  have HB := Nm.hide (Nm.bys_num c)
  go_enter Try.func54, Try.ntmps54
  go_wp2_with (at_builtin; refine wpList_append_own _ rfl (.tmp 5) (.tmp 16) 28 rfl B 5 j0 (.int .u8 0) 1 1 Try.underlying28 hj k0 k1 k2 rfl (by decide) _ _ _ rfl (hown.alloc _) ⟨w.heap.size, 0, none⟩ 4 4 _ rfl rfl (World.news_of_block (heap_alloc_new _ _)) (Nm.four_cells _ _ _ _) (by unfold maxLen; omega) (by omega) (by simp; omega) ?_; intro vb wb hown2 hgrow2 hnl2; clear hnl2; simp only [] at hown2; rw [HB.out] at hown2; have R2 := Nm.bys_step (by simp; omega) (hown.alloc _) ((Below.refl B w).alloc hB _) hown2 hgrow2; clear hown2 hgrow2)
  go_ret
  exact ⟨_, rfl, R2.1, R2.2⟩
end Go.Proofs.Ytakonfkefoeenaf
