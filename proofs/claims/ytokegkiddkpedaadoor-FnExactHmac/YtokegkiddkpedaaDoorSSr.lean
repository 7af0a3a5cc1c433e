/- spec.l09Str by its contract. -/
import Derived.Test.YtokegkiddkpedaaDoorShL8
import Derived.Test.YtokegkiddkpedaaDoorShT
namespace Go.Proofs.YtokegkiddkpedaaDoor
open Go.RowKit
set_option linter.unusedVariables false

set_option maxRecDepth 100000 in
set_option maxHeartbeats 1600000 in
theorem l09Str_any (l : List UInt8) (hl : l.length = 32) (w : World) :
    Calls Tryd.prog 9 #[.agg (byA l)] w fun e w' => e = .returned (.string ⟨l.toArray⟩) ∧ Below w.heap.size w w' := by
  obtain ⟨j0, hj, k0, k1, k2⟩ := info_parts Tryd.infoBy
  have kR := blk_alloc (blk_new w (byA l) 23) (.cells #[] 5)
  have hB0 := (Below.refl w.heap.size w).alloc (Nat.le_refl _) (.cells (byA l) 23)
  have hro := World.ownsRow_made (base := w.heap.size + 1) (size := 1) (e := 5) (w.alloc (.cells (byA l) 23)) #[] 0 (by simp) (by decide) rfl
  have hBs := hB0.alloc hB0.size (.cells #[] 5)
  rw [World.size_alloc] at hro
  have HL := Nm.hide hl
  clear hl
  go_enter Tryd.func9, Tryd.ntmps9
  go_wp2
  go_loopw [3, 4] (fun u i wr => ∃ k : Nat, k ≤ 32 ∧ i = .int .i64 k ∧ wr.ownsRow (w.heap.size + 1) 5 1 u k (Nm.bys (l.take k)) ∧ Blk wr w.heap.size (byA l) 23 ∧ Below w.heap.size w wr) (fun _ i _ => 32 - (intOf i).toNat)
  case atStart => exact ⟨0, Nat.zero_le _, rfl, hro, kR, hBs⟩
  case round =>
    obtain ⟨k, hk, rfl, hown, kB, hbel⟩ := hrel
    obtain ⟨ya, yc, rfl⟩ := own_sl hown
    clear hro hBs hB0 kR
    by_cases hlt : k < 32
    · have hkl : k < l.length := by rw [HL.out]; exact hlt
      have hx : l[k]? = some l[k] := List.getElem?_eq_getElem hkl
      have hcr : wr.cell? ⟨w.heap.size, k, none⟩ = some (.int .u8 ((l[k]).toNat : Int)) := (blk_cell kB k).trans (by simp [byA, hkl])
      have HT := Nm.hide (show Nm.bys (l.take (k + 1)) = Nm.bys (l.take k) ++ [.int .u8 ((l[k]).toNat : Int)] by rw [List.take_add_one, hx, Nm.bys_append]; rfl)
      have i1 : (0 : Int) ≤ (k : Int) := by omega
      have i2 : (k : Int) < 32 := by omega
      have hlw := blk_lt kB
      generalize l[k] = c at *
      go_wp2_with (at_builtin; refine wpList_append_own _ rfl (.tmp 10) (.tmp 14) 22 rfl (w.heap.size + 1) 5 j0 (.int .u8 0) 1 1 Tryd.underlying22 hj k0 k1 k2 rfl (by decide) _ _ _ rfl (hown.alloc _) ⟨wr.heap.size, 0, none⟩ 1 1 [.int .u8 (c.toNat : Int)] rfl rfl (cell_one_new _ _ _) (Nm.one_cell _ rfl) (by unfold maxLen; omega) (by omega) (by simp; omega) ?_; intro vb wb hown8 hgrow8 hnl8; clear hnl8)
      rw [← HT.out] at hown8
      have hrow : ∀ q, Value.ownBlock (.slice ya k yc) = some q → w.heap.size + 1 ≤ q := fun q hq => (hown.lt q hq).1
      have hB8 : Below (w.heap.size + 1) wr wb := ((Below.refl _ wr).alloc (by omega) _).grown hgrow8 (by rw [World.size_alloc]; omega) hrow
      have kB8 : Blk wb w.heap.size (byA l) 23 := (hB8.block _ (Nat.lt_succ_self _)).trans kB
      have hbel8 := hbel.trans (hB8.mono (Nat.le_succ _))
      obtain ⟨za, zc, rfl⟩ := own_sl hown8
      clear hgrow8 hown hbel kB hB8 hrow
      go_roundw
      case rel => exact ⟨k + 1, by omega, by go_num, hown8, kB8, hbel8⟩
      case measure => simp [intOf]; omega
    · obtain rfl : k = 32 := by omega
      rw [show l.take 32 = l by rw [← HL.out]; exact List.take_length] at hown
      have HC := Nm.conv_own (P := Tryd.prog) (src := 22) (dst := 9) Tryd.underlying22 Tryd.underlying5 Tryd.underlying9 hown (by omega)
      obtain ⟨g, cap, hv, hcv⟩ := HC
      cases hv
      rw [show ((32 : Nat) : Int) = 32 from rfl]
      go_wp2
      go_ret
      exact ⟨rfl, hbel⟩
end Go.Proofs.YtokegkiddkpedaaDoor
