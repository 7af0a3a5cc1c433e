/- (impl.state).sum by its contract. -/
import Derived.Test.YtokegkiddkpedaaDoorIBg
import Derived.Test.YtokegkiddkpedaaDoorITk
import Derived.Test.YtokegkiddkpedaaDoorShL8
namespace Go.Proofs.YtokegkiddkpedaaDoor
open Go.RowKit
set_option linter.unusedVariables false

theorem ouA_size (l : List UInt8) (i : Nat) : (ouA l i).size = 32 := by simp [ouA]
theorem big4 (x : Nat) : bigL x 4 = [UInt8.ofNat (x / 2 ^ 24), UInt8.ofNat (x / 2 ^ 16), UInt8.ofNat (x / 2 ^ 8), UInt8.ofNat (x / 2 ^ 0)] := rfl
theorem ouA_four (s : Sv) {k : Nat} (h : k < 8) : spl (ouA (outL s) (4 * k)) (4 * k) (bytesV ⟨(bigL (((svL s)[k]?).getD 0).toNat 4).toArray⟩) = ouA (outL s) (4 * (k + 1)) := by
  have e : ∀ i, i < 4 → ((outL s)[4 * k + i]?).getD 0 = UInt8.ofNat ((((svL s)[k]?).getD 0).toNat / 2 ^ (24 - 8 * i)) := by
    intro i hi
    rw [outL_at s (by omega), show (4 * k + i) / 4 = k by omega, show (4 * k + i) % 4 = i by omega]
  rw [big4]
  show spl _ _ [.int .u8 ((UInt8.ofNat ((((svL s)[k]?).getD 0).toNat / 2 ^ 24)).toNat : Int), .int .u8 ((UInt8.ofNat ((((svL s)[k]?).getD 0).toNat / 2 ^ 16)).toNat : Int), .int .u8 ((UInt8.ofNat ((((svL s)[k]?).getD 0).toNat / 2 ^ 8)).toNat : Int), .int .u8 ((UInt8.ofNat ((((svL s)[k]?).getD 0).toNat / 2 ^ 0)).toNat : Int)] = _
  rw [← e 0 (by omega), ← e 1 (by omega), ← e 2 (by omega), ← e 3 (by omega)]
  simp only [spl, Nat.add_zero]
  rw [ouA_set (by omega), ouA_set (by omega), show 4 * k + 1 + 1 = 4 * k + 2 by omega, ouA_set (by omega), show 4 * k + 2 + 1 = 4 * k + 3 by omega, ouA_set (by omega), show 4 * (k + 1) = 4 * k + 3 + 1 by omega]

set_option maxRecDepth 100000 in
set_option maxHeartbeats 8000000 in
theorem sum_any (s : Sv) (w : World) :
    Calls Tryd.prog 18 #[.agg (hvA s)] w fun e w' => e = .returned (.agg (byA (outL s))) ∧ Below w.heap.size w w' := by
  have hz32 : ∀ W, (zeroValue 23).run Tryd.prog W = .ok (.agg (Array.replicate 32 (.int .u8 0))) W := by
    have := zero_of_info (P := Tryd.prog) (t := 23) (v := .agg (Array.replicate 32 (.int .u8 0))) (n := 32) (by kernel_rfl)
    exact this.1
  have hinfA : (Tryd.prog.info? 40).map (·.size) = some (hvA s).size := by rw [hvA_size]; kernel_rfl
  have hinf32 : (Tryd.prog.info? 23).map (·.size) = some 32 := by kernel_rfl
  obtain ⟨W0, hW0⟩ : ∃ W0, W0 = ((w.alloc (.cells (hvA s) 40)).alloc (.cells (Array.replicate 32 (.int .u8 0)) 23)).alloc (.cells (Array.replicate 32 (.int .u8 0)) 23) := ⟨_, rfl⟩
  have kA : Blk (((w.alloc (.cells (hvA s) 40)).alloc (.cells (Array.replicate 32 (.int .u8 0)) 23)).alloc (.cells (Array.replicate 32 (.int .u8 0)) 23)) w.heap.size (hvA s) 40 := blk_alloc (blk_alloc (blk_new _ _ _) _) _
  have b2 : Blk W0 (w.heap.size + 1) (Array.replicate 32 (.int .u8 0)) 23 := by
    have h := blk_new (w.alloc (.cells (hvA s) 40)) (Array.replicate 32 (.int .u8 0)) 23
    rw [World.size_alloc] at h
    rw [hW0]; exact blk_alloc h _
  have b3 : Blk W0 (w.heap.size + 2) (ouA (outL s) 0) 23 := by
    have h := blk_new ((w.alloc (.cells (hvA s) 40)).alloc (.cells (Array.replicate 32 (.int .u8 0)) 23)) (Array.replicate 32 (.int .u8 0)) 23
    rw [World.size_alloc, World.size_alloc] at h
    rw [hW0, ouA_zero]; exact h
  have hB : Below w.heap.size w W0 := by
    have h1 := (Below.refl w.heap.size w).alloc (Nat.le_refl _) (.cells (hvA s) 40)
    have h2 := h1.alloc h1.size (.cells (Array.replicate 32 (.int .u8 0)) 23)
    rw [hW0]; exact h2.alloc h2.size _
  have hsz := hB.size
  go_enter Tryd.func18, Tryd.ntmps18
  go_wp2_with (refine wpList_load_blk (.tmp 1) 40 rfl rfl w.heap.size _ _ kA rfl Tryd.underlying40 rfl hinfA ?_)
  rw [← hW0]
  have HW := Nm.hide hW0
  clear hW0 kA
  generalize hp1 : w.heap.size = p1 at *
  have HP1 := Nm.hide hp1
  clear hp1
  go_loopw [7] (fun i wr => ∃ k : Nat, k ≤ 8 ∧ i = .int .i64 k ∧ Blk wr (p1 + 2) (ouA (outL s) (4 * k)) 23 ∧ Only (p1 + 2) W0 wr) (fun i _ => 8 - (intOf i).toNat)
  case atStart => exact ⟨0, by omega, rfl, b3, Only.refl _ _⟩
  case round =>
    obtain ⟨k, hk, rfl, kk, hO⟩ := hrel
    clear b3
    by_cases hlt : k < 8
    · have i1 : (0 : Int) ≤ (k : Int) := by omega
      have i2 : (k : Int) < 8 := by omega
      obtain ⟨ui, hui, hus⟩ := info_one (P := Tryd.prog) (e := 35) (by kernel_rfl)
      have hix := fun W => run_index_arr (P := Tryd.prog) (W := W) Tryd.underlying40 Tryd.underlying35 hui hus hlt (hvA_at s hlt)
      have H4 := Nm.hide (ouA_four s hlt)
      have HS := Nm.hide (ouA_size (outL s) (4 * k))
      obtain ⟨x, hx⟩ : ∃ x : Nat, (((svL s)[k]?).getD 0).toNat = x := ⟨_, rfl⟩
      have hx32 : x < 4294967296 := by rw [← hx]; exact (((svL s)[k]?).getD 0).isLt
      rw [hx] at hix
      have H4' := Nm.hide (show spl (ouA (outL s) (4 * k)) (4 * k) (bytesV ⟨(bigL x 4).toArray⟩) = ouA (outL s) (4 * (k + 1)) by rw [← hx]; exact H4.out)
      clear hx H4
      have hbb := fun W => bigBytesN_any x 4 W (by omega) (by decide) (by decide)
      have hTr : True := trivial
      obtain ⟨K4, hK4⟩ : ∃ K4, 4 * k = K4 := ⟨_, rfl⟩
      have q0 : IntKind.i64.wrap (4 * (k : Int)) = (K4 : Int) := by rw [Go.wrap_small _ (by omega) (by omega)]; omega
      have qx : IntKind.i64.wrap (x : Int) = (x : Int) := Go.wrap_small _ (by omega) (by omega)
      have z0 : (0 : Int) ≤ (K4 : Int) := by omega
      have z1 : (K4 : Int) ≤ 32 := by omega
      have z2 : (K4 : Int) < 32 := by omega
      rw [hK4] at kk HS H4'
      have HK4 := Nm.hide hK4
      clear hK4
      go_wp2
      refine wp_region_held_drew (S := fun _ => True) (by kernel_rfl) trivial (fun hHeld => ?_)
      refine wpAnyH_take (i := 0) (v := ?_) rfl (by kernel_rfl) (by kernel_rfl) (by kernel_rfl) (fun _ _ _ h => h) (Or.inl ⟨by rfl, ?_⟩) (by assumption) ?_
      rotate_left 1
      · (intro w hSw; go_simp; try (with_reducible rfl))
      refine wpAnyH_take (i := 1) (v := ?_) rfl (by kernel_rfl) (by kernel_rfl) (by kernel_rfl) (fun _ _ _ h => h) (Or.inl ⟨by rfl, ?_⟩) (by assumption) ?_
      rotate_left 1
      · (intro w hSw; go_simp; try (with_reducible rfl))
      refine wpAnyH_take (i := 2) (v := ?_) rfl (by kernel_rfl) (by kernel_rfl) (by kernel_rfl) (fun _ _ _ h => h) (Or.inl ⟨by rfl, ?_⟩) (by assumption) ?_
      rotate_left 1
      · (intro w hSw; go_simp; try (with_reducible rfl))
      refine wpAnyH_take (i := 3) (v := ?_) rfl (by kernel_rfl) (by kernel_rfl) (by kernel_rfl) (fun _ _ _ h => h) (Or.inl ⟨by rfl, ?_⟩) (by assumption) ?_
      rotate_left 1
      · (intro w hSw; go_simp; try (with_reducible rfl))
      refine wpAnyH_take (i := 4) (v := ?_) rfl (by kernel_rfl) (by kernel_rfl) (by kernel_rfl) (fun _ _ _ h => h) (Or.inl ⟨by rfl, ?_⟩) (by assumption) ?_
      rotate_left 1
      · (intro w hSw; go_simp; try (with_reducible rfl))
      refine wpAnyH_ready (rs := [5]) (by kernel_rfl) (by simp) ?_
      refine AllReadyH.cons rfl (fun K hK => ?_) AllReadyH.nil
      go_simp
      refine (hbb _).mono ?_
      rintro e w3 ⟨rfl, hb3⟩
      have hbd : Below wr.heap.size wr w3 := (Below.refl _ wr).drew.trans hb3
      have kk3 := blk_below kk hbd
      have hO3 := hO.more hbd
      rw [if_neg (show ¬ 32 = K4 by omega)]
      go_wp2_with fail
      refine hK.out _ _ trivial (fun _ => ?_)
      clear hK K hb3 hbd
      refine wpAnyH_ready (rs := [6]) (by kernel_rfl) (by simp) ?_
      refine AllReadyH.cons rfl (fun K hK => ?_) AllReadyH.nil
      refine step_copy_str rfl (.tmp 13) (.tmp 16) 22 9 rfl 5 Tryd.underlying22 (by kernel_rfl) (p1 + 2) K4 (32 - K4) (32 - K4) (by go_simp) ⟨(bigL x 4).toArray⟩ (by go_simp) _ _ kk3 (by show 4 ≤ _; have := HK4.out; omega) (by rw [HS.out]; show K4 + 4 ≤ 32; have := HK4.out; omega) ?_
      intro w4 k4 o4
      rw [H4'.out] at k4
      refine hK.out _ _ trivial (fun _ => ?_)
      clear hK K
      have hO4 := hO3.then o4 (.inl rfl)
      clear o4 hO3 kk3
      refine wpAnyH_done (by kernel_rfl) ?_ _
      go_wp2
      go_roundw
      case rel => exact ⟨k + 1, by omega, by go_num, k4, hO4⟩
      case measure => simp [intOf]; omega
    · obtain rfl : k = 8 := by omega
      rw [show ((8 : Nat) : Int) = 8 from rfl]
      rw [show 4 * 8 = 32 from rfl, ouA_byA] at kk
      have b2' := hO.blk b2 (by omega)
      have hinfB : (Tryd.prog.info? 23).map (·.size) = some (byA (outL s)).size := by rw [byA_size]; exact hinf32
      go_wp2_with (first
        | (refine wpList_load_blk (.tmp 3) 23 rfl rfl (p1 + 2) _ _ kk rfl Tryd.underlying23 rfl hinfB ?_)
        | (refine wpList_store_blk (.tmp 2) (.tmp 19) 23 rfl rfl rfl (p1 + 1) _ _ b2' rfl rfl hinfB (by rw [byA_size, outL_len]; simp) (byA_one _) ?_; intro w9 k9 o9))
      have hb := o9.below (hO.below hB (by omega) hsz) (by omega) (Nat.le_trans hsz hO.size)
      exact bodyPost_ret (v := .agg _) (run_results_cell Tryd.results18 rfl k9 Tryd.underlying23 hinfB) rfl ⟨rfl, by rw [HP1.out]; exact hb⟩
end Go.Proofs.YtokegkiddkpedaaDoor
