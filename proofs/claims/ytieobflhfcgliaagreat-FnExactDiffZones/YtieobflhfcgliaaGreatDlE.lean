import Derived.Test.YtieobflhfcgliaaGreatJOnT
/- slices.Delete of a row's end, where the row has no room behind it. -/
namespace Go.Proofs.YtieobflhfcgliaaGreat
open Go.RowKit
set_option linter.unusedVariables false
set_option maxRecDepth 100000 in
set_option maxHeartbeats 3200000 in
theorem deleteRR_end (B g N i : Nat) (xs : List Rr) (w : World) (hx : xs.length = N) (hown : w.ownsRow B 27 5 (.slice (some ⟨g, 0, none⟩) N N) N (rvVs xs)) (hiN : i < N) (hn : N ≤ 1048576) :
 Calls Tryz.prog 92 #[.slice (some ⟨g, 0, none⟩) N N, .int .i64 (i : Int), .int .i64 (N : Int)] w fun e w' => e = .returned (.slice (some ⟨g, 0, none⟩) i N) ∧ w'.ownsRow B 27 5 (.slice (some ⟨g, 0, none⟩) i N) (xs.take i).length (rvVs (xs.take i)) ∧ Only g w w' := by
 obtain ⟨i0, hi, hz0, hz1, hz2⟩ := info_parts Tryz.infoRRc
 rcases hown.2 with ⟨e0, _⟩ | ⟨g', cap', cur, e0, hBg, hh, hnc, hcm, hcs, htk⟩
 · cases e0
 simp only [Value.slice.injEq, Option.some.injEq, Addr.mk.injEq, true_and, and_true] at e0; obtain ⟨rfl, rfl⟩ := e0; have hblk : Blk w g cur 27 := hh
 have hrv : ∀ t : Nat, t < N * 5 → cur[t]? = (rvVs xs)[t]? := by
  intro t ht; rw [← htk, List.getElem?_take_of_lt ht]; simp
 obtain ⟨vs, hvl, hclr⟩ := run_clear_rr w.drew g (i * 5) (N - i) (N - i) (by omega) (fun t ht => by show (w.cell? _).isSome = true; rw [blk_cell hblk]; rw [Array.getElem?_eq_getElem (by omega)]; rfl) (fun t _ => blk_frozen (blk_below hblk (Below.refl _ _).drew) _); obtain ⟨cs2, kb2, sz2, out2, _⟩ := blk_cells vs (i * 5) w.drew cur (blk_below hblk (Below.refl _ _).drew) (by rw [hvl]; omega); have O2 := only_cells vs (i * 5) w w.drew (Only.refl g w).drew
 have HO : Hid ((w.drew.setCells g (i * 5) vs).ownsRow B 27 5 (.slice (some ⟨g, 0, none⟩) i N) (xs.take i).length (rvVs (xs.take i))) := by
  have hlen : (xs.take i).length = i := by rw [List.length_take]; omega
  show World.ownsRow _ _ _ _ _ _ _
  rw [hlen]; refine ⟨by rw [rvVs_len, hlen], .inr ⟨g, N, cs2, rfl, hBg, kb2, by omega, hcm, by omega, ?_⟩⟩; apply List.ext_getElem?; intro t
  by_cases ht : t < i * 5
  · rw [List.getElem?_take_of_lt ht]; rw [show cs2.toList[t]? = cs2[t]? by simp, out2 t (.inl ht), hrv t (by omega)]; have e2 : rvVs xs = rvVs (xs.take i) ++ rvVs (xs.drop i) := by rw [← rvVs_app, List.take_append_drop]
    rw [e2, List.getElem?_append_left (by rw [rvVs_len, hlen]; omega)]
  · rw [List.getElem?_eq_none (by simp; omega), List.getElem?_eq_none (by rw [rvVs_len, hlen]; omega)]
 have HC := Nm.hide hclr; have HO2 := Nm.hide O2; have n1 : (0 : Int) ≤ (i : Int) := by omega
 have n3 : (i : Int) ≤ (N : Int) := by omega
 have n6 : ((i : Int) == (N : Int)) = false := by simp; omega
 have n7 : ¬ N = i := by omega
 have n8 : (0 : Int) ≤ (N : Int) := by omega
 have n9 : ¬ N = 0 := by omega
 have HX := Nm.hide hx; clear hrv hclr O2 kb2 sz2 out2 hvl htk hcs hblk hh hown hnc hx; go_enter Tryz.func92, Tryz.ntmps92; go_wp2; refine wp_region_S (S := fun _ => True) (Ls := []) (by kernel_rfl) trivial (fun hH => ?_); refine wpAnyS_take (i := 0) (v := ?_) rfl (by kernel_rfl) (by kernel_rfl) (by kernel_rfl) (by kernel_rfl) (fun _ _ _ h => h) (Or.inl ⟨by rfl, ?_⟩) trivial ?_; rotate_left 1
 · (intro w hSw; go_simp; try (with_reducible rfl))
 refine wpAnyS_take (i := 1) (v := ?_) rfl (by kernel_rfl) (by kernel_rfl) (by kernel_rfl) (by kernel_rfl) (fun _ _ _ h => h) (Or.inl ⟨by rfl, ?_⟩) trivial ?_; rotate_left 1
 · (intro w hSw; go_simp; try (with_reducible rfl))
 refine wpAnyS_take (i := 2) (v := ?_) rfl (by kernel_rfl) (by kernel_rfl) (by kernel_rfl) (by kernel_rfl) (fun _ _ _ h => h) (Or.inl ⟨by rfl, ?_⟩) trivial ?_; rotate_left 1
 · (intro w hSw; go_simp; try (with_reducible rfl))
 refine wpAnyS_take (i := 3) (v := ?_) rfl (by kernel_rfl) (by kernel_rfl) (by kernel_rfl) (by kernel_rfl) (fun _ _ _ h => h) (Or.inl ⟨by rfl, ?_⟩) trivial ?_; rotate_left 1
 · (intro w hSw; go_simp; try (with_reducible rfl))
 refine wpAnyS_take (i := 4) (v := ?_) rfl (by kernel_rfl) (by kernel_rfl) (by kernel_rfl) (by kernel_rfl) (fun _ _ _ h => h) (Or.inl ⟨by rfl, ?_⟩) trivial ?_; rotate_left 1
 · (intro w hSw; go_simp; try (with_reducible rfl))
 refine wpAnyS_take (i := 5) (v := ?_) rfl (by kernel_rfl) (by kernel_rfl) (by kernel_rfl) (by kernel_rfl) (fun _ _ _ h => h) (Or.inl ⟨by rfl, ?_⟩) trivial ?_; rotate_left 1
 · (intro w hSw; go_simp; try (with_reducible rfl))
 refine wpAnyS_one (i := 6) (by kernel_rfl) rfl (fun K hK' => ?_); refine step_append_room rfl (.tmp 22) (.tmp 25) 28 rfl 27 i0 5 Tryz.underlying28 hi hz1 g 0 i N rfl ⟨g, 0, none⟩ 0 0 [] (by rfl) rfl (fun t u ht => by simp at ht) (fun u hu => by simp at hu) (by omega) (fun t ht => by simp at ht) ?_; refine hK'.out _ _ trivial (fun hH => ?_); clear hK' K; refine wpAnyS_take (i := 7) (v := ?_) rfl (by kernel_rfl) (by kernel_rfl) (by kernel_rfl) (by kernel_rfl) (fun _ _ _ h => h) (Or.inl ⟨by rfl, ?_⟩) trivial ?_; rotate_left 1
 · (intro w hSw; go_simp; try (with_reducible rfl))
 refine wpAnyS_done (by kernel_rfl) ?_; clear hH; have e1 : ∀ o, w.drew.setCells g o [] = w.drew := fun o => rfl
 rw [e1]; go_simp; clear e1; go_upto_region 6 with fail
 go_wp2_with (refine wpList_clear_ran rfl (.tmp 31) 28 rfl _ rfl (HC.out _) ?_)
 go_ret; exact ⟨rfl, HO.out, HO2.out⟩
end Go.Proofs.YtieobflhfcgliaaGreat
