/- The model's lexer: the end of a line. -/
import Derived.Test.YtjbdfooppokonaaDoorSxB
namespace Go.Proofs.YtjbdfooppokonaaDoor
open Go.RowKit
set_option linter.unusedVariables false

/-- A line is put behind the others. -/
theorem XS.end {W W1 : World} {g B : Nat} {s : ByteArray} {x : XB} {ws : List Wd} {ps : List Lp} {v' : Value} (hk0 : Blk W g (xsA s x) 32) (hO : LOwn W (g + 1) x.vo ps) (h1 : g + 1 ≤ B) (h2 : B ≤ W.heap.size) (h3 : W.ownsRow B 62 2 x.u ws.length (wdVs ws)) (h4 : ∀ q ∈ ps, ∀ b, q.2.ownBlock = some b → b < B)
    (ho : W1.ownsRow (g + 1) 30 3 v' (ps.length + 1) (lpVs ps ++ lpV (⟨x.num, x.bl, ws⟩, x.u))) (hg : W.grownBy W1 x.vo.ownBlock) :
    Blk W1 g (xsA s x) 32 ∧ XS ((W1.setCell ⟨g, 8, none⟩ v').setCell ⟨g, 7, none⟩ (.bool true)) g s { x with vo := v', fr := true } ws (ps ++ [(⟨x.num, x.bl, ws⟩, x.u)]) ∧ Below g W ((W1.setCell ⟨g, 8, none⟩ v').setCell ⟨g, 7, none⟩ (.bool true)) := by
  have k1 := blk_grown hk0 hg (own_blkL hO.outer hk0 (by decide))
  have hg2 := gr_trans (gr_set W1 g 8 v') (gr_set _ g 7 (.bool true))
  have o1 : LOwn W1 (g + 1) v' (ps ++ [(⟨x.num, x.bl, ws⟩, x.u)]) := hO.snoc (l := ⟨x.num, x.bl, ws⟩) (own_base h3 h1) (fun q hq b e1 e2 => by
    have := h4 q hq b e1
    have := (h3.lt b e2).1
    omega) ho hg
  have o3 : W1.ownsRow B 62 2 x.u ws.length (wdVs ws) := own_besideL h3 hg (own_kindsL h3 hO.outer (by decide))
  refine ⟨k1, ⟨blk_set (blk_set k1 8 v') 7 (.bool true), ⟨B, h1, Nat.le_trans (Nat.le_trans h2 hg.size) hg2.size, own_grL o3 hg2 h1, fun e => by cases e⟩, o1.beside hg2 (fun k e => by simp at e; omega)⟩, ?_⟩
  exact ⟨hg.os, hg.tape, hg.output, Nat.le_trans hg.size hg2.size, fun k hk => (hg2.block k (by have := blk_lt k1; omega) (by simp; omega)).trans (hg.block k (by have := blk_lt hk0; omega) (fun e1 => by have := (hO.outer.lt k e1.symm).1; omega))⟩

set_option maxRecDepth 100000 in
set_option maxHeartbeats 1600000 in
theorem end_none (g : Nat) (s : ByteArray) (x : XB) (ps : List Lp) (w : World) (h : XS w g s x [] ps) :
    Calls Tryd.prog 11 #[.pointer (some ⟨g, 0, none⟩)] w fun e w' => e = .returned (.tuple #[]) ∧ XS w' g s { x with fr := true } [] ps ∧ Below g w w' := by
  obtain ⟨c0, c1, c2, c3, c4, c5, c6, c7, c8, c9, c10, hf⟩ := h.cells
  obtain ⟨B, h1, h2, h3, h4⟩ := h.row
  obtain ⟨ua, uc, hu⟩ := own_sl h3
  rw [hu] at c6
  have hg := gr_set w g 7 (.bool true)
  have HX := Nm.hide (h.grown (y := { x with fr := true }) hg (blk_set h.k 7 (.bool true)) rfl rfl (fun e => by cases e))
  have HB := Nm.hide (bel_gr hg (Nat.le_refl g) (by have := h.lt; omega))
  simp only [List.length_nil] at c6
  clear h hg h3 h4
  go_enter Tryd.func11, Tryd.ntmps11
  go_wp2
  refine bodyPost_end (v := .tuple #[]) (by simp [results, go_sem]) rfl ⟨rfl, HX.out, HB.out⟩

set_option maxRecDepth 100000 in
set_option maxHeartbeats 1600000 in
theorem end_some (g : Nat) (s : ByteArray) (x : XB) (ws : List Wd) (ps : List Lp) (w : World) (h : XS w g s x ws ps) (hyf : x.fr = false) (hw0 : 0 < ws.length) (hw : ws.length ≤ 300) (hpl : ps.length ≤ 40000) :
    Calls Tryd.prog 11 #[.pointer (some ⟨g, 0, none⟩)] w fun e w' => e = .returned (.tuple #[]) ∧ (∃ v', XS w' g s { x with vo := v', fr := true } ws (ps ++ [(⟨x.num, x.bl, ws⟩, x.u)])) ∧ Below g w w' := by
  obtain ⟨i0, hi, hz0, hz1, hz2⟩ := info_parts Tryd.infoLine
  have hgl := h.lt
  have hx0 := h
  have hg0 := gr_refl w (some g)
  obtain ⟨y, hy⟩ : ∃ y, y = x := ⟨_, rfl⟩
  subst hy
  obtain ⟨c0, c1, c2, c3, c4, c5, c6, c7, c8, c9, c10, hf⟩ := h.cells
  obtain ⟨B, h1, h2, h3, h4⟩ := h.row
  obtain ⟨ua, uc, hu⟩ := own_sl h3
  rw [hu] at c6
  have q1 : (ws.length : Int) ≤ 300 := by omega
  have q2 : 0 < (ws.length : Int) := by omega
  go_enter Tryd.func11, Tryd.ntmps11
  go_wp2
  clear c0 c1 c2 c3 c4 c5 c6 c7 c8 c9 c10 hf h1 h2 h3 h4 hu
  have hxA := hx0.grown (W1 := (w.alloc (.cells #[.int .i64 (y.num : Int), .bool y.bl, y.u] 30)).drew) (y := y) (gr_trans (gr_alloc _) (gr_drew _ g)) (blk_alloc hx0.k _) rfl rfl id
  obtain ⟨B, h1, h2, h3, h4⟩ := hxA.row
  obtain ⟨ua, uc, hu⟩ := own_sl h3
  obtain ⟨va, vc, hv⟩ := own_sl hxA.out.outer
  obtain ⟨c0, c1, c2, c3, c4, c5, c6, c7, c8, c9, c10, hf⟩ := hx0.cells
  rw [hu] at c6
  rw [hv] at c8
  obtain ⟨-, -, -, -, e4, e5, e6, -, e8, -, -, -⟩ := hxA.cells
  have e6' := e6.trans (congrArg some hu)
  have e8' := e8.trans (congrArg some hv)
  clear e6 e8
  refine wp_region_last (fun W => W.cell? ⟨g, 4, none⟩ = some (.int .i64 (y.num : Int)) ∧ W.cell? ⟨g, 5, none⟩ = some (.bool y.bl) ∧ W.cell? ⟨g, 6, none⟩ = some (.slice ua ws.length uc) ∧ W.cell? ⟨g, 8, none⟩ = some (.slice va ps.length vc)) 13 (by kernel_rfl) ⟨c4, c5, c6, c8⟩ (fun hHeld => ?_)
  refine wpAnyL_take (i := 0) (v := ?_) rfl (by kernel_rfl) (by kernel_rfl) (by kernel_rfl) (by kernel_rfl) (fun _ _ _ h => h) (Or.inl ⟨by rfl, ?_⟩) (by assumption) ?_
  rotate_left 1
  · (intro W hSW; go_simp; try (with_reducible rfl))
  refine wpAnyL_take (i := 1) (v := ?_) rfl (by kernel_rfl) (by kernel_rfl) (by kernel_rfl) (by kernel_rfl) (fun _ _ _ h => h) (Or.inl ⟨by rfl, ?_⟩) (by assumption) ?_
  rotate_left 1
  · (intro W hSW; go_simp; try (with_reducible rfl))
  refine wpAnyL_take (i := 2) (v := ?_) rfl (by kernel_rfl) (by kernel_rfl) (by kernel_rfl) (by kernel_rfl) (fun _ _ _ h => h) (Or.inl ⟨by rfl, ?_⟩) (by assumption) ?_
  rotate_left 1
  · (intro W hSW; go_simp; try (with_reducible rfl))
  refine wpAnyL_take (i := 3) (v := ?_) rfl (by kernel_rfl) (by kernel_rfl) (by kernel_rfl) (by kernel_rfl) (fun _ _ _ h => h) (Or.inl ⟨by rfl, ?_⟩) (by assumption) ?_
  rotate_left 1
  · (intro W hSW; go_simp; try (with_reducible rfl))
  refine wpAnyL_take (i := 4) (v := ?_) rfl (by kernel_rfl) (by kernel_rfl) (by kernel_rfl) (by kernel_rfl) (fun _ _ _ h => h) (Or.inl ⟨by rfl, ?_⟩) (by assumption) ?_
  rotate_left 1
  · (intro W hSW; go_simp; try (with_reducible rfl))
  refine wpAnyL_take (i := 5) (v := ?_) rfl (by kernel_rfl) (by kernel_rfl) (by kernel_rfl) (by kernel_rfl) (fun _ _ _ h => h) (Or.inl ⟨by rfl, ?_⟩) (by assumption) ?_
  rotate_left 1
  · (intro W hSW; go_simp; try (with_reducible rfl))
  refine wpAnyL_take (i := 6) (v := ?_) rfl (by kernel_rfl) (by kernel_rfl) (by kernel_rfl) (by kernel_rfl) (fun _ _ _ h => h) (Or.inl ⟨by rfl, ?_⟩) (by assumption) ?_
  rotate_left 1
  · (intro W hSW; go_simp; try (with_reducible rfl))
  refine wpAnyL_take (i := 7) (v := ?_) rfl (by kernel_rfl) (by kernel_rfl) (by kernel_rfl) (by kernel_rfl) (fun _ _ _ h => h) (Or.inl ⟨by rfl, ?_⟩) (by assumption) ?_
  rotate_left 1
  · (intro W hSW; go_simp; try (with_reducible rfl))
  refine wpAnyL_take (i := 8) (v := ?_) rfl (by kernel_rfl) (by kernel_rfl) (by kernel_rfl) (by kernel_rfl) (fun _ _ _ h => h) (Or.inl ⟨by rfl, ?_⟩) (by assumption) ?_
  rotate_left 1
  · (intro W hSW; go_simp; try (with_reducible rfl))
  refine wpAnyL_one (i := 9) (by kernel_rfl) rfl (fun K hK => ?_)
  go_simp
  rw [← hu]
  refine hK.out _ _ ⟨e4, e5, e6', e8'⟩ (fun hH => ?_)
  clear hK K
  refine wpAnyL_one (i := 10) (by kernel_rfl) rfl (fun K hK => ?_)
  refine step_append_own rfl (.tmp 27) (.tmp 32) 22 rfl (g + 1) 30 i0 (.agg #[.int .i64 0, .bool false, .slice none 0 0]) 3 40 Tryd.underlying22 hi hz0 hz1 hz2 rfl (by decide) y.vo ps.length (lpVs ps) (by rw [hv]; rfl) hxA.out.outer ⟨w.heap.size, 0, none⟩ 1 1 [.int .i64 (y.num : Int), .bool y.bl, y.u] rfl rfl (cellL3 w _ _ _ _ _ rfl) (threeL _ _ _ rfl rfl (by rw [hu]; rfl)) (by unfold maxLen; omega) (by omega) (Nat.le_trans h1 h2) ?_
  intro v6 w6 ho6 hg6 hnl6
  clear hnl6
  obtain ⟨a6, c6', rfl⟩ := own_sl ho6
  obtain ⟨k6, hx6, hb6⟩ := XS.end hxA.k hxA.out h1 h2 h3 (h4 hyf) ho6 hg6
  have r4 : w6.cell? ⟨g, 4, none⟩ = some (.int .i64 (y.num : Int)) := blk_cell k6 4
  have r5 : w6.cell? ⟨g, 5, none⟩ = some (.bool y.bl) := blk_cell k6 5
  have r6 : w6.cell? ⟨g, 6, none⟩ = some (.slice ua ws.length uc) := by rw [← hu]; exact blk_cell k6 6
  have r8 : w6.cell? ⟨g, 8, none⟩ = some (.slice va ps.length vc) := by rw [← hv]; exact blk_cell k6 8
  have r7 : w6.cell? ⟨g, 7, none⟩ = some (.bool y.fr) := blk_cell k6 7
  have f6 := fun i => blk_frozen k6 i
  refine hK.out _ _ ⟨r4, r5, r6, r8⟩ (fun hH2 => ?_)
  clear hK K
  refine wpAnyL_one (i := 11) (by kernel_rfl) rfl (fun K hK => ?_)
  go_simp
  refine hK.out _ _ hH2 (fun hH3 => ?_)
  clear hK K
  refine wpAnyL_take (i := 12) (v := ?_) rfl (by kernel_rfl) (by kernel_rfl) (by kernel_rfl) (by kernel_rfl) (fun _ _ _ h => h) (Or.inl ⟨by rfl, ?_⟩) (by assumption) ?_
  rotate_left 1
  · (intro W hSW; go_simp; try (with_reducible rfl))
  refine wpAnyL_end (by kernel_rfl) rfl (by kernel_rfl) (fun K hK => ?_)
  go_simp
  refine hK.out _ _ ?_
  clear hK K
  have hb0 : Below g w (w.alloc (.cells #[.int .i64 (y.num : Int), .bool y.bl, y.u] 30)).drew := bel_gr (gr_trans hg0 (gr_trans (gr_alloc _) (gr_drew _ g))) (Nat.le_refl _) (by omega)
  have hb7 : Below g w ((w6.setCell ⟨g, 8, none⟩ (.slice a6 (ps.length + 1) c6')).setCell ⟨g, 7, none⟩ (.bool true)) := ⟨hb6.os.trans hb0.os, hb6.tape.trans hb0.tape, hb6.output.trans hb0.output, Nat.le_trans hb0.size hb6.size, fun k hk => (hb6.block k hk).trans (hb0.block k hk)⟩
  go_wp2
  refine bodyPost_end (v := .tuple #[]) (by simp [results, go_sem]) rfl ⟨rfl, ⟨_, hx6⟩, hb7⟩

set_option maxRecDepth 100000 in
set_option maxHeartbeats 1600000 in
theorem end_many (g : Nat) (s : ByteArray) (x : XB) (ws : List Wd) (ps : List Lp) (w : World) (h : XS w g s x ws ps) (hxf : x.fr = false) (hco : x.co = 0) (hw : 300 < ws.length) (hpl : ps.length ≤ 40000) :
    Calls Tryd.prog 11 #[.pointer (some ⟨g, 0, none⟩)] w fun e w' => e = .returned (.tuple #[]) ∧ (∃ v' ps', XS w' g s { x with vo := v', fr := true, co := 15, pl := x.num } ws ps') ∧ Below g w w' := by
  obtain ⟨i0, hi, hz0, hz1, hz2⟩ := info_parts Tryd.infoLine
  have hgl := h.lt
  have hfa := l05Fail_any g s x ws ps 15 x.num w h hco
  obtain ⟨c0, c1, c2, c3, c4, c5, c6, c7, c8, c9, c10, hf⟩ := h.cells
  obtain ⟨B, h1, h2, h3, h4⟩ := h.row
  obtain ⟨ua, uc, hu⟩ := own_sl h3
  rw [hu] at c6
  have q1 : 300 < (ws.length : Int) := by omega
  have q2 : 0 < (ws.length : Int) := by omega
  go_enter Tryd.func11, Tryd.ntmps11
  go_wp2_with (go_at_call 10; refine hfa.mono ?_; rintro e W0 ⟨rfl, hx0, hg0⟩; have e6 := hx0.cells.2.2.2.2.2.2.1; simp only at e6; rw [hu] at e6)
  clear c0 c1 c2 c3 c4 c5 c6 c7 c8 c9 c10 hf h1 h2 h3 h4 hu e6
  obtain ⟨y, hy⟩ : ∃ y : XB, y = { x with co := 15, pl := x.num } := ⟨_, rfl⟩
  rw [← hy] at hx0
  have hyf : y.fr = false := by rw [hy]; exact hxf
  have HY := Nm.hide hy
  clear hy
  have hxA := hx0.grown (W1 := (W0.alloc (.cells #[.int .i64 (y.num : Int), .bool y.bl, y.u] 30)).drew) (y := y) (gr_trans (gr_alloc _) (gr_drew _ g)) (blk_alloc hx0.k _) rfl rfl id
  obtain ⟨B, h1, h2, h3, h4⟩ := hxA.row
  obtain ⟨ua, uc, hu⟩ := own_sl h3
  obtain ⟨va, vc, hv⟩ := own_sl hxA.out.outer
  obtain ⟨c0, c1, c2, c3, c4, c5, c6, c7, c8, c9, c10, hf⟩ := hx0.cells
  rw [hu] at c6
  rw [hv] at c8
  obtain ⟨-, -, -, -, e4, e5, e6, -, e8, -, -, -⟩ := hxA.cells
  have e6' := e6.trans (congrArg some hu)
  have e8' := e8.trans (congrArg some hv)
  clear e6 e8
  refine wp_region_last (fun W => W.cell? ⟨g, 4, none⟩ = some (.int .i64 (y.num : Int)) ∧ W.cell? ⟨g, 5, none⟩ = some (.bool y.bl) ∧ W.cell? ⟨g, 6, none⟩ = some (.slice ua ws.length uc) ∧ W.cell? ⟨g, 8, none⟩ = some (.slice va ps.length vc)) 13 (by kernel_rfl) ⟨c4, c5, c6, c8⟩ (fun hHeld => ?_)
  refine wpAnyL_take (i := 0) (v := ?_) rfl (by kernel_rfl) (by kernel_rfl) (by kernel_rfl) (by kernel_rfl) (fun _ _ _ h => h) (Or.inl ⟨by rfl, ?_⟩) (by assumption) ?_
  rotate_left 1
  · (intro W hSW; go_simp; try (with_reducible rfl))
  refine wpAnyL_take (i := 1) (v := ?_) rfl (by kernel_rfl) (by kernel_rfl) (by kernel_rfl) (by kernel_rfl) (fun _ _ _ h => h) (Or.inl ⟨by rfl, ?_⟩) (by assumption) ?_
  rotate_left 1
  · (intro W hSW; go_simp; try (with_reducible rfl))
  refine wpAnyL_take (i := 2) (v := ?_) rfl (by kernel_rfl) (by kernel_rfl) (by kernel_rfl) (by kernel_rfl) (fun _ _ _ h => h) (Or.inl ⟨by rfl, ?_⟩) (by assumption) ?_
  rotate_left 1
  · (intro W hSW; go_simp; try (with_reducible rfl))
  refine wpAnyL_take (i := 3) (v := ?_) rfl (by kernel_rfl) (by kernel_rfl) (by kernel_rfl) (by kernel_rfl) (fun _ _ _ h => h) (Or.inl ⟨by rfl, ?_⟩) (by assumption) ?_
  rotate_left 1
  · (intro W hSW; go_simp; try (with_reducible rfl))
  refine wpAnyL_take (i := 4) (v := ?_) rfl (by kernel_rfl) (by kernel_rfl) (by kernel_rfl) (by kernel_rfl) (fun _ _ _ h => h) (Or.inl ⟨by rfl, ?_⟩) (by assumption) ?_
  rotate_left 1
  · (intro W hSW; go_simp; try (with_reducible rfl))
  refine wpAnyL_take (i := 5) (v := ?_) rfl (by kernel_rfl) (by kernel_rfl) (by kernel_rfl) (by kernel_rfl) (fun _ _ _ h => h) (Or.inl ⟨by rfl, ?_⟩) (by assumption) ?_
  rotate_left 1
  · (intro W hSW; go_simp; try (with_reducible rfl))
  refine wpAnyL_take (i := 6) (v := ?_) rfl (by kernel_rfl) (by kernel_rfl) (by kernel_rfl) (by kernel_rfl) (fun _ _ _ h => h) (Or.inl ⟨by rfl, ?_⟩) (by assumption) ?_
  rotate_left 1
  · (intro W hSW; go_simp; try (with_reducible rfl))
  refine wpAnyL_take (i := 7) (v := ?_) rfl (by kernel_rfl) (by kernel_rfl) (by kernel_rfl) (by kernel_rfl) (fun _ _ _ h => h) (Or.inl ⟨by rfl, ?_⟩) (by assumption) ?_
  rotate_left 1
  · (intro W hSW; go_simp; try (with_reducible rfl))
  refine wpAnyL_take (i := 8) (v := ?_) rfl (by kernel_rfl) (by kernel_rfl) (by kernel_rfl) (by kernel_rfl) (fun _ _ _ h => h) (Or.inl ⟨by rfl, ?_⟩) (by assumption) ?_
  rotate_left 1
  · (intro W hSW; go_simp; try (with_reducible rfl))
  refine wpAnyL_one (i := 9) (by kernel_rfl) rfl (fun K hK => ?_)
  go_simp
  rw [← hu]
  refine hK.out _ _ ⟨e4, e5, e6', e8'⟩ (fun hH => ?_)
  clear hK K
  refine wpAnyL_one (i := 10) (by kernel_rfl) rfl (fun K hK => ?_)
  refine step_append_own rfl (.tmp 27) (.tmp 32) 22 rfl (g + 1) 30 i0 (.agg #[.int .i64 0, .bool false, .slice none 0 0]) 3 40 Tryd.underlying22 hi hz0 hz1 hz2 rfl (by decide) y.vo ps.length (lpVs ps) (by rw [hv]; rfl) hxA.out.outer ⟨W0.heap.size, 0, none⟩ 1 1 [.int .i64 (y.num : Int), .bool y.bl, y.u] rfl rfl (cellL3 W0 _ _ _ _ _ rfl) (threeL _ _ _ rfl rfl (by rw [hu]; rfl)) (by unfold maxLen; omega) (by omega) (Nat.le_trans h1 h2) ?_
  intro v6 w6 ho6 hg6 hnl6
  clear hnl6
  obtain ⟨a6, c6', rfl⟩ := own_sl ho6
  obtain ⟨k6, hx6, hb6⟩ := XS.end hxA.k hxA.out h1 h2 h3 (h4 hyf) ho6 hg6
  have r4 : w6.cell? ⟨g, 4, none⟩ = some (.int .i64 (y.num : Int)) := blk_cell k6 4
  have r5 : w6.cell? ⟨g, 5, none⟩ = some (.bool y.bl) := blk_cell k6 5
  have r6 : w6.cell? ⟨g, 6, none⟩ = some (.slice ua ws.length uc) := by rw [← hu]; exact blk_cell k6 6
  have r8 : w6.cell? ⟨g, 8, none⟩ = some (.slice va ps.length vc) := by rw [← hv]; exact blk_cell k6 8
  have r7 : w6.cell? ⟨g, 7, none⟩ = some (.bool y.fr) := blk_cell k6 7
  have f6 := fun i => blk_frozen k6 i
  refine hK.out _ _ ⟨r4, r5, r6, r8⟩ (fun hH2 => ?_)
  clear hK K
  refine wpAnyL_one (i := 11) (by kernel_rfl) rfl (fun K hK => ?_)
  go_simp
  refine hK.out _ _ hH2 (fun hH3 => ?_)
  clear hK K
  refine wpAnyL_take (i := 12) (v := ?_) rfl (by kernel_rfl) (by kernel_rfl) (by kernel_rfl) (by kernel_rfl) (fun _ _ _ h => h) (Or.inl ⟨by rfl, ?_⟩) (by assumption) ?_
  rotate_left 1
  · (intro W hSW; go_simp; try (with_reducible rfl))
  refine wpAnyL_end (by kernel_rfl) rfl (by kernel_rfl) (fun K hK => ?_)
  go_simp
  refine hK.out _ _ ?_
  clear hK K
  have hb0 : Below g w (W0.alloc (.cells #[.int .i64 (y.num : Int), .bool y.bl, y.u] 30)).drew := bel_gr (gr_trans hg0 (gr_trans (gr_alloc _) (gr_drew _ g))) (Nat.le_refl _) (by omega)
  have hb7 : Below g w ((w6.setCell ⟨g, 8, none⟩ (.slice a6 (ps.length + 1) c6')).setCell ⟨g, 7, none⟩ (.bool true)) := ⟨hb6.os.trans hb0.os, hb6.tape.trans hb0.tape, hb6.output.trans hb0.output, Nat.le_trans hb0.size hb6.size, fun k hk => (hb6.block k hk).trans (hb0.block k hk)⟩
  go_wp2
  have e9 := HY.out
  subst e9
  refine bodyPost_end (v := .tuple #[]) (by simp [results, go_sem]) rfl ⟨rfl, ⟨_, _, hx6⟩, hb7⟩
end Go.Proofs.YtjbdfooppokonaaDoor
