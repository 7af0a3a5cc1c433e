import Derived.Test.YtddabafaejahbaaGreatDoorSxB
import Derived.Test.YtddabafaejahbaaGreatDoorJSmD
import Derived.Test.YtddabafaejahbaaGreatDoorSxP
import Derived.Test.YtddabafaejahbaaGreatDoorSxQ
/- The model's lexer: the end of a line. -/
namespace Go.Proofs.YtddabafaejahbaaGreatDoor
open Go.RowKit
set_option linter.unusedVariables false
/-- A line is put behind the others. -/
theorem XS.end {W W1 : World} {g B : Nat} {s : ByteArray} {x : XB} {ws : List Wrd} {ps : List Lp} {v' : Value} (hk0 : Blk W g (xsA s x) 121) (hO : LOwn W (g + 1) x.vo ps) (h1 : g + 1 ≤ B) (h2 : B ≤ W.heap.size) (h3 : W.ownsRow B 40 2 x.u ws.length (wdVs ws)) (h4 : ∀ q ∈ ps, ∀ b, q.2.ownBlock = some b → b < B)
 (ho : W1.ownsRow (g + 1) 64 3 v' (ps.length + 1) (lpVs ps ++ lpV (⟨x.num, x.bl, ws⟩, x.u))) (hg : W.grownBy W1 x.vo.ownBlock) :
 Blk W1 g (xsA s x) 121 ∧ XS ((W1.setCell ⟨g, 8, none⟩ v').setCell ⟨g, 7, none⟩ (.bool true)) g s { x with vo := v', fr := true } ws (ps ++ [(⟨x.num, x.bl, ws⟩, x.u)]) ∧ Below g W ((W1.setCell ⟨g, 8, none⟩ v').setCell ⟨g, 7, none⟩ (.bool true)) := by
 have k1 := blk_grown hk0 hg (own_blkL hO.outer hk0 (by decide)); have hg2 := gr_trans (gr_set W1 g 8 v') (gr_set _ g 7 (.bool true))
 have o1 : LOwn W1 (g + 1) v' (ps ++ [(⟨x.num, x.bl, ws⟩, x.u)]) := hO.snoc (l := ⟨x.num, x.bl, ws⟩) (own_base h3 h1) (fun q hq b e1 e2 => by
  have := h4 q hq b e1; have := (h3.lt b e2).1
  omega) ho hg
 have o3 : W1.ownsRow B 40 2 x.u ws.length (wdVs ws) := own_besideL h3 hg (own_kindsL h3 hO.outer (by decide)); refine ⟨k1, ⟨blk_set (blk_set k1 8 v') 7 (.bool true), ⟨B, h1, Nat.le_trans (Nat.le_trans h2 hg.size) hg2.size, own_grL o3 hg2 h1, fun e => by cases e⟩, o1.beside hg2 (fun k e => by simp at e; omega)⟩, ?_⟩; exact ⟨hg.os, hg.tape, hg.output, Nat.le_trans hg.size hg2.size, fun k hk => (hg2.block k (by have := blk_lt k1; omega) (by simp; omega)).trans (hg.block k (by have := blk_lt hk0; omega) (fun e1 => by have := (hO.outer.lt k e1.symm).1; omega))⟩
set_option maxRecDepth 100000 in
set_option maxHeartbeats 1600000 in
theorem end_none (g : Nat) (s : ByteArray) (x : XB) (ps : List Lp) (w : World) (h : XS w g s x [] ps) :
 Calls Tryz.prog 74 #[.pointer (some ⟨g, 0, none⟩)] w fun e w' => e = .returned (.tuple #[]) ∧ XS w' g s { x with fr := true } [] ps ∧ Below g w w' := by
 obtain ⟨c0, c1, c2, c3, c4, c5, c6, c7, c8, c9, c10, hf⟩ := h.cells; obtain ⟨B, h1, h2, h3, h4⟩ := h.row; obtain ⟨ua, uc, hu⟩ := own_sl h3; rw [hu] at c6; have hg := gr_set w g 7 (.bool true); have HX := Nm.hide (h.grown (y := { x with fr := true }) hg (blk_set h.k 7 (.bool true)) rfl rfl (fun e => by cases e)); have HB := Nm.hide (bel_gr hg (Nat.le_refl g) (by have := h.lt; omega)); simp only [List.length_nil] at c6; clear h hg h3 h4; go_enter Tryz.func74, Tryz.ntmps74; go_wp2; refine bodyPost_end (v := .tuple #[]) (by simp [results, go_sem]) rfl ⟨rfl, HX.out, HB.out⟩
set_option maxRecDepth 100000 in
set_option maxHeartbeats 1600000 in
theorem end_some (g : Nat) (s : ByteArray) (x : XB) (ws : List Wrd) (ps : List Lp) (w : World) (h : XS w g s x ws ps) (hyf : x.fr = false) (hw0 : 0 < ws.length) (hw : ws.length ≤ 300) (hpl : ps.length ≤ 40000) :
 Calls Tryz.prog 74 #[.pointer (some ⟨g, 0, none⟩)] w fun e w' => e = .returned (.tuple #[]) ∧ (∃ v', XS w' g s { x with vo := v', fr := true } ws (ps ++ [(⟨x.num, x.bl, ws⟩, x.u)])) ∧ Below g w w' := by
 obtain ⟨i0, hi, hz0, hz1, hz2⟩ := info_parts Tryz.infoLine; have hgl := h.lt; have hx0 := h; have hg0 := gr_refl w (some g); obtain ⟨y, hy⟩ : ∃ y, y = x := ⟨_, rfl⟩; subst hy; obtain ⟨c0, c1, c2, c3, c4, c5, c6, c7, c8, c9, c10, hf⟩ := h.cells; obtain ⟨B, h1, h2, h3, h4⟩ := h.row; obtain ⟨ua, uc, hu⟩ := own_sl h3; rw [hu] at c6; have q1 : (ws.length : Int) ≤ 300 := by omega
 have q2 : 0 < (ws.length : Int) := by omega
 go_enter Tryz.func74, Tryz.ntmps74; go_wp2; clear c0 c1 c2 c3 c4 c5 c6 c7 c8 c9 c10 hf h1 h2 h3 h4 hu; have hxA := hx0.grown (W1 := (w.alloc (.cells #[.int .i64 (y.num : Int), .bool y.bl, y.u] 64)).drew) (y := y) (gr_trans (gr_alloc _) (gr_drew _ g)) (blk_alloc hx0.k _) rfl rfl id; obtain ⟨B, h1, h2, h3, h4⟩ := hxA.row; obtain ⟨ua, uc, hu⟩ := own_sl h3; obtain ⟨va, vc, hv⟩ := own_sl hxA.out.outer; obtain ⟨c0, c1, c2, c3, c4, c5, c6, c7, c8, c9, c10, hf⟩ := hx0.cells; rw [hu] at c6; rw [hv] at c8; obtain ⟨-, -, -, -, e4, e5, e6, -, e8, -, -, -⟩ := hxA.cells; have e6' := e6.trans (congrArg some hu); have e8' := e8.trans (congrArg some hv); clear e6 e8; refine wp_region_last (fun W => W.cell? ⟨g, 4, none⟩ = some (.int .i64 (y.num : Int)) ∧ W.cell? ⟨g, 5, none⟩ = some (.bool y.bl) ∧ W.cell? ⟨g, 6, none⟩ = some (.slice ua ws.length uc) ∧ W.cell? ⟨g, 8, none⟩ = some (.slice va ps.length vc)) 13 (by kernel_rfl) ⟨c4, c5, c6, c8⟩ (fun hHeld => ?_); refine tkA 0 rfl ?_; refine tkA 1 rfl ?_; refine tkA 2 rfl ?_; refine tkA 3 rfl ?_; refine tkA 4 rfl ?_; refine tkA 5 rfl ?_; refine tkA 6 rfl ?_; refine tkA 7 rfl ?_; refine tkA 8 rfl ?_; refine wpAnyL_one (i := 9) (by kernel_rfl) rfl (fun K hK => ?_); go_simp; rw [← hu]; refine hK.out _ _ ⟨e4, e5, e6', e8'⟩ (fun hH => ?_); clear hK K; refine wpAnyL_one (i := 10) (by kernel_rfl) rfl (fun K hK => ?_); refine step_append_own rfl (.tmp 27) (.tmp 32) 58 rfl (g + 1) 64 i0 (.agg #[.int .i64 0, .bool false, .slice none 0 0]) 3 40 Tryz.underlying58 hi hz0 hz1 hz2 rfl (by decide) y.vo ps.length (lpVs ps) (by rw [hv]; rfl) hxA.out.outer ⟨w.heap.size, 0, none⟩ 1 1 [.int .i64 (y.num : Int), .bool y.bl, y.u] rfl rfl (cellL3 w _ _ _ _ _ rfl) (threeL _ _ _ rfl rfl (by rw [hu]; rfl)) (by unfold maxLen; omega) (by omega) (Nat.le_trans h1 h2) ?_; intro v6 w6 ho6 hg6 hnl6; clear hnl6; obtain ⟨a6, c6', rfl⟩ := own_sl ho6; obtain ⟨k6, hx6, hb6⟩ := XS.end hxA.k hxA.out h1 h2 h3 (h4 hyf) ho6 hg6; have r4 : w6.cell? ⟨g, 4, none⟩ = some (.int .i64 (y.num : Int)) := blk_cell k6 4; have r5 : w6.cell? ⟨g, 5, none⟩ = some (.bool y.bl) := blk_cell k6 5; have r6 : w6.cell? ⟨g, 6, none⟩ = some (.slice ua ws.length uc) := by rw [← hu]; exact blk_cell k6 6
 have r8 : w6.cell? ⟨g, 8, none⟩ = some (.slice va ps.length vc) := by rw [← hv]; exact blk_cell k6 8
 have r7 : w6.cell? ⟨g, 7, none⟩ = some (.bool y.fr) := blk_cell k6 7; have f6 := fun i => blk_frozen k6 i
 refine hK.out _ _ ⟨r4, r5, r6, r8⟩ (fun hH2 => ?_); clear hK K; refine wpAnyL_one (i := 11) (by kernel_rfl) rfl (fun K hK => ?_); go_simp; refine hK.out _ _ hH2 (fun hH3 => ?_); clear hK K; refine tkA 12 rfl ?_; refine wpAnyL_end (by kernel_rfl) rfl (by kernel_rfl) (fun K hK => ?_); go_simp; refine hK.out _ _ ?_; clear hK K; have hb0 : Below g w (w.alloc (.cells #[.int .i64 (y.num : Int), .bool y.bl, y.u] 64)).drew := bel_gr (gr_trans hg0 (gr_trans (gr_alloc _) (gr_drew _ g))) (Nat.le_refl _) (by omega); have hb7 : Below g w ((w6.setCell ⟨g, 8, none⟩ (.slice a6 (ps.length + 1) c6')).setCell ⟨g, 7, none⟩ (.bool true)) := ⟨hb6.os.trans hb0.os, hb6.tape.trans hb0.tape, hb6.output.trans hb0.output, Nat.le_trans hb0.size hb6.size, fun k hk => (hb6.block k hk).trans (hb0.block k hk)⟩; go_wp2; refine bodyPost_end (v := .tuple #[]) (by simp [results, go_sem]) rfl ⟨rfl, ⟨_, hx6⟩, hb7⟩
set_option maxRecDepth 100000 in
set_option maxHeartbeats 1600000 in
theorem end_many (g : Nat) (s : ByteArray) (x : XB) (ws : List Wrd) (ps : List Lp) (w : World) (h : XS w g s x ws ps) (hxf : x.fr = false) (hco : x.co = 0) (hw : 300 < ws.length) (hpl : ps.length ≤ 40000) :
 Calls Tryz.prog 74 #[.pointer (some ⟨g, 0, none⟩)] w fun e w' => e = .returned (.tuple #[]) ∧ (∃ v' ps', XS w' g s { x with vo := v', fr := true, co := 15, pl := x.num } ws ps') ∧ Below g w w' := by
 obtain ⟨i0, hi, hz0, hz1, hz2⟩ := info_parts Tryz.infoLine; have hgl := h.lt; have hfa := l05Fail_any g s x ws ps 15 x.num w h hco; obtain ⟨c0, c1, c2, c3, c4, c5, c6, c7, c8, c9, c10, hf⟩ := h.cells; obtain ⟨B, h1, h2, h3, h4⟩ := h.row; obtain ⟨ua, uc, hu⟩ := own_sl h3; rw [hu] at c6; have q1 : 300 < (ws.length : Int) := by omega
 have q2 : 0 < (ws.length : Int) := by omega
 go_enter Tryz.func74, Tryz.ntmps74; go_wp2_with (go_at_call 73; refine hfa.mono ?_; rintro e W0 ⟨rfl, hx0, hg0⟩; have e6 := hx0.cells.2.2.2.2.2.2.1; simp only at e6; rw [hu] at e6)
 clear c0 c1 c2 c3 c4 c5 c6 c7 c8 c9 c10 hf h1 h2 h3 h4 hu e6; obtain ⟨y, hy⟩ : ∃ y : XB, y = { x with co := 15, pl := x.num } := ⟨_, rfl⟩; rw [← hy] at hx0; have hyf : y.fr = false := by rw [hy]; exact hxf
 have HY := Nm.hide hy; clear hy; have hxA := hx0.grown (W1 := (W0.alloc (.cells #[.int .i64 (y.num : Int), .bool y.bl, y.u] 64)).drew) (y := y) (gr_trans (gr_alloc _) (gr_drew _ g)) (blk_alloc hx0.k _) rfl rfl id; obtain ⟨B, h1, h2, h3, h4⟩ := hxA.row; obtain ⟨ua, uc, hu⟩ := own_sl h3; obtain ⟨va, vc, hv⟩ := own_sl hxA.out.outer; obtain ⟨c0, c1, c2, c3, c4, c5, c6, c7, c8, c9, c10, hf⟩ := hx0.cells; rw [hu] at c6; rw [hv] at c8; obtain ⟨-, -, -, -, e4, e5, e6, -, e8, -, -, -⟩ := hxA.cells; have e6' := e6.trans (congrArg some hu); have e8' := e8.trans (congrArg some hv); clear e6 e8; refine wp_region_last (fun W => W.cell? ⟨g, 4, none⟩ = some (.int .i64 (y.num : Int)) ∧ W.cell? ⟨g, 5, none⟩ = some (.bool y.bl) ∧ W.cell? ⟨g, 6, none⟩ = some (.slice ua ws.length uc) ∧ W.cell? ⟨g, 8, none⟩ = some (.slice va ps.length vc)) 13 (by kernel_rfl) ⟨c4, c5, c6, c8⟩ (fun hHeld => ?_); refine tkA 0 rfl ?_; refine tkA 1 rfl ?_; refine tkA 2 rfl ?_; refine tkA 3 rfl ?_; refine tkA 4 rfl ?_; refine tkA 5 rfl ?_; refine tkA 6 rfl ?_; refine tkA 7 rfl ?_; refine tkA 8 rfl ?_; refine wpAnyL_one (i := 9) (by kernel_rfl) rfl (fun K hK => ?_); go_simp; rw [← hu]; refine hK.out _ _ ⟨e4, e5, e6', e8'⟩ (fun hH => ?_); clear hK K; refine wpAnyL_one (i := 10) (by kernel_rfl) rfl (fun K hK => ?_); refine step_append_own rfl (.tmp 27) (.tmp 32) 58 rfl (g + 1) 64 i0 (.agg #[.int .i64 0, .bool false, .slice none 0 0]) 3 40 Tryz.underlying58 hi hz0 hz1 hz2 rfl (by decide) y.vo ps.length (lpVs ps) (by rw [hv]; rfl) hxA.out.outer ⟨W0.heap.size, 0, none⟩ 1 1 [.int .i64 (y.num : Int), .bool y.bl, y.u] rfl rfl (cellL3 W0 _ _ _ _ _ rfl) (threeL _ _ _ rfl rfl (by rw [hu]; rfl)) (by unfold maxLen; omega) (by omega) (Nat.le_trans h1 h2) ?_; intro v6 w6 ho6 hg6 hnl6; clear hnl6; obtain ⟨a6, c6', rfl⟩ := own_sl ho6; obtain ⟨k6, hx6, hb6⟩ := XS.end hxA.k hxA.out h1 h2 h3 (h4 hyf) ho6 hg6; have r4 : w6.cell? ⟨g, 4, none⟩ = some (.int .i64 (y.num : Int)) := blk_cell k6 4; have r5 : w6.cell? ⟨g, 5, none⟩ = some (.bool y.bl) := blk_cell k6 5; have r6 : w6.cell? ⟨g, 6, none⟩ = some (.slice ua ws.length uc) := by rw [← hu]; exact blk_cell k6 6
 have r8 : w6.cell? ⟨g, 8, none⟩ = some (.slice va ps.length vc) := by rw [← hv]; exact blk_cell k6 8
 have r7 : w6.cell? ⟨g, 7, none⟩ = some (.bool y.fr) := blk_cell k6 7; have f6 := fun i => blk_frozen k6 i
 refine hK.out _ _ ⟨r4, r5, r6, r8⟩ (fun hH2 => ?_); clear hK K; refine wpAnyL_one (i := 11) (by kernel_rfl) rfl (fun K hK => ?_); go_simp; refine hK.out _ _ hH2 (fun hH3 => ?_); clear hK K; refine tkA 12 rfl ?_; refine wpAnyL_end (by kernel_rfl) rfl (by kernel_rfl) (fun K hK => ?_); go_simp; refine hK.out _ _ ?_; clear hK K; have hb0 : Below g w (W0.alloc (.cells #[.int .i64 (y.num : Int), .bool y.bl, y.u] 64)).drew := bel_gr (gr_trans hg0 (gr_trans (gr_alloc _) (gr_drew _ g))) (Nat.le_refl _) (by omega); have hb7 : Below g w ((w6.setCell ⟨g, 8, none⟩ (.slice a6 (ps.length + 1) c6')).setCell ⟨g, 7, none⟩ (.bool true)) := ⟨hb6.os.trans hb0.os, hb6.tape.trans hb0.tape, hb6.output.trans hb0.output, Nat.le_trans hb0.size hb6.size, fun k hk => (hb6.block k hk).trans (hb0.block k hk)⟩; go_wp2; have e9 := HY.out; subst e9; refine bodyPost_end (v := .tuple #[]) (by simp [results, go_sem]) rfl ⟨rfl, ⟨_, _, hx6⟩, hb7⟩
theorem bel_two {B : Nat} {w W W1 : World} (h : Below B w W) (h1 : Below B W W1) : Below B w W1 :=
 ⟨h1.os.trans h.os, h1.tape.trans h.tape, h1.output.trans h.output, Nat.le_trans h.size h1.size, fun k hk => (h1.block k hk).trans (h.block k hk)⟩
def StP (g : Nat) (s : ByteArray) (p : Nat) (T : LsR) (w : World) (e : Ending) (w' : World) : Prop :=
 e = .returned (.tuple #[]) ∧ ∃ x ws ps, XS w' g s x ws ps ∧ Below g w w' ∧ totX s x ws (ps.map (·.1)) = T ∧ GdX s x ws ps ∧ (x.co = 0 → p < x.p)
set_option maxRecDepth 100000 in
set_option maxHeartbeats 6400000 in
theorem step_line (g : Nat) (s : ByteArray) (x : XB) (ws : List Wrd) (ps : List Lp) (w : World) (h : XS w g s x ws ps) (hco : x.co = 0) (hlt : x.p < s.size) (hs : s.size ≤ 40000) (hG : GdX s x ws ps) (hfr : x.fr = false) :
 Calls Tryz.prog 72 #[.pointer (some ⟨g, 0, none⟩)] w (StP g s x.p (totX s x ws (ps.map (·.1))) w) := by
 obtain ⟨G1, G2, -, G4⟩ := hG hco; obtain ⟨hw1, hw2⟩ := G4 hfr; obtain ⟨T, HT⟩ : ∃ T, Hid (totX s x ws (ps.map (·.1)) = T) := ⟨_, rfl⟩; rw [HT.out]; obtain ⟨c0, c1, c2, c3, c4, c5, c6, c7, c8, c9, c10, hf⟩ := h.cells; have hg2 : g ≤ w.heap.size := by have := h.lt; omega
 go_enter Tryz.func72, Tryz.ntmps72; go_wp2; go_quiet (fail)
 have hy := h.drewN nq; have hb0 : Below g w (w.drewN nq) := bel_gr (gr_drewN w g nq) (Nat.le_refl g) hg2; clear c0 c1 c2 c3 c4 c5 c6 c7 c8 c9 c10 hf h hG G4; generalize w.drewN nq = W0 at *; obtain ⟨y, rfl⟩ : ∃ y, y = x := ⟨x, rfl⟩; obtain ⟨wsy, rfl⟩ : ∃ wsy, wsy = ws := ⟨ws, rfl⟩; have hyf := hfr; have hyc := hco; clear hfr hco; obtain ⟨c0, c1, c2, c3, c4, c5, c6, c7, c8, c9, c10, hf⟩ := hy.cells; rw [hyf] at c7; have hib := fun W => l05Blank_any s[y.p] W
 have hHT := HT.out; rw [totX_line hyc hyf] at hHT; have hgl := hy.lt; have wq : (y.p : Int) + 1 ≤ 40001 := by omega
 have hy1 := hy.at (y.p + 1); have hgy1 := gr_set W0 g 1 (.int .i64 ((y.p + 1 : Nat) : Int)); have hby1 := bel_two hb0 (bel_gr hgy1 (Nat.le_refl g) (by omega))
 by_cases h10 : s[y.p] = 10
 · have d10 : (s[y.p].toNat : Int) = 10 := by rw [h10]; rfl
   by_cases ho : y.o = 0
   · rw [ho] at c3 hHT; rw [lnF_fin hlt h10] at hHT
     rcases Nat.eq_zero_or_pos wsy.length with hw0 | hw0
     · have e0 : wsy = [] := List.length_eq_zero_iff.1 hw0; subst e0; have hen := end_none g s _ ps _ hy1; simp only [Int.natCast_add, Int.natCast_one] at hen; clear h10; go_wp2_with (go_at_call 74; refine hen.mono ?_; rintro e w2 ⟨rfl, hx2, hb2⟩; have r22 := hx2.cells.2.2.1; have f22 := hx2.cells.2.2.2.2.2.2.2.2.2.2.2; simp only at r22)
       have hx3 := hx2.grown (y := { y with p := y.p + 1, fr := true, n := y.n + 1 }) (gr_set w2 g 2 (.int .i64 ((y.n + 1 : Nat) : Int))) (blk_set hx2.k 2 (.int .i64 ((y.n + 1 : Nat) : Int))) rfl rfl id; have hb3 := bel_two (bel_two hby1 hb2) (bel_gr (gr_set w2 g 2 (.int .i64 ((y.n + 1 : Nat) : Int))) (Nat.le_refl g) (by have := hx2.lt; omega)); refine bodyPost_end (v := .tuple #[]) (by simp [results, go_sem]) rfl ⟨rfl, ?_⟩; refine ⟨_, [], ps, hx3, hb3, ?_, ?_, ?_⟩
       · refine Eq.trans (totX_new (by exact hyc) (by rfl)) ?_; rw [← hHT] <;> rfl
       · intro _; exact ⟨(by simp only; omega), (by simp only; omega), (fun _ => ⟨ho, (by simp only; omega)⟩), (fun h => absurd h (by simp))⟩
       · intro _; simp only
         omega
     · by_cases hw3 : wsy.length ≤ 300
       · have hen := end_some g s _ wsy ps _ hy1 hyf hw0 hw3 (by omega); simp only [Int.natCast_add, Int.natCast_one] at hen; clear h10; go_wp2_with (go_at_call 74; refine hen.mono ?_; rintro e w2 ⟨rfl, ⟨v2, hx2⟩, hb2⟩; have r22 := hx2.cells.2.2.1; have f22 := hx2.cells.2.2.2.2.2.2.2.2.2.2.2; simp only at r22)
         have hx3 := hx2.grown (y := { y with p := y.p + 1, vo := v2, fr := true, n := y.n + 1 }) (gr_set w2 g 2 (.int .i64 ((y.n + 1 : Nat) : Int))) (blk_set hx2.k 2 (.int .i64 ((y.n + 1 : Nat) : Int))) rfl rfl id; have hb3 := bel_two (bel_two hby1 hb2) (bel_gr (gr_set w2 g 2 (.int .i64 ((y.n + 1 : Nat) : Int))) (Nat.le_refl g) (by have := hx2.lt; omega)); refine bodyPost_end (v := .tuple #[]) (by simp [results, go_sem]) rfl ⟨rfl, ?_⟩; refine ⟨_, wsy, _, hx3, hb3, ?_, ?_, ?_⟩
         · refine Eq.trans (totX_new (by exact hyc) (by rfl)) ?_; rw [← hHT, finL, if_neg (by omega)]; simp only [contL, if_neg (show ¬ wsy.length = 0 by omega), List.map_append]; rfl
         · intro _; exact ⟨(by simp only; omega), (by simp only; omega), (fun _ => ⟨ho, (by simp; omega)⟩), (fun h => absurd h (by simp))⟩
         · intro _; simp only
           omega
       · have hen := end_many g s _ wsy ps _ hy1 hyf hyc (by omega) (by omega); simp only [Int.natCast_add, Int.natCast_one] at hen; clear h10; go_wp2_with (go_at_call 74; refine hen.mono ?_; rintro e w2 ⟨rfl, ⟨v2, ps2, hx2⟩, hb2⟩; have r22 := hx2.cells.2.2.1; have f22 := hx2.cells.2.2.2.2.2.2.2.2.2.2.2; simp only at r22)
         have hx3 := hx2.grown (y := { y with p := y.p + 1, vo := v2, fr := true, co := 15, pl := y.num, n := y.n + 1 }) (gr_set w2 g 2 (.int .i64 ((y.n + 1 : Nat) : Int))) (blk_set hx2.k 2 (.int .i64 ((y.n + 1 : Nat) : Int))) rfl rfl id; have hb3 := bel_two (bel_two hby1 hb2) (bel_gr (gr_set w2 g 2 (.int .i64 ((y.n + 1 : Nat) : Int))) (Nat.le_refl g) (by have := hx2.lt; omega)); refine bodyPost_end (v := .tuple #[]) (by simp [results, go_sem]) rfl ⟨rfl, ?_⟩; refine ⟨_, wsy, _, hx3, hb3, ?_, (fun h => absurd h (by simp)), (fun h => absurd h (by simp))⟩; refine Eq.trans (totX_bad (by simp)) ?_; rw [← hHT, finL, if_pos (by omega)] <;> rfl
   · have do1 : ((y.o : Int) == 0) = false := by simp; omega
     rw [lnF_dif hlt h10 ho] at hHT; have hx3 := hy1.grown (y := { y with p := y.p + 1, n := y.n + 1 }) (gr_set _ g 2 (.int .i64 ((y.n + 1 : Nat) : Int))) (blk_set hy1.k 2 (.int .i64 ((y.n + 1 : Nat) : Int))) rfl rfl id; have hb3 := bel_two hby1 (bel_gr (gr_set (W0.setCell ⟨g, 1, none⟩ (.int .i64 ((y.p + 1 : Nat) : Int))) g 2 (.int .i64 ((y.n + 1 : Nat) : Int))) (Nat.le_refl g) (by have := hy1.lt; omega)); have HF := Nm.hide (And.intro hx3 hb3); simp only [Int.natCast_add, Int.natCast_one] at HF; clear h10 hx3 hb3; go_wp2; refine bodyPost_end (v := .tuple #[]) (by simp [results, go_sem]) rfl ⟨rfl, ?_⟩; refine ⟨_, wsy, ps, HF.out.1, HF.out.2, ?_, ?_, ?_⟩
     · refine Eq.trans (totX_line (by exact hyc) (by exact hyf)) ?_; rw [← hHT] <;> rfl
     · intro _; exact ⟨(by simp only; omega), (by simp only; omega), (fun h => absurd (hyf.symm.trans h) (by simp)), (fun _ => ⟨(by simp only; omega), (by simp only; omega)⟩)⟩
     · intro _; simp only
       omega
 · have d10 : ((s[y.p].toNat : Int) == 10) = false := u8_lit (k := 10) (fun e => h10 e.symm) (by decide)
   cases hb : isBl s[y.p] with
   | true =>
     rw [hb] at hib; rw [lnF_bl hlt h10 hb] at hHT; have HF := Nm.hide (And.intro hy1 hby1); simp only [Int.natCast_add, Int.natCast_one] at HF; clear h10 hb; go_wp2_with (go_at_call 134; refine (hib _).mono ?_; rintro e w' ⟨rfl, rfl⟩)
     refine bodyPost_end (v := .tuple #[]) (by simp [results, go_sem]) rfl ⟨rfl, ?_⟩; refine ⟨_, wsy, ps, HF.out.1, HF.out.2, ?_, ?_, ?_⟩
     · refine Eq.trans (totX_line (by exact hyc) (by exact hyf)) ?_; rw [← hHT] <;> rfl
     · intro _; exact ⟨(by simp only; omega), (by simp only; omega), (fun h => absurd (hyf.symm.trans h) (by simp)), (fun _ => ⟨(by simp only; omega), (by simp only; omega)⟩)⟩
     · intro _; simp only
       omega
   | false =>
     rw [hb] at hib
     by_cases h59 : s[y.p] = 59
     · have d59 : (s[y.p].toNat : Int) = 59 := by rw [h59]; rfl
       rw [d59] at hib; rw [lnF_com hlt h10 hb h59] at hHT; have hgt := comE_gt hlt h10; have hle := comE_le s y.p (by omega); obtain ⟨R, hR⟩ : ∃ R, Hid (comE s y.p = R) := ⟨_, rfl⟩; rw [hR.out] at hHT hgt hle; clear h10 hb h59 d10; go_wp2_with (go_at_call 134; refine (hib _).mono ?_; rintro e w' ⟨rfl, rfl⟩)
       clear c0 c1 c2 c3 c4 c5 c6 c7 c8 c9 c10 hf
       go_loopw [] (fun wr => ∃ q, y.p ≤ q ∧ q ≤ s.size ∧ Hid (comE s q = R) ∧ XS wr g s { y with p := q } wsy ps ∧ Below g w wr) (fun wr => mzL s.size g wr)
       case atStart => exact ⟨y.p, Nat.le_refl _, by omega, hR, hy, hb0⟩
       case round =>
        obtain ⟨q, hpq, hq, hR2, hx, hbr⟩ := hrel; clear hR hy hy1 hby1 hgy1; obtain ⟨c0, c1, c2, c3, c4, c5, c6, c7, c8, c9, c10, hf⟩ := hx.cells; simp only at c1
        by_cases hq1 : q < s.size
        · have i1 : (q : Int) < (s.size : Int) := by omega
          by_cases hc : s[q] = 10
          · have d4 : (s[q].toNat : Int) = 10 := by rw [hc]; rfl
            have hE : comE s q = q := by rw [comE, dif_pos hq1, if_pos hc]
            have hqR : q = R := by rw [← hE]; exact hR2.out
            subst hqR; clear hE hR2 hc; go_wp2; go_quiet (fail)
            go_wp2; refine bodyPost_end (v := .tuple #[]) (by simp [results, go_sem]) rfl ⟨rfl, ?_⟩; refine ⟨_, wsy, ps, hx.drewN _, bel_two hbr (bel_gr (gr_drewN wr g _) (Nat.le_refl g) (by have := hx.lt; omega)), ?_, ?_, ?_⟩
            · refine Eq.trans (totX_line (by exact hyc) (by exact hyf)) ?_; rw [← hHT] <;> rfl
            · intro _; exact ⟨(by simp only; omega), (by simp only; omega), (fun h => absurd (hyf.symm.trans h) (by simp)), (fun _ => ⟨(by simp only; omega), (by simp only; omega)⟩)⟩
            · intro _; exact hgt
          · have d4 : ((s[q].toNat : Int) == 10) = false := u8_lit (k := 10) (fun e => hc e.symm) (by decide); have n10 : ((s[q].toNat : Int) != 10) = true := by rw [bne, d4]; rfl
            have wq2 : (q : Int) + 1 ≤ 40001 := by omega
            have HE : Hid (comE s (q + 1) = R) := by
             show _ = R
             rw [← hR2.out]
             conv => rhs; rw [comE, dif_pos hq1, if_neg hc]
            have hx1 := fun k => XS.at (W := wr.drewN k) (hx.drewN k) (q + 1)
            have hg1 := fun k => bel_two hbr (bel_gr (gr_trans (gr_drewN wr g k) (gr_set _ g 1 (.int .i64 ((q + 1 : Nat) : Int)))) (Nat.le_refl g) (by have := hx.lt; omega))
            simp only [Int.natCast_add, Int.natCast_one] at hx1 hg1; have HHT := Nm.hide hHT; clear hR2 hc hHT hib wq; go_wp2; go_quiet (fail)
            go_wp2; go_roundw
            case rel => exact ⟨q + 1, by omega, by omega, HE, hx1 _, hg1 _⟩
            case measure => rw [mzX_at hx]; exact Nat.lt_of_le_of_lt (Nat.le_of_eq (mzX_at (hx1 _))) (by simp; omega)
        · have i1 : (s.size : Int) ≤ (q : Int) := by omega
          have hqR : q = R := by rw [← hR2.out, comE, dif_neg hq1]
          subst hqR; clear hR2; go_wp2; go_quiet (fail)
          go_wp2; refine bodyPost_end (v := .tuple #[]) (by simp [results, go_sem]) rfl ⟨rfl, ?_⟩; refine ⟨_, wsy, ps, hx.drewN _, bel_two hbr (bel_gr (gr_drewN wr g _) (Nat.le_refl g) (by have := hx.lt; omega)), ?_, ?_, ?_⟩
          · refine Eq.trans (totX_line (by exact hyc) (by exact hyf)) ?_; rw [← hHT] <;> rfl
          · intro _; exact ⟨(by simp only; omega), (by simp only; omega), (fun h => absurd (hyf.symm.trans h) (by simp)), (fun _ => ⟨(by simp only; omega), (by simp only; omega)⟩)⟩
          · intro _; exact hgt
     · have d59 : ((s[y.p].toNat : Int) == 59) = false := u8_lit (k := 59) (fun e => h59 e.symm) (by decide)
       by_cases h34 : s[y.p] = 34
       · have d34 : (s[y.p].toNat : Int) = 34 := by rw [h34]; rfl
         rw [d34] at hib; rw [lnF_34 hlt h34] at hHT
         by_cases h0 : (qutF s (y.p + 1)).1 = 0
         · have hqo := quot_ok g s _ wsy ps _ hy1 (by simp only; omega) hs (by omega) hyf h0; rw [if_pos h0] at hHT; have hge := qutF_ge s (y.p + 1); obtain ⟨hle, -⟩ := qutF_lt s (y.p + 1) h0; simp only [Int.natCast_add, Int.natCast_one] at hqo; clear h10 hb h59 d10 d59 h34 h0; go_wp2_with (first | (go_at_call 134; refine (hib _).mono ?_; rintro e w' ⟨rfl, rfl⟩) | (go_at_call 135; refine hqo.mono ?_; rintro e w2 ⟨rfl, ⟨v2, hx2⟩, hb2⟩))
           refine bodyPost_end (v := .tuple #[]) (by simp [results, go_sem]) rfl ⟨rfl, ?_⟩; refine ⟨_, _, ps, hx2, bel_two hby1 hb2, ?_, ?_, ?_⟩
           · refine Eq.trans (totX_line (by exact hyc) (by exact hyf)) ?_; rw [← hHT] <;> rfl
           · intro _; exact ⟨(by simp only; omega), (by simp only; omega), (fun h => absurd (hyf.symm.trans h) (by simp)), (fun _ => ⟨(by simp; omega), (by simp only; omega)⟩)⟩
           · intro _; simp only
             omega
         · have hqo := quot_bad g s _ wsy ps _ hy1 (by simp only; omega) hs hyc h0; rw [if_neg h0] at hHT; simp only [Int.natCast_add, Int.natCast_one] at hqo; clear h10 hb h59 d10 d59 h34; go_wp2_with (first | (go_at_call 134; refine (hib _).mono ?_; rintro e w' ⟨rfl, rfl⟩) | (go_at_call 135; refine hqo.mono ?_; rintro e w2 ⟨rfl, ⟨q2, hx2⟩, hg2⟩))
           refine bodyPost_end (v := .tuple #[]) (by simp [results, go_sem]) rfl ⟨rfl, ?_⟩; refine ⟨_, _, ps, hx2, bel_two hby1 (bel_gr hg2 (Nat.le_refl g) (by have := hy1.lt; simp; omega)), ?_, fun h => absurd h h0, fun h => absurd h h0⟩; refine Eq.trans (totX_bad (by exact h0)) ?_; rw [← hHT] <;> rfl
       · have d34 : ((s[y.p].toNat : Int) == 34) = false := u8_lit (k := 34) (fun e => h34 e.symm) (by decide)
         by_cases h40 : s[y.p] = 40
         · rw [lnF_40 hlt h40] at hHT; have d40 : (s[y.p].toNat : Int) = 40 := by rw [h40]; rfl
           rw [d40] at hib
           by_cases ho : y.o = 0
           · have hpa := paren_openS g s y wsy ps s[y.p] W0 hy (by omega) ho h40; rw [d40] at hpa; rw [if_pos ho] at hHT; clear h10 hb h59 d10 d59 h34 d34 h40; go_wp2_with (first | (go_at_call 134; refine (hib _).mono ?_; rintro e w' ⟨rfl, rfl⟩) | (go_at_call 136; refine hpa.mono ?_; rintro e w2 ⟨rfl, hx2, hg2⟩))
             refine bodyPost_end (v := .tuple #[]) (by simp [results, go_sem]) rfl ⟨rfl, ?_⟩; refine ⟨_, _, ps, hx2, bel_two hb0 (bel_gr hg2 (Nat.le_refl g) (by omega)), ?_, ?_, ?_⟩
             · refine Eq.trans (totX_line (by exact hyc) (by exact hyf)) ?_; rw [← hHT] <;> rfl
             · intro _; exact ⟨(by simp only; omega), (by simp only; omega), (fun h => absurd (hyf.symm.trans h) (by simp)), (fun _ => ⟨(by simp only; omega), (by simp only; omega)⟩)⟩
             · intro _; simp only
               omega
           · have hpa := paren_badS g s y wsy ps s[y.p] W0 hy (by omega) hyc (.inl ⟨h40, ho⟩); rw [d40] at hpa; rw [if_neg ho] at hHT; clear h10 hb h59 d10 d59 h34 d34 h40; go_wp2_with (first | (go_at_call 134; refine (hib _).mono ?_; rintro e w' ⟨rfl, rfl⟩) | (go_at_call 136; refine hpa.mono ?_; rintro e w2 ⟨rfl, hx2, hg2⟩))
             refine bodyPost_end (v := .tuple #[]) (by simp [results, go_sem]) rfl ⟨rfl, ?_⟩; refine ⟨_, _, ps, hx2, bel_two hb0 (bel_gr hg2 (Nat.le_refl g) (by omega)), ?_, (fun h => absurd h (by simp)), (fun h => absurd h (by simp))⟩; refine Eq.trans (totX_bad (by simp)) ?_; rw [← hHT] <;> rfl
         · have d40 : ((s[y.p].toNat : Int) == 40) = false := u8_lit (k := 40) (fun e => h40 e.symm) (by decide)
           by_cases h41 : s[y.p] = 41
           · rw [lnF_41 hlt h41] at hHT; have d41 : (s[y.p].toNat : Int) = 41 := by rw [h41]; rfl
             rw [d41] at hib
             by_cases ho : y.o = 0
             · have hpa := paren_badS g s y wsy ps s[y.p] W0 hy (by omega) hyc (.inr ⟨h41, ho⟩); rw [d41] at hpa; rw [if_pos ho] at hHT; clear h10 hb h59 d10 d59 h34 d34 h40 d40 h41; go_wp2_with (first | (go_at_call 134; refine (hib _).mono ?_; rintro e w' ⟨rfl, rfl⟩) | (go_at_call 136; refine hpa.mono ?_; rintro e w2 ⟨rfl, hx2, hg2⟩))
               refine bodyPost_end (v := .tuple #[]) (by simp [results, go_sem]) rfl ⟨rfl, ?_⟩; refine ⟨_, _, ps, hx2, bel_two hb0 (bel_gr hg2 (Nat.le_refl g) (by omega)), ?_, (fun h => absurd h (by simp)), (fun h => absurd h (by simp))⟩; refine Eq.trans (totX_bad (by simp)) ?_; rw [← hHT] <;> rfl
             · have hpa := paren_closeS g s y wsy ps s[y.p] W0 hy (by omega) ho h41; rw [d41] at hpa; rw [if_neg ho] at hHT; clear h10 hb h59 d10 d59 h34 d34 h40 d40 h41; go_wp2_with (first | (go_at_call 134; refine (hib _).mono ?_; rintro e w' ⟨rfl, rfl⟩) | (go_at_call 136; refine hpa.mono ?_; rintro e w2 ⟨rfl, hx2, hg2⟩))
               refine bodyPost_end (v := .tuple #[]) (by simp [results, go_sem]) rfl ⟨rfl, ?_⟩; refine ⟨_, _, ps, hx2, bel_two hb0 (bel_gr hg2 (Nat.le_refl g) (by omega)), ?_, ?_, ?_⟩
               · refine Eq.trans (totX_line (by exact hyc) (by exact hyf)) ?_; rw [← hHT] <;> rfl
               · intro _; exact ⟨(by simp only; omega), (by simp only; omega), (fun h => absurd (hyf.symm.trans h) (by simp)), (fun _ => ⟨(by simp only; omega), (by simp only; omega)⟩)⟩
               · intro _; simp only
                 omega
           · have d41 : ((s[y.p].toNat : Int) == 41) = false := u8_lit (k := 41) (fun e => h41 e.symm) (by decide)
             have hsp : isSp s[y.p] = false := by
              simp only [isSp, hb, Bool.false_or, Bool.or_eq_false_iff, beq_eq_false_iff_ne, ne_eq]; exact ⟨⟨⟨⟨h10, h59⟩, h40⟩, h41⟩, h34⟩
             rw [lnF_bar hlt hsp] at hHT
             by_cases h0 : (barF s y.p).1 = 0
             · have hqo := bare_ok g s y wsy ps W0 hy hlt hs (by omega) hyf h0; rw [if_pos h0] at hHT; have hge := barF_gt hlt hsp h0; have hle := barF_le s y.p (by omega); clear h10 hb h59 h34 h40 h41 hsp h0; go_wp2_with (first | (go_at_call 134; refine (hib _).mono ?_; rintro e w' ⟨rfl, rfl⟩) | (go_at_call 137; refine hqo.mono ?_; rintro e w2 ⟨rfl, ⟨v2, hx2⟩, hb2⟩))
               refine bodyPost_end (v := .tuple #[]) (by simp [results, go_sem]) rfl ⟨rfl, ?_⟩; refine ⟨_, _, ps, hx2, bel_two hb0 hb2, ?_, ?_, ?_⟩
               · refine Eq.trans (totX_line (by exact hyc) (by exact hyf)) ?_; rw [← hHT] <;> rfl
               · intro _; exact ⟨(by simp only; omega), (by simp only; omega), (fun h => absurd (hyf.symm.trans h) (by simp)), (fun _ => ⟨(by simp; omega), (by simp only; omega)⟩)⟩
               · intro _; simp only
                 omega
             · have hqo := bare_bad g s y wsy ps W0 hy hlt hs hyc h0; rw [if_neg h0] at hHT; clear h10 hb h59 h34 h40 h41 hsp; go_wp2_with (first | (go_at_call 134; refine (hib _).mono ?_; rintro e w' ⟨rfl, rfl⟩) | (go_at_call 137; refine hqo.mono ?_; rintro e w2 ⟨rfl, ⟨q2, hx2⟩, hg2⟩))
               refine bodyPost_end (v := .tuple #[]) (by simp [results, go_sem]) rfl ⟨rfl, ?_⟩; refine ⟨_, _, ps, hx2, bel_two hb0 (bel_gr hg2 (Nat.le_refl g) (by omega)), ?_, fun h => absurd h h0, fun h => absurd h h0⟩; refine Eq.trans (totX_bad (by exact h0)) ?_; rw [← hHT] <;> rfl
end Go.Proofs.YtddabafaejahbaaGreatDoor
