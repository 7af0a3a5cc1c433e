import Derived.Test.YtddabafaejahbaaGreatDoorSxB
/- The model's lexer: a word in quotes. -/
namespace Go.Proofs.YtddabafaejahbaaGreatDoor
open Go.RowKit
set_option linter.unusedVariables false
set_option maxRecDepth 100000 in
set_option maxHeartbeats 3200000 in
theorem quot_ok (g : Nat) (s : ByteArray) (x : XB) (ws : List Wrd) (ps : List Lp) (w : World) (h : XS w g s x ws ps) (hp : x.p ≤ s.size) (hs : s.size ≤ 40000) (hw : ws.length ≤ 40000) (hfr : x.fr = false) (h0 : (qutF s x.p).1 = 0) :
 Calls Tryz.prog 135 #[.pointer (some ⟨g, 0, none⟩)] w fun e w' => e = .returned (.tuple #[]) ∧ (∃ v', XS w' g s { x with p := (qutF s x.p).2 + 1, u := v' } (ws ++ [(s.extract x.p (qutF s x.p).2, true)]) ps) ∧ Below g w w' := by
 obtain ⟨R, hR⟩ : ∃ R, Hid (qutF s x.p = (0, R)) := ⟨(qutF s x.p).2, by show _ = _; rw [← h0]⟩; have hRe : (qutF s x.p).2 = R := by rw [hR.out]
 rw [hRe]; obtain ⟨X, HX0⟩ : ∃ X, Hid (X = s.extract x.p R) := ⟨_, rfl⟩; rw [← HX0.out]; clear h0 hRe; have hgl := h.lt; have HFR := Nm.hide hfr; clear hfr; obtain ⟨c0, c1, c2, c3, c4, c5, c6, c7, c8, c9, c10, hf⟩ := h.cells; obtain ⟨i0, hi, hz0, hz1, hz2⟩ := info_parts Tryz.infoWord; go_enter Tryz.func135, Tryz.ntmps135; go_wp2; clear c0 c1 c2 c3 c4 c5 c6 c7 c8 c9 c10 hf
 go_loopw [] (fun wr => ∃ q, x.p ≤ q ∧ q ≤ s.size ∧ Hid (qutF s q = (0, R)) ∧ XS wr g s { x with p := q } ws ps ∧ w.grownBy wr (some g)) (fun wr => mzL s.size g wr)
 case atStart => exact ⟨x.p, Nat.le_refl _, by omega, hR, h, gr_refl _ _⟩
 case round =>
  obtain ⟨q, hpq, hq, hR2, hx, hgr⟩ := hrel; clear hR h; obtain ⟨c0, c1, c2, c3, c4, c5, c6, c7, c8, c9, c10, hf⟩ := hx.cells; simp only at c1 c2
  have hx1 := fun k j => (XS.at (W := wr.drewN k) (hx.drewN k) (q + 1)).drewN j
  have hg1 := fun k j => gr_trans (gr_trans (gr_drewN wr g k) (gr_set _ g 1 (.int .i64 ((q + 1 : Nat) : Int)))) (gr_drewN _ g j)
  have hx2 := fun k j => XS.at (hx1 k j) (q + 2)
  have hg2 := fun k j => gr_trans (hg1 k j) (gr_set _ g 1 (.int .i64 ((q + 2 : Nat) : Int)))
  simp only [Int.natCast_add, Int.natCast_one] at hx1 hg1 hx2 hg2; have hr3 := hR2.out
  by_cases hlt : q < s.size
  · have i1 : (q : Int) < (s.size : Int) := by omega
    have i1' : ¬ (s.size : Int) ≤ (q : Int) := by omega
    by_cases h34 : s[q] = 34
    · have d34 : (s[q].toNat : Int) = 34 := by rw [h34]; rfl
      rw [qutF, dif_pos hlt, if_pos h34] at hr3; have hqR : q = R := by simpa using hr3
      subst hqR; clear hR2 hr3 h34; go_wp2; go_quiet (fail)
      go_wp2; generalize nq = n1 at *; go_quiet (fail)
      go_wp2; have hx0 := (hx.drewN n1).drewN nq; have hg0 : w.grownBy ((wr.drewN n1).drewN nq) (some g) := gr_trans hgr (gr_trans (gr_drewN wr g n1) (gr_drewN _ g nq)); clear c0 c1 c2 c3 c4 c5 c6 c7 c8 c9 c10 hf hx hgr hx1 hg1 hx2 hg2; generalize (wr.drewN n1).drewN nq = W0 at *; have hxA := hx0.grown (W1 := (W0.alloc (.cells #[.string X, .bool true] 40)).drew) (y := { x with p := q }) (gr_trans (gr_alloc _) (gr_drew _ g)) (blk_alloc hx0.k _) rfl rfl id; obtain ⟨B, h1, h2, h3, h4⟩ := hxA.row; obtain ⟨ua, uc, hu⟩ := own_sl h3; simp only at hu h3 h4
      obtain ⟨c0, c1, c2, c3, c4, c5, c6, c7, c8, c9, c10, hf⟩ := hx0.cells; simp only at c1 c2 c6
      rw [hu] at c6; have hxAc := hxA.cells; simp only at hxAc
      rw [hu] at hxAc; have j1 : (0 : Int) ≤ (x.p : Int) := by omega
      have j2 : (x.p : Int) ≤ (q : Int) := by omega
      have j3 : (q : Int) ≤ (s.size : Int) := by omega
      refine wp_region_last (fun W => W.cell? ⟨g, 0, none⟩ = some (.string s) ∧ W.cell? ⟨g, 1, none⟩ = some (.int .i64 (q : Int)) ∧ W.cell? ⟨g, 6, none⟩ = some (.slice ua ws.length uc)) 22 (by kernel_rfl) ⟨c0, c1, c6⟩ (fun hHeld => ?_); refine tkA 0 rfl ?_; refine tkA 1 rfl ?_; refine tkA 2 rfl ?_; refine tkA 3 rfl ?_; refine tkA 4 rfl ?_; refine tkA 5 rfl ?_; refine tkA 6 rfl ?_; refine tkA 7 rfl ?_; refine tkA 8 rfl ?_; refine tkA 9 rfl ?_; refine tkA 10 rfl ?_; refine tkA 11 rfl ?_; refine tkA 12 rfl ?_; refine tkA 13 rfl ?_; refine tkA 14 rfl ?_; refine tkA 15 rfl ?_; refine tkA 16 rfl ?_; refine wpAnyL_one (i := 17) (by kernel_rfl) rfl (fun K hK => ?_); go_simp; rw [← HX0.out]; refine hK.out _ _ ⟨hxAc.1, hxAc.2.1, hxAc.2.2.2.2.2.2.1⟩ (fun hH => ?_); clear hK K; refine wpAnyL_one (i := 18) (by kernel_rfl) rfl (fun K hK => ?_); refine step_append_own rfl (.tmp 128) (.tmp 140) 26 rfl B 40 i0 (.agg #[.string ⟨#[]⟩, .bool false]) 2 24 Tryz.underlying26 hi hz0 hz1 hz2 rfl (by decide) x.u ws.length (wdVs ws) (by rw [hu]; rfl) h3 ⟨W0.heap.size, 0, none⟩ 1 1 [.string X, .bool true] rfl rfl (cellL2 W0 _ _ _ _ rfl) (twoL _ _ rfl rfl) (by unfold maxLen; omega) (by omega) h2 ?_; intro v6 w6 ho6 hg6 hnl6; clear hnl6; obtain ⟨a6, c6', rfl⟩ := own_sl ho6; obtain ⟨k6, hx6, hb6⟩ := XS.put (y := (X, true)) hxA.k hxA.out h1 h2 h3 (h4 HFR.out) ho6 hg6; have r0 : w6.cell? ⟨g, 0, none⟩ = some (.string s) := blk_cell k6 0; have r1 : w6.cell? ⟨g, 1, none⟩ = some (.int .i64 (q : Int)) := blk_cell k6 1; have r6 : w6.cell? ⟨g, 6, none⟩ = some (.slice ua ws.length uc) := by rw [← hu]; exact blk_cell k6 6
      have f6 := fun i => blk_frozen k6 i
      refine hK.out _ _ ⟨r0, r1, r6⟩ (fun hH2 => ?_); clear hK K; refine wpAnyL_one (i := 19) (by kernel_rfl) rfl (fun K hK => ?_); go_simp; refine hK.out _ _ hH2 (fun hH3 => ?_); clear hK K; refine wpAnyL_one (i := 20) (by kernel_rfl) rfl (fun K hK => ?_); go_simp; refine hK.out _ _ hH3 (fun hH4 => ?_); clear hK K; refine tkA 21 rfl ?_; refine wpAnyL_end (by kernel_rfl) rfl (by kernel_rfl) (fun K hK => ?_); go_simp; refine hK.out _ _ ?_; clear hK K; have hb0 : Below g w (W0.alloc (.cells #[.string X, .bool true] 40)).drew := bel_gr (gr_trans hg0 (gr_trans (gr_alloc _) (gr_drew _ g))) (Nat.le_refl _) (by omega); have hb7 : Below g w (w6.setCell ⟨g, 6, none⟩ (.slice a6 (ws.length + 1) c6')) := ⟨hb6.os.trans hb0.os, hb6.tape.trans hb0.tape, hb6.output.trans hb0.output, Nat.le_trans hb0.size hb6.size, fun k hk => (hb6.block k hk).trans (hb0.block k hk)⟩; have hx8 := hx6.at (q + 1); have hb8 := bel_gr (B := g) (gr_set (w6.setCell ⟨g, 6, none⟩ (.slice a6 (ws.length + 1) c6')) g 1 (.int .i64 ((q + 1 : Nat) : Int))) (Nat.le_refl _) (by have := hx6.lt; omega); have hb9 : Below g w ((w6.setCell ⟨g, 6, none⟩ (.slice a6 (ws.length + 1) c6')).setCell ⟨g, 1, none⟩ (.int .i64 ((q + 1 : Nat) : Int))) := ⟨hb8.os.trans hb7.os, hb8.tape.trans hb7.tape, hb8.output.trans hb7.output, Nat.le_trans hb7.size hb8.size, fun k hk => (hb8.block k hk).trans (hb7.block k hk)⟩; have r61 : (w6.setCell ⟨g, 6, none⟩ (.slice a6 (ws.length + 1) c6')).cell? ⟨g, 1, none⟩ = some (.int .i64 (q : Int)) := hx6.cells.2.1; have f61 := hx6.cells.2.2.2.2.2.2.2.2.2.2.2; have HF := Nm.hide (And.intro hx8 hb9); simp only [Int.natCast_add, Int.natCast_one] at HF; clear hx8 hb9 hb8 hb7 hb6 hb0 hx6 k6; go_wp2; refine bodyPost_end (v := .tuple #[]) (by simp [results, go_sem]) rfl ⟨rfl, ⟨_, HF.out.1⟩, HF.out.2⟩
    · have d34 : ((s[q].toNat : Int) == 34) = false := u8_lit (k := 34) (fun e => h34 e.symm) (by decide); rw [qutF, dif_pos hlt, if_neg h34] at hr3
      have h10 : s[q] ≠ 10 := by
       intro e; rw [if_pos e] at hr3; simp at hr3
      have e10 : ((s[q].toNat : Int) == 10) = false := u8_lit (k := 10) (fun e => h10 e.symm) (by decide); rw [if_neg h10] at hr3
      by_cases hc : s[q] = 92
      · have d92 : (s[q].toNat : Int) = 92 := by rw [hc]; rfl
        rw [if_pos hc] at hr3
        have hlt2 : q + 1 < s.size := by
         rcases Nat.lt_or_ge (q + 1) s.size with h | h
         · exact h
         · rw [dif_neg (by omega)] at hr3; simp at hr3
        rw [dif_pos hlt2] at hr3
        have hc2 : s[q + 1] ≠ 10 := by
         intro e; rw [if_pos e] at hr3; simp at hr3
        rw [if_neg hc2] at hr3; have HR3 := Nm.hide hr3; clear hr3 hR2 hc h34 h10 d34 e10; have d10 : ((s[q + 1].toNat : Int) == 10) = false := u8_lit (k := 10) (fun e => hc2 e.symm) (by decide); have i2 : (q : Int) + 1 < (s.size : Int) := by omega
        have i3 : 0 ≤ (q : Int) + 1 := by omega
        clear hc2; go_wp2; go_quiet (fail)
        go_wp2; go_quiet (fail)
        go_wp2; go_quiet (fail)
        go_wp2; go_roundw
        case rel => exact ⟨q + 2, by omega, by omega, HR3, hx2 _ _, gr_trans hgr (hg2 _ _)⟩
        case measure => rw [mzX_at hx]; exact Nat.lt_of_le_of_lt (Nat.le_of_eq (mzX_at (hx2 _ _))) (by simp; omega)
      · rw [if_neg hc] at hr3; have HR3 := Nm.hide hr3; have d92 : ((s[q].toNat : Int) == 92) = false := u8_lit (k := 92) (fun e => hc e.symm) (by decide); clear hr3 hR2 hc h34 h10; have n34 : ((s[q].toNat : Int) != 34) = true := by rw [bne, d34]; rfl
        have n10 : ((s[q].toNat : Int) != 10) = true := by rw [bne, e10]; rfl
        go_wp2; go_quiet (fail)
        go_wp2; go_quiet (fail)
        go_wp2; go_roundw
        case rel => exact ⟨q + 1, by omega, by omega, HR3, hx1 _ 0, gr_trans hgr (hg1 _ 0)⟩
        case measure => rw [mzX_at hx]; exact Nat.lt_of_le_of_lt (Nat.le_of_eq (mzX_at (hx1 _ 0))) (by simp; omega)
  · rw [qutF, dif_neg hlt] at hr3; simp at hr3
end Go.Proofs.YtddabafaejahbaaGreatDoor
