import Derived.Test.YtddabafaejahbaaGreatDoorJSxE
/- The model's lexer: a step that begins a line. -/
namespace Go.Proofs.YtddabafaejahbaaGreatDoor
open Go.RowKit
set_option linter.unusedVariables false
set_option maxRecDepth 100000 in
set_option maxHeartbeats 6400000 in
theorem step_fresh (g : Nat) (s : ByteArray) (y : XB) (n0 : Nat) (b0 : Bool) (u0 : Value) (ws : List Wrd) (ps : List Lp) (T : LsR) (w : World) (h : XS w g s { y with num := n0, bl := b0, u := u0, fr := true } ws ps) (hyc : y.co = 0) (hlt : y.p < s.size) (hs : s.size ≤ 40000) (hyf : y.fr = false) (hyn : y.num = y.n) (hyb : y.bl = isBl s[y.p]) (hyu : y.u = .slice none 0 0) (G2 : y.n ≤ y.p + 1) (G3 : ps.length ≤ y.p) (HT : Hid (totX s y [] (ps.map (·.1)) = T)) :
 Calls Tryz.prog 72 #[.pointer (some ⟨g, 0, none⟩)] w (StP g s y.p T w) := by
 obtain ⟨c0, c1, c2, c3, c4, c5, c6, c7, c8, c9, c10, hf⟩ := h.cells; simp only at c1 c2 c7
 have hg2 : g ≤ w.heap.size := by have := h.lt; omega
 have hib0 := fun W => l05Blank_any s[y.p] W
 rw [← hyb] at hib0; go_enter Tryz.func72, Tryz.ntmps72; go_wp2; go_quiet (fail)
 have hx0 := h.drewN nq; have hbd : Below g w (w.drewN nq) := bel_gr (gr_drewN w g nq) (Nat.le_refl g) hg2; clear c0 c1 c2 c3 c4 c5 c6 c7 c8 c9 c10 hf h; generalize w.drewN nq = Wv at *; obtain ⟨c0, c1, c2, c3, c4, c5, c6, c7, c8, c9, c10, hf⟩ := hx0.cells; simp only at c1 c2 c7
 have HYF := Nm.hide hyf; have HYC := Nm.hide hyc; have HYB := Nm.hide hyb; have HYN := Nm.hide hyn; have HYU := Nm.hide hyu; clear hyf hyc hyb hyn hyu; go_wp2; refine wp_region_last (fun W => W.cell? ⟨g, 2, none⟩ = some (.int .i64 (y.n : Int))) 10 (by kernel_rfl) c2 (fun hHeld => ?_); refine tkA 0 rfl ?_; refine tkA 1 rfl ?_; refine tkA 2 rfl ?_; refine tkA 3 rfl ?_; refine tkA 4 rfl ?_; refine tkA 5 rfl ?_; refine wpAnyL_one (i := 6) (by kernel_rfl) rfl (fun K hK => ?_); go_simp; refine (hib0 _).mono ?_; rintro e w' ⟨rfl, rfl⟩; go_wp2_with fail
 refine hK.out _ _ hHeld (fun hH => ?_); clear hK K; refine tkA 7 rfl ?_; refine wpAnyL_one (i := 8) (by kernel_rfl) rfl (fun K hK => ?_); go_simp; refine hK.out _ _ hHeld (fun hH2 => ?_); clear hK K; refine tkA 9 rfl ?_; refine wpAnyL_end (by kernel_rfl) rfl (by kernel_rfl) (fun K hK => ?_); go_simp; refine hK.out _ _ ?_; clear hK K; have gS : Wv.grownBy (((Wv.setCell ⟨g, 4, none⟩ (.int .i64 (y.n : Int))).setCell ⟨g, 5, none⟩ (.bool y.bl)).setCell ⟨g, 6, none⟩ (.slice none 0 0)).drew (some g) := gr_trans (gr_trans (gr_trans (gr_set _ g 4 _) (gr_set _ g 5 _)) (gr_set _ g 6 _)) (gr_drew _ g); have kS : Blk (((Wv.setCell ⟨g, 4, none⟩ (.int .i64 (y.n : Int))).setCell ⟨g, 5, none⟩ (.bool y.bl)).setCell ⟨g, 6, none⟩ (.slice none 0 0)).drew g _ 121 := blk_set (blk_set (blk_set hx0.k 4 (.int .i64 (y.n : Int))) 5 (.bool y.bl)) 6 (.slice none 0 0); generalize (((Wv.setCell ⟨g, 4, none⟩ (.int .i64 (y.n : Int))).setCell ⟨g, 5, none⟩ (.bool y.bl)).setCell ⟨g, 6, none⟩ (.slice none 0 0)).drew = W3 at *; have r7 : W3.cell? ⟨g, 7, none⟩ = some (.bool true) := blk_cell kS 7; have fz := fun i => blk_frozen kS i
 have gS2 := gr_trans gS (gr_set W3 g 7 (.bool false)); have kS2 := blk_set kS 7 (.bool false)
 have eA : ((((xsA s { y with num := n0, bl := b0, u := u0, fr := true }).setIfInBounds 4 (.int .i64 (y.n : Int))).setIfInBounds 5 (.bool y.bl)).setIfInBounds 6 (.slice none 0 0)).setIfInBounds 7 (.bool false) = xsA s y := by
  have e1 := HYN.out; have e2 := HYU.out; have e3 := HYF.out; simp [xsA, e1, e2, e3]
 rw [eA] at kS2; have oS := hx0.out.beside gS2 (fun k e => by simp at e; omega); have lS : g < Wv.heap.size := hx0.lt
 have sep : ∀ q ∈ ps, ∀ b, q.2.ownBlock = some b → b < Wv.heap.size := by
  intro q hq b e; obtain ⟨i, hi⟩ := List.getElem?_of_mem hq; exact ((hx0.out.inner i q hi).lt b e).2
 have hy : XS (W3.setCell ⟨g, 7, none⟩ (.bool false)) g s y [] ps := ⟨kS2, ⟨Wv.heap.size, lS, gS2.size, by rw [HYU.out]; exact World.ownsRow_nil _ _ _ _, fun _ => sep⟩, oS⟩; have hb0 : Below g w (W3.setCell ⟨g, 7, none⟩ (.bool false)) := bel_two hbd (bel_gr gS2 (Nat.le_refl g) (by omega)); clear kS kS2 gS gS2 eA oS lS sep hx0 hbd c0 c1 c2 c3 c4 c5 c6 c7 c8 c9 c10 hf hib0 hHeld hH hH2; generalize hW0 : W3.setCell ⟨g, 7, none⟩ (.bool false) = W0 at *; obtain ⟨wsy, hwsy⟩ : ∃ wsy : List Wrd, wsy = [] := ⟨_, rfl⟩; rw [← hwsy] at HT hy; have hw1 : wsy.length ≤ y.p := by rw [hwsy]; simp
 clear hwsy; have hyf := HYF.out; have hyc := HYC.out; have hw2 := G3; clear HYF HYC HYB HYN HYU; obtain ⟨c0, c1, c2, c3, c4, c5, c6, c7, c8, c9, c10, hf⟩ := hy.cells; have hib := fun W => l05Blank_any s[y.p] W
 have hHT := HT.out; rw [totX_line hyc hyf] at hHT; have hgl := hy.lt; have wq : (y.p : Int) + 1 ≤ 40001 := by omega
 have hy1 := hy.at (y.p + 1); have hgy1 := gr_set W0 g 1 (.int .i64 ((y.p + 1 : Nat) : Int)); have hby1 := bel_two hb0 (bel_gr hgy1 (Nat.le_refl g) (by omega))
 by_cases h10 : s[y.p] = 10
 · have d10 : (s[y.p].toNat : Int) = 10 := by rw [h10]; rfl
   by_cases ho : y.o = 0
   · rw [ho] at c3 hHT; rw [lnF_fin hlt h10] at hHT
     rcases Nat.eq_zero_or_pos wsy.length with hw0 | hw0
     · have e0 : wsy = [] := List.length_eq_zero_iff.1 hw0; subst e0; have hen := end_none g s _ ps _ hy1; simp only [Int.natCast_add, Int.natCast_one] at hen; clear h10; go_wp2_with (go_at_call 74; refine hen.mono ?_; rintro e w2 ⟨rfl, hx2, hb2⟩; have r22 := hx2.cells.2.2.1; have f22 := hx2.cells.2.2.2.2.2.2.2.2.2.2.2; simp only at r22)
       have hx3 := hx2.grown (y := { y with p := y.p + 1, fr := true, n := y.n + 1 }) (gr_set w2 g 2 (.int .i64 ((y.n + 1 : Nat) : Int))) (blk_set hx2.k 2 (.int .i64 ((y.n + 1 : Nat) : Int))) rfl rfl id; have hb3 := bel_two (bel_two hby1 hb2) (bel_gr (gr_set w2 g 2 (.int .i64 ((y.n + 1 : Nat) : Int))) (Nat.le_refl g) (by have := hx2.lt; omega)); refine bodyPost_end (v := .tuple #[]) (by simp [results, go_sem]) rfl ⟨rfl, ?_⟩; refine ⟨_, [], ps, hx3, hb3, ?_, ?_, ?_⟩
       · refine Eq.trans (totX_new (by exact hyc) (by rfl)) ?_; rw [← hHT] <;> rfl
       · intro _; exact ⟨(by simp only; omega), (by simp only; omega), (fun _ => ⟨ho, (by simp only; omega)⟩), (fun h => absurd h (by simp))⟩
       · intro _; simp only
         omega
     · by_cases hw3 : wsy.length ≤ 300
       · have hen := end_some g s _ wsy ps _ hy1 hyf hw0 hw3 (by omega); simp only [Int.natCast_add, Int.natCast_one] at hen; clear h10; go_wp2_with (go_at_call 74; refine hen.mono ?_; rintro e w2 ⟨rfl, ⟨v2, hx2⟩, hb2⟩; have r22 := hx2.cells.2.2.1; have f22 := hx2.cells.2.2.2.2.2.2.2.2.2.2.2; simp only at r22)
         have hx3 := hx2.grown (y := { y with p := y.p + 1, vo := v2, fr := true, n := y.n + 1 }) (gr_set w2 g 2 (.int .i64 ((y.n + 1 : Nat) : Int))) (blk_set hx2.k 2 (.int .i64 ((y.n + 1 : Nat) : Int))) rfl rfl id; have hb3 := bel_two (bel_two hby1 hb2) (bel_gr (gr_set w2 g 2 (.int .i64 ((y.n + 1 : Nat) : Int))) (Nat.le_refl g) (by have := hx2.lt; omega)); refine bodyPost_end (v := .tuple #[]) (by simp [results, go_sem]) rfl ⟨rfl, ?_⟩; refine ⟨_, wsy, _, hx3, hb3, ?_, ?_, ?_⟩
         · refine Eq.trans (totX_new (by exact hyc) (by rfl)) ?_; rw [← hHT, finL, if_neg (by omega)]; simp only [contL, if_neg (show ¬ wsy.length = 0 by omega), List.map_append]; rfl
         · intro _; exact ⟨(by simp only; omega), (by simp only; omega), (fun _ => ⟨ho, (by simp; omega)⟩), (fun h => absurd h (by simp))⟩
         · intro _; simp only
           omega
       · have hen := end_many g s _ wsy ps _ hy1 hyf hyc (by omega) (by omega); simp only [Int.natCast_add, Int.natCast_one] at hen; clear h10; go_wp2_with (go_at_call 74; refine hen.mono ?_; rintro e w2 ⟨rfl, ⟨v2, ps2, hx2⟩, hb2⟩; have r22 := hx2.cells.2.2.1; have f22 := hx2.cells.2.2.2.2.2.2.2.2.2.2.2; simp only at r22)
         have hx3 := hx2.grown (y := { y with p := y.p + 1, vo := v2, fr := true, co := 15, pl := y.num, n := y.n + 1 }) (gr_set w2 g 2 (.int .i64 ((y.n + 1 : Nat) : Int))) (blk_set hx2.k 2 (.int .i64 ((y.n + 1 : Nat) : Int))) rfl rfl id; have hb3 := bel_two (bel_two hby1 hb2) (bel_gr (gr_set w2 g 2 (.int .i64 ((y.n + 1 : Nat) : Int))) (Nat.le_refl g) (by have := hx2.lt; omega)); refine bodyPost_end (v := .tuple #[]) (by simp [results, go_sem]) rfl ⟨rfl, ?_⟩; refine ⟨_, wsy, _, hx3, hb3, ?_, (fun h => absurd h (by simp)), (fun h => absurd h (by simp))⟩; refine Eq.trans (totX_bad (by simp)) ?_; rw [← hHT, finL, if_pos (by omega)] <;> rfl
   · have do1 : ((y.o : Int) == 0) = false := by simp; omega
     rw [lnF_dif hlt h10 ho] at hHT; have hx3 := hy1.grown (y := { y with p := y.p + 1, n := y.n + 1 }) (gr_set _ g 2 (.int .i64 ((y.n + 1 : Nat) : Int))) (blk_set hy1.k 2 (.int .i64 ((y.n + 1 : Nat) : Int))) rfl rfl id; have hb3 := bel_two hby1 (bel_gr (gr_set (W0.setCell ⟨g, 1, none⟩ (.int .i64 ((y.p + 1 : Nat) : Int))) g 2 (.int .i64 ((y.n + 1 : Nat) : Int))) (Nat.le_refl g) (by have := hy1.lt; omega)); have HF := Nm.hide (And.intro hx3 hb3); simp only [Int.natCast_add, Int.natCast_one] at HF; clear h10 hx3 hb3; go_wp2; refine bodyPost_end (v := .tuple #[]) (by simp [results, go_sem]) rfl ⟨rfl, ?_⟩; refine ⟨_, wsy, ps, HF.out.1, HF.out.2, ?_, ?_, ?_⟩
     · refine Eq.trans (totX_line (by exact hyc) (by exact hyf)) ?_; rw [← hHT] <;> rfl
     · intro _; exact ⟨(by simp only; omega), (by simp only; omega), (fun h => absurd (hyf.symm.trans h) (by simp)), (fun _ => ⟨(by simp only; omega), (by simp only; omega)⟩)⟩
     · intro _; simp only
       omega
 · have d10 : ((s[y.p].toNat : Int) == 10) = false := u8_lit (k := 10) (fun e => h10 e.symm) (by decide)
   cases hb : isBl s[y.p] with
   | true =>
     rw [hb] at hib; rw [lnF_bl hlt h10 hb] at hHT; have HF := Nm.hide (And.intro hy1 hby1); simp only [Int.natCast_add, Int.natCast_one] at HF; clear h10 hb; go_wp2_with (go_at_call 134; refine (hib _).mono ?_; rintro e w' ⟨rfl, rfl⟩)
     refine bodyPost_end (v := .tuple #[]) (by simp [results, go_sem]) rfl ⟨rfl, ?_⟩; refine ⟨_, wsy, ps, HF.out.1, HF.out.2, ?_, ?_, ?_⟩
     · refine Eq.trans (totX_line (by exact hyc) (by exact hyf)) ?_; rw [← hHT] <;> rfl
     · intro _; exact ⟨(by simp only; omega), (by simp only; omega), (fun h => absurd (hyf.symm.trans h) (by simp)), (fun _ => ⟨(by simp only; omega), (by simp only; omega)⟩)⟩
     · intro _; simp only
       omega
   | false =>
     rw [hb] at hib
     by_cases h59 : s[y.p] = 59
     · have d59 : (s[y.p].toNat : Int) = 59 := by rw [h59]; rfl
       rw [d59] at hib; rw [lnF_com hlt h10 hb h59] at hHT; have hgt := comE_gt hlt h10; have hle := comE_le s y.p (by omega); obtain ⟨R, hR⟩ : ∃ R, Hid (comE s y.p = R) := ⟨_, rfl⟩; rw [hR.out] at hHT hgt hle; clear h10 hb h59 d10; go_wp2_with (go_at_call 134; refine (hib _).mono ?_; rintro e w' ⟨rfl, rfl⟩)
       clear c0 c1 c2 c3 c4 c5 c6 c7 c8 c9 c10 hf
       go_loopw [] (fun wr => ∃ q, y.p ≤ q ∧ q ≤ s.size ∧ Hid (comE s q = R) ∧ XS wr g s { y with p := q } wsy ps ∧ Below g w wr) (fun wr => mzL s.size g wr)
       case atStart => exact ⟨y.p, Nat.le_refl _, by omega, hR, hy, hb0⟩
       case round =>
        obtain ⟨q, hpq, hq, hR2, hx, hbr⟩ := hrel; clear hR hy hy1 hby1 hgy1; obtain ⟨c0, c1, c2, c3, c4, c5, c6, c7, c8, c9, c10, hf⟩ := hx.cells; simp only at c1
        by_cases hq1 : q < s.size
        · have i1 : (q : Int) < (s.size : Int) := by omega
          by_cases hc : s[q] = 10
          · have d4 : (s[q].toNat : Int) = 10 := by rw [hc]; rfl
            have hE : comE s q = q := by rw [comE, dif_pos hq1, if_pos hc]
            have hqR : q = R := by rw [← hE]; exact hR2.out
            subst hqR; clear hE hR2 hc; go_wp2; go_quiet (fail)
            go_wp2; refine bodyPost_end (v := .tuple #[]) (by simp [results, go_sem]) rfl ⟨rfl, ?_⟩; refine ⟨_, wsy, ps, hx.drewN _, bel_two hbr (bel_gr (gr_drewN wr g _) (Nat.le_refl g) (by have := hx.lt; omega)), ?_, ?_, ?_⟩
            · refine Eq.trans (totX_line (by exact hyc) (by exact hyf)) ?_; rw [← hHT] <;> rfl
            · intro _; exact ⟨(by simp only; omega), (by simp only; omega), (fun h => absurd (hyf.symm.trans h) (by simp)), (fun _ => ⟨(by simp only; omega), (by simp only; omega)⟩)⟩
            · intro _; exact hgt
          · have d4 : ((s[q].toNat : Int) == 10) = false := u8_lit (k := 10) (fun e => hc e.symm) (by decide); have n10 : ((s[q].toNat : Int) != 10) = true := by rw [bne, d4]; rfl
            have wq2 : (q : Int) + 1 ≤ 40001 := by omega
            have HE : Hid (comE s (q + 1) = R) := by
             show _ = R
             rw [← hR2.out]
             conv => rhs; rw [comE, dif_pos hq1, if_neg hc]
            have hx1 := fun k => XS.at (W := wr.drewN k) (hx.drewN k) (q + 1)
            have hg1 := fun k => bel_two hbr (bel_gr (gr_trans (gr_drewN wr g k) (gr_set _ g 1 (.int .i64 ((q + 1 : Nat) : Int)))) (Nat.le_refl g) (by have := hx.lt; omega))
            simp only [Int.natCast_add, Int.natCast_one] at hx1 hg1; have HHT := Nm.hide hHT; clear hR2 hc hHT hib wq; go_wp2; go_quiet (fail)
            go_wp2; go_roundw
            case rel => exact ⟨q + 1, by omega, by omega, HE, hx1 _, hg1 _⟩
            case measure => rw [mzX_at hx]; exact Nat.lt_of_le_of_lt (Nat.le_of_eq (mzX_at (hx1 _))) (by simp; omega)
        · have i1 : (s.size : Int) ≤ (q : Int) := by omega
          have hqR : q = R := by rw [← hR2.out, comE, dif_neg hq1]
          subst hqR; clear hR2; go_wp2; go_quiet (fail)
          go_wp2; refine bodyPost_end (v := .tuple #[]) (by simp [results, go_sem]) rfl ⟨rfl, ?_⟩; refine ⟨_, wsy, ps, hx.drewN _, bel_two hbr (bel_gr (gr_drewN wr g _) (Nat.le_refl g) (by have := hx.lt; omega)), ?_, ?_, ?_⟩
          · refine Eq.trans (totX_line (by exact hyc) (by exact hyf)) ?_; rw [← hHT] <;> rfl
          · intro _; exact ⟨(by simp only; omega), (by simp only; omega), (fun h => absurd (hyf.symm.trans h) (by simp)), (fun _ => ⟨(by simp only; omega), (by simp only; omega)⟩)⟩
          · intro _; exact hgt
     · have d59 : ((s[y.p].toNat : Int) == 59) = false := u8_lit (k := 59) (fun e => h59 e.symm) (by decide)
       by_cases h34 : s[y.p] = 34
       · have d34 : (s[y.p].toNat : Int) = 34 := by rw [h34]; rfl
         rw [d34] at hib; rw [lnF_34 hlt h34] at hHT
         by_cases h0 : (qutF s (y.p + 1)).1 = 0
         · have hqo := quot_ok g s _ wsy ps _ hy1 (by simp only; omega) hs (by omega) hyf h0; rw [if_pos h0] at hHT; have hge := qutF_ge s (y.p + 1); obtain ⟨hle, -⟩ := qutF_lt s (y.p + 1) h0; simp only [Int.natCast_add, Int.natCast_one] at hqo; clear h10 hb h59 d10 d59 h34 h0; go_wp2_with (first | (go_at_call 134; refine (hib _).mono ?_; rintro e w' ⟨rfl, rfl⟩) | (go_at_call 135; refine hqo.mono ?_; rintro e w2 ⟨rfl, ⟨v2, hx2⟩, hb2⟩))
           refine bodyPost_end (v := .tuple #[]) (by simp [results, go_sem]) rfl ⟨rfl, ?_⟩; refine ⟨_, _, ps, hx2, bel_two hby1 hb2, ?_, ?_, ?_⟩
           · refine Eq.trans (totX_line (by exact hyc) (by exact hyf)) ?_; rw [← hHT] <;> rfl
           · intro _; exact ⟨(by simp only; omega), (by simp only; omega), (fun h => absurd (hyf.symm.trans h) (by simp)), (fun _ => ⟨(by simp; omega), (by simp only; omega)⟩)⟩
           · intro _; simp only
             omega
         · have hqo := quot_bad g s _ wsy ps _ hy1 (by simp only; omega) hs hyc h0; rw [if_neg h0] at hHT; simp only [Int.natCast_add, Int.natCast_one] at hqo; clear h10 hb h59 d10 d59 h34; go_wp2_with (first | (go_at_call 134; refine (hib _).mono ?_; rintro e w' ⟨rfl, rfl⟩) | (go_at_call 135; refine hqo.mono ?_; rintro e w2 ⟨rfl, ⟨q2, hx2⟩, hg2⟩))
           refine bodyPost_end (v := .tuple #[]) (by simp [results, go_sem]) rfl ⟨rfl, ?_⟩; refine ⟨_, _, ps, hx2, bel_two hby1 (bel_gr hg2 (Nat.le_refl g) (by have := hy1.lt; simp; omega)), ?_, fun h => absurd h h0, fun h => absurd h h0⟩; refine Eq.trans (totX_bad (by exact h0)) ?_; rw [← hHT] <;> rfl
       · have d34 : ((s[y.p].toNat : Int) == 34) = false := u8_lit (k := 34) (fun e => h34 e.symm) (by decide)
         by_cases h40 : s[y.p] = 40
         · rw [lnF_40 hlt h40] at hHT; have d40 : (s[y.p].toNat : Int) = 40 := by rw [h40]; rfl
           rw [d40] at hib
           by_cases ho : y.o = 0
           · have hpa := paren_openS g s y wsy ps s[y.p] W0 hy (by omega) ho h40; rw [d40] at hpa; rw [if_pos ho] at hHT; clear h10 hb h59 d10 d59 h34 d34 h40; go_wp2_with (first | (go_at_call 134; refine (hib _).mono ?_; rintro e w' ⟨rfl, rfl⟩) | (go_at_call 136; refine hpa.mono ?_; rintro e w2 ⟨rfl, hx2, hg2⟩))
             refine bodyPost_end (v := .tuple #[]) (by simp [results, go_sem]) rfl ⟨rfl, ?_⟩; refine ⟨_, _, ps, hx2, bel_two hb0 (bel_gr hg2 (Nat.le_refl g) (by omega)), ?_, ?_, ?_⟩
             · refine Eq.trans (totX_line (by exact hyc) (by exact hyf)) ?_; rw [← hHT] <;> rfl
             · intro _; exact ⟨(by simp only; omega), (by simp only; omega), (fun h => absurd (hyf.symm.trans h) (by simp)), (fun _ => ⟨(by simp only; omega), (by simp only; omega)⟩)⟩
             · intro _; simp only
               omega
           · have hpa := paren_badS g s y wsy ps s[y.p] W0 hy (by omega) hyc (.inl ⟨h40, ho⟩); rw [d40] at hpa; rw [if_neg ho] at hHT; clear h10 hb h59 d10 d59 h34 d34 h40; go_wp2_with (first | (go_at_call 134; refine (hib _).mono ?_; rintro e w' ⟨rfl, rfl⟩) | (go_at_call 136; refine hpa.mono ?_; rintro e w2 ⟨rfl, hx2, hg2⟩))
             refine bodyPost_end (v := .tuple #[]) (by simp [results, go_sem]) rfl ⟨rfl, ?_⟩; refine ⟨_, _, ps, hx2, bel_two hb0 (bel_gr hg2 (Nat.le_refl g) (by omega)), ?_, (fun h => absurd h (by simp)), (fun h => absurd h (by simp))⟩; refine Eq.trans (totX_bad (by simp)) ?_; rw [← hHT] <;> rfl
         · have d40 : ((s[y.p].toNat : Int) == 40) = false := u8_lit (k := 40) (fun e => h40 e.symm) (by decide)
           by_cases h41 : s[y.p] = 41
           · rw [lnF_41 hlt h41] at hHT; have d41 : (s[y.p].toNat : Int) = 41 := by rw [h41]; rfl
             rw [d41] at hib
             by_cases ho : y.o = 0
             · have hpa := paren_badS g s y wsy ps s[y.p] W0 hy (by omega) hyc (.inr ⟨h41, ho⟩); rw [d41] at hpa; rw [if_pos ho] at hHT; clear h10 hb h59 d10 d59 h34 d34 h40 d40 h41; go_wp2_with (first | (go_at_call 134; refine (hib _).mono ?_; rintro e w' ⟨rfl, rfl⟩) | (go_at_call 136; refine hpa.mono ?_; rintro e w2 ⟨rfl, hx2, hg2⟩))
               refine bodyPost_end (v := .tuple #[]) (by simp [results, go_sem]) rfl ⟨rfl, ?_⟩; refine ⟨_, _, ps, hx2, bel_two hb0 (bel_gr hg2 (Nat.le_refl g) (by omega)), ?_, (fun h => absurd h (by simp)), (fun h => absurd h (by simp))⟩; refine Eq.trans (totX_bad (by simp)) ?_; rw [← hHT] <;> rfl
             · have hpa := paren_closeS g s y wsy ps s[y.p] W0 hy (by omega) ho h41; rw [d41] at hpa; rw [if_neg ho] at hHT; clear h10 hb h59 d10 d59 h34 d34 h40 d40 h41; go_wp2_with (first | (go_at_call 134; refine (hib _).mono ?_; rintro e w' ⟨rfl, rfl⟩) | (go_at_call 136; refine hpa.mono ?_; rintro e w2 ⟨rfl, hx2, hg2⟩))
               refine bodyPost_end (v := .tuple #[]) (by simp [results, go_sem]) rfl ⟨rfl, ?_⟩; refine ⟨_, _, ps, hx2, bel_two hb0 (bel_gr hg2 (Nat.le_refl g) (by omega)), ?_, ?_, ?_⟩
               · refine Eq.trans (totX_line (by exact hyc) (by exact hyf)) ?_; rw [← hHT] <;> rfl
               · intro _; exact ⟨(by simp only; omega), (by simp only; omega), (fun h => absurd (hyf.symm.trans h) (by simp)), (fun _ => ⟨(by simp only; omega), (by simp only; omega)⟩)⟩
               · intro _; simp only
                 omega
           · have d41 : ((s[y.p].toNat : Int) == 41) = false := u8_lit (k := 41) (fun e => h41 e.symm) (by decide)
             have hsp : isSp s[y.p] = false := by
              simp only [isSp, hb, Bool.false_or, Bool.or_eq_false_iff, beq_eq_false_iff_ne, ne_eq]; exact ⟨⟨⟨⟨h10, h59⟩, h40⟩, h41⟩, h34⟩
             rw [lnF_bar hlt hsp] at hHT
             by_cases h0 : (barF s y.p).1 = 0
             · have hqo := bare_ok g s y wsy ps W0 hy hlt hs (by omega) hyf h0; rw [if_pos h0] at hHT; have hge := barF_gt hlt hsp h0; have hle := barF_le s y.p (by omega); clear h10 hb h59 h34 h40 h41 hsp h0; go_wp2_with (first | (go_at_call 134; refine (hib _).mono ?_; rintro e w' ⟨rfl, rfl⟩) | (go_at_call 137; refine hqo.mono ?_; rintro e w2 ⟨rfl, ⟨v2, hx2⟩, hb2⟩))
               refine bodyPost_end (v := .tuple #[]) (by simp [results, go_sem]) rfl ⟨rfl, ?_⟩; refine ⟨_, _, ps, hx2, bel_two hb0 hb2, ?_, ?_, ?_⟩
               · refine Eq.trans (totX_line (by exact hyc) (by exact hyf)) ?_; rw [← hHT] <;> rfl
               · intro _; exact ⟨(by simp only; omega), (by simp only; omega), (fun h => absurd (hyf.symm.trans h) (by simp)), (fun _ => ⟨(by simp; omega), (by simp only; omega)⟩)⟩
               · intro _; simp only
                 omega
             · have hqo := bare_bad g s y wsy ps W0 hy hlt hs hyc h0; rw [if_neg h0] at hHT; clear h10 hb h59 h34 h40 h41 hsp; go_wp2_with (first | (go_at_call 134; refine (hib _).mono ?_; rintro e w' ⟨rfl, rfl⟩) | (go_at_call 137; refine hqo.mono ?_; rintro e w2 ⟨rfl, ⟨q2, hx2⟩, hg2⟩))
               refine bodyPost_end (v := .tuple #[]) (by simp [results, go_sem]) rfl ⟨rfl, ?_⟩; refine ⟨_, _, ps, hx2, bel_two hb0 (bel_gr hg2 (Nat.le_refl g) (by omega)), ?_, fun h => absurd h h0, fun h => absurd h h0⟩; refine Eq.trans (totX_bad (by exact h0)) ?_; rw [← hHT] <;> rfl
set_option maxRecDepth 100000 in
theorem step_any (g : Nat) (s : ByteArray) (x : XB) (ws : List Wrd) (ps : List Lp) (w : World) (h : XS w g s x ws ps) (hco : x.co = 0) (hlt : x.p < s.size) (hs : s.size ≤ 40000) (hG : GdX s x ws ps) :
 Calls Tryz.prog 72 #[.pointer (some ⟨g, 0, none⟩)] w (StP g s x.p (totX s x ws (ps.map (·.1))) w) := by
 cases hfr : x.fr with
 | false => exact step_line g s x ws ps w h hco hlt hs hG hfr
 | true =>
   obtain ⟨G1, G2, G3, -⟩ := hG hco; obtain ⟨ho, hp⟩ := G3 hfr; obtain ⟨p, n, o, num, bl, u, fr, vo, co, pl⟩ := x; simp only at hfr hco hlt ho hp G2
   subst hfr; subst ho; refine step_fresh g s ⟨p, n, 0, n, isBl s[p], .slice none 0 0, false, vo, co, pl⟩ num bl u ws ps _ w h hco hlt hs rfl rfl rfl rfl G2 hp ?_; show _ = _
   refine Eq.trans (totX_line (by exact hco) (by rfl)) (Eq.trans ?_ (totX_new (by exact hco) (by rfl)).symm); exact (lsF_cont hlt).symm
end Go.Proofs.YtddabafaejahbaaGreatDoor
