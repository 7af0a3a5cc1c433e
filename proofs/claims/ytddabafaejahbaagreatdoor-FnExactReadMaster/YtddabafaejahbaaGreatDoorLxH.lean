import Derived.Test.YtddabafaejahbaaGreatDoorJLxE
import Derived.WalkSpells
/- The program's lexer: a line, walked. -/
namespace Go.Proofs.YtddabafaejahbaaGreatDoor
open Go.RowKit
set_option linter.unusedVariables false
variable {RT : Array Value × Nat}
set_option maxRecDepth 100000 in
set_option maxHeartbeats 6400000 in
theorem line_any (g p n : Nat) (s : ByteArray) (w : World) (h : Lx RT w g s p n 0) (hp : p < s.size) (hs : s.size ≤ 40000) (hn : n ≤ p + 1) :
 Calls Tryz.prog 141 #[.pointer (some ⟨g, 0, none⟩)] w (LnP RT w.heap.size g s n (isBl s[p]) w (lnF s n p n 0 [])) := by
 have hl1 : Lx RT (w.alloc (.cells #[.int .i64 0, .bool false, .slice none 0 0] 64)) g s p n 0 := h.grown (b := none) ⟨rfl, rfl, rfl, by simp, fun k hk _ => heap_alloc_old _ _ hk⟩ (by simp); obtain ⟨c0, c1, c2, c3, hf⟩ := hl1.cells; have b2 := blk_new w #[.int .i64 0, .bool false, .slice none 0 0] 64; have hgl := h.lt; have HG0 := Nm.hide (gr_alloc (w := w) (g := g) (.cells #[.int .i64 0, .bool false, .slice none 0 0] 64)); have hib := fun W => isBlank_any s[p] W
 generalize hR : lnF s n p n 0 [] = R at *; have HR := Nm.hide hR; clear hR; generalize hbl : isBl s[p] = bl at *; clear hbl; generalize hw1 : w.alloc (.cells #[.int .i64 0, .bool false, .slice none 0 0] 64) = w1 at *; obtain ⟨i0, hi, hz0, hz1, hz2⟩ := info_parts Tryz.infoWord; go_enter Tryz.func141, Tryz.ntmps141; go_wp2; refine wp_region_last (fun W => W.cell? ⟨g, 0, none⟩ = some (.string s) ∧ W.cell? ⟨g, 1, none⟩ = some (.int .i64 (p : Int)) ∧ W.cell? ⟨g, 2, none⟩ = some (.int .i64 (n : Int))) 16 (by kernel_rfl) ⟨c0, c1, c2⟩ (fun hHeld => ?_); refine tkA 0 rfl ?_; refine tkA 1 rfl ?_; refine tkA 2 rfl ?_; refine tkA 3 rfl ?_; refine tkA 4 rfl ?_; refine tkA 5 rfl ?_; refine tkA 6 rfl ?_; refine tkA 7 rfl ?_; refine tkA 8 rfl ?_; refine tkA 9 rfl ?_; refine tkA 10 rfl ?_; refine tkA 11 rfl ?_; refine tkA 12 rfl ?_; have S2 := And.intro ((World.cell?_alloc_lt w1.drew (.cells #[.int .i64 0, .bool false, .slice none 0 0] 64) ⟨g, 0, none⟩ hl1.lt).trans c0) (And.intro ((World.cell?_alloc_lt w1.drew (.cells #[.int .i64 0, .bool false, .slice none 0 0] 64) ⟨g, 1, none⟩ hl1.lt).trans c1) ((World.cell?_alloc_lt w1.drew (.cells #[.int .i64 0, .bool false, .slice none 0 0] 64) ⟨g, 2, none⟩ hl1.lt).trans c2)); have b4 := blk_new w1.drew #[.int .i64 0, .bool false, .slice none 0 0] 64; have r4 := fun i => blk_cell b4 i
 have f4 := fun i => blk_frozen b4 i
 rename_i K0 hK0; apply via_key (K := K0)
 · intro key; refine wpAnyL_two (i := 13) (j := 15) (by kernel_rfl) rfl rfl (fun K hK => ?_) (fun K hK => ?_)
   · go_simp; refine (hib _).mono ?_; rintro e w' ⟨rfl, rfl⟩; go_wp2_with fail
     refine hK.out _ _ hHeld (fun hH => ?_); clear hK K; refine tkA 14 rfl ?_; refine wpAnyL_one (i := 15) (by kernel_rfl) rfl (fun K hK => ?_); go_simp; refine hK.out _ _ S2 (fun hH2 => ?_); clear hK K; refine wpAnyL_end (by kernel_rfl) rfl (by kernel_rfl) (fun K hK => ?_); go_simp; refine hK.out _ _ ?_; exact key
   · go_simp; refine hK.out _ _ S2 (fun hH => ?_); clear hK K; refine wpAnyL_one (i := 13) (by kernel_rfl) rfl (fun K hK => ?_); go_simp; refine (hib _).mono ?_; rintro e w' ⟨rfl, rfl⟩; go_wp2_with fail
     refine hK.out _ _ S2 (fun hH => ?_); clear hK K; refine tkA 14 rfl ?_; refine wpAnyL_end (by kernel_rfl) rfl (by kernel_rfl) (fun K hK => ?_); go_simp; refine hK.out _ _ ?_; exact key
 have e41 : w1.heap.size = w.heap.size + 1 := by rw [← hw1]; simp
 have gA := gr_alloc (w := w1) (g := g) (.cells #[.int .i64 n, .bool bl, .slice none 0 0] 64)
 have k4 : Blk (w1.alloc (.cells #[.int .i64 n, .bool bl, .slice none 0 0] 64)).drew (w.heap.size + 1) #[.int .i64 n, .bool bl, .slice none 0 0] 64 := by
  have := blk_new w1 #[.int .i64 n, .bool bl, .slice none 0 0] 64; rw [e41] at this; exact this
 have hl2 : Lx RT (w1.alloc (.cells #[.int .i64 n, .bool bl, .slice none 0 0] 64)).drew g s p n 0 := hl1.grown (b := none) ⟨rfl, rfl, rfl, by simp [World.drew], fun k hk _ => heap_alloc_old _ _ hk⟩ (by simp)
 have st0 : LSt RT w (w1.alloc (.cells #[.int .i64 n, .bool bl, .slice none 0 0] 64)).drew g s n bl p n 0 [] (.slice none 0 0) :=
  ⟨hl2, blk_alloc b2 _, k4, World.ownsRow_nil _ _ _ _, gr_trans HG0.out (gr_trans gA (gr_drew _ g)), hgl⟩
 go_wp2; rw [e41]; clear k4 hl2 gA HG0 b2 b4 r4 f4 S2 hHeld c0 c1 c2 c3 hf hl1 hw1 h hib e41; generalize (w1.alloc (.cells #[.int .i64 n, .bool bl, .slice none 0 0] 64)).drew = w2 at *
 go_loopw [] (fun wr => ∃ q m o ws v, p ≤ q ∧ q ≤ s.size ∧ m ≤ q + 1 ∧ ws.length ≤ q ∧ Hid (lnF s n q m o ws = R) ∧ LSt RT w wr g s n bl q m o ws v) (fun wr => mzL s.size g wr)
 case atStart => exact ⟨p, n, 0, [], _, Nat.le_refl _, by omega, hn, by simp, HR, st0⟩
 case round =>
  obtain ⟨q, m, o, ws, v, hpq, hq, hmq, hwq, HR2, st⟩ := hrel; clear HR st0; obtain ⟨c0, c1, c2, c3, hf⟩ := st.lx.cells; have hr := HR2.out; obtain ⟨va, vc, rfl⟩ := own_sl st.own
  obtain ⟨E, HE, hck⟩ : ∃ E : Value, Hid ((E = .nilIface ∧ ws.length ≤ 300) ∨ (E = linE n 15 ∧ 300 < ws.length)) ∧ ∀ W, Calls Tryz.prog 181 #[.agg #[.int .i64 (n : Int), .bool bl, .slice va ws.length vc]] W fun e w' => e = .returned E ∧ Below W.heap.size W w' := by
   by_cases h3 : ws.length ≤ 300
   · exact ⟨_, .inl ⟨rfl, h3⟩, fun W => check_ok n _ bl va vc W h3⟩
   · exact ⟨_, .inr ⟨rfl, by omega⟩, fun W => check_bad n _ bl va vc W (by omega)⟩
  clear HR2
  by_cases hlt : q < s.size
  · have d1 : decide (q = s.size) = false := by simp; omega
    have hen := fun W => (ended_any (RT := RT) g q m o s W)
    rw [d1] at hen; have hlx := st.lx; rw [lnF, dif_pos hlt] at hr
    by_cases h10 : s[q] = 10
    · have d10 : (s[q].toNat : Int) = 10 := by rw [h10]; rfl
      rw [dif_pos h10] at hr; have HS1 := fun k => Nm.hide (st.step (gr_trans (gr_trans (gr_drewN wr g k) (gr_set _ g 1 (.int .i64 ((q + 1 : Nat) : Int)))) (gr_set _ g 2 (.int .i64 ((m + 1 : Nat) : Int)))) (Lx.num (q := m + 1) (Lx.at (q := q + 1) (w := wr.drewN k) hlx)))
      simp only [Int.natCast_add, Int.natCast_one] at HS1
      by_cases ho : o = 0
      · subst ho; rw [if_pos rfl] at hr; clear h10; go_wp2_with (go_at_call 140; refine (hen _ hlx).mono ?_; rintro e w' ⟨rfl, rfl⟩)
        go_quiet (fail)
        go_wp2; have st1 := (HS1 (1 + nq)).out; clear HS1; generalize ((wr.drewN (1 + nq)).setCell ⟨g, 1, none⟩ (.int .i64 ((q : Int) + 1))).setCell ⟨g, 2, none⟩ (.int .i64 ((m : Int) + 1)) = W1 at *; clear c0 c1 c2 c3 hf hlx st; have r4 := fun i => blk_cell st1.k4 i
        have r40 : W1.drew.cell? ⟨w.heap.size + 1, 0, none⟩ = some (.int .i64 (n : Int)) := r4 0; have r41 : W1.drew.cell? ⟨w.heap.size + 1, 1, none⟩ = some (.bool bl) := r4 1; have r42 : W1.drew.cell? ⟨w.heap.size + 1, 2, none⟩ = some (.slice va ws.length vc) := r4 2; clear r4; refine wp_region_last (fun W => W.cell? ⟨w.heap.size + 1, 0, none⟩ = some (.int .i64 (n : Int)) ∧ W.cell? ⟨w.heap.size + 1, 1, none⟩ = some (.bool bl) ∧ W.cell? ⟨w.heap.size + 1, 2, none⟩ = some (.slice va ws.length vc)) 4 (by kernel_rfl) ⟨r40, r41, r42⟩ (fun hHeld => ?_); refine tkA 0 rfl ?_; refine tkA 1 rfl ?_; refine wpAnyL_one (i := 2) (by kernel_rfl) rfl (fun K hK => ?_); go_simp; refine (hck _).mono ?_; rintro e w3 ⟨rfl, hb3⟩; go_wp2_with fail
        have st3 : LSt RT w w3 g s n bl (q + 1) (m + 1) 0 ws (.slice va ws.length vc) := st1.step (gr_belL (gr_drew W1 g) hb3) (Lx.below (w := W1.drew) st1.lx hb3); have r4 := fun i => blk_cell st3.k4 i
        refine hK.out _ _ ⟨r4 0, r4 1, r4 2⟩ (fun hH3 => ?_); clear hK K; have r2 := fun i => blk_cell st3.k2 i
        have f2 := fun i => blk_frozen st3.k2 i
        refine wpAnyL_one (i := 3) (by kernel_rfl) rfl (fun K hK => ?_); go_simp; have kW := blk_set (blk_set (blk_set st3.k2 0 (.int .i64 (n : Int))) 1 (.bool bl)) 2 (.slice va ws.length vc); have k44 := blk_far (c := w.heap.size) (i := 2) (v := .slice va ws.length vc) (blk_far (c := w.heap.size) (i := 1) (v := .bool bl) (blk_far (c := w.heap.size) (i := 0) (v := .int .i64 (n : Int)) st3.k4 (by omega)) (by omega)) (by omega); have ne2 := own_blkL st3.own st3.k2 (by decide); have lx4 := ((st3.lx.far (k := w.heap.size) (i := 0) (y := .int .i64 (n : Int)) (by omega)).far (k := w.heap.size) (i := 1) (y := .bool bl) (by omega)).far (k := w.heap.size) (i := 2) (y := .slice va ws.length vc) (by omega); have ow4 := own_far (i := 2) (y := .slice va ws.length vc) (own_far (i := 1) (y := .bool bl) (own_far (i := 0) (y := .int .i64 (n : Int)) st3.own ne2) ne2) ne2; have HG4 := gr_new (k := w.heap.size) (i := 2) (y := .slice va ws.length vc) (gr_new (k := w.heap.size) (i := 1) (y := .bool bl) (gr_new (k := w.heap.size) (i := 0) (y := .int .i64 (n : Int)) st3.gr (Nat.le_refl _)) (Nat.le_refl _)) (Nat.le_refl _); have r44 := fun i => blk_cell k44 i
        refine hK.out _ _ ⟨r44 0, r44 1, r44 2⟩ (fun hH4 => ?_); clear hK K; refine wpAnyL_end (by kernel_rfl) rfl (by kernel_rfl) (fun K hK => ?_); go_simp; refine hK.out _ _ ?_; clear hK K; go_wp2; have rk := fun i => blk_cell kW i
        refine bodyPost_ret (v := .tuple #[.agg #[.int .i64 (n : Int), .bool bl, .slice va ws.length vc], E]) ?_ rfl ?_
        · simp [results, Tryz.f141, go_sem, rk]
        · refine ⟨HG4, ?_⟩
          rcases HE.out with ⟨rfl, h3⟩ | ⟨rfl, h3⟩
          · rw [finL, if_neg (by omega)] at hr; subst hr; exact ⟨_, rfl, lx4, ow4⟩
          · rw [finL, if_pos h3] at hr; subst hr; exact ⟨_, _, _, _, _, rfl⟩
      · rw [if_neg ho] at hr; have HRn := Nm.hide hr; have do1 : ((o : Int) == 0) = false := by simp; omega
        clear h10 hr; go_wp2_with (go_at_call 140; refine (hen _ hlx).mono ?_; rintro e w' ⟨rfl, rfl⟩)
        go_quiet (fail)
        go_wp2; go_roundw
        case rel => exact ⟨q + 1, m + 1, o, ws, _, by omega, by omega, by omega, by omega, HRn, (HS1 _).out⟩
        case measure => rw [mzL_at hlx]; exact Nat.lt_of_le_of_lt (Nat.le_of_eq (mzL_at (HS1 (1 + nq)).out.lx)) (by omega)
    · rw [dif_neg h10] at hr; have d10 : ((s[q].toNat : Int) == 10) = false := u8_lit (k := 10) (fun e => h10 e.symm) (by decide); have hib := fun W => isBlank_any s[q] W
      have hwq : (q : Int) + 1 ≤ 40001 := by omega
      cases hb : isBl s[q] with
      | true =>
        rw [if_pos hb] at hr; rw [hb] at hib; have HRn := Nm.hide hr; have HS1 := fun k => Nm.hide (st.step (gr_trans (gr_drewN wr g k) (gr_set _ g 1 (.int .i64 ((q + 1 : Nat) : Int)))) (Lx.at (q := q + 1) (w := wr.drewN k) hlx))
        simp only [Int.natCast_add, Int.natCast_one] at HS1; clear h10 hr hb; go_wp2_with (go_at_call 140; refine (hen _ hlx).mono ?_; rintro e w' ⟨rfl, rfl⟩)
        go_quiet (fail)
        go_wp2_with (go_at_call 180; refine (hib _).mono ?_; rintro e w' ⟨rfl, rfl⟩)
        go_roundw
        case rel => exact ⟨q + 1, m, o, ws, _, by omega, by omega, by omega, by omega, HRn, (HS1 _).out⟩
        case measure => rw [mzL_at hlx]; exact Nat.lt_of_le_of_lt (Nat.le_of_eq (mzL_at (HS1 (1 + nq)).out.lx)) (by omega)
      | false =>
        rw [if_neg (by simp [hb])] at hr; rw [hb] at hib
        by_cases h59 : s[q] = 59
        · have d59 : (s[q].toNat : Int) = 59 := by rw [h59]; rfl
          rw [d59] at hib; rw [if_pos h59] at hr; have HRn : Hid (lnF s n (comE s q) m o ws = R) := hr; have hgt := comE_gt hlt h10; have hle := comE_le s q hq; have hcm := fun k => comment_any g q m o s (wr.drewN k) hlx hq (by omega)
          generalize comE s q = q' at *; clear h10 hr hb h59 d10; go_wp2_with (go_at_call 140; refine (hen _ hlx).mono ?_; rintro e w' ⟨rfl, rfl⟩)
          go_quiet (fail)
          go_wp2_with (first | (go_at_call 180; refine (hib _).mono ?_; rintro e w' ⟨rfl, rfl⟩) | (go_at_call 182; refine (hcm _).mono ?_; rintro e w3 ⟨rfl, hl3, hg3⟩))
          go_roundw
          case rel => exact ⟨q', m, o, ws, _, by omega, by omega, by omega, by omega, HRn, st.step (gr_trans (gr_drewN _ _ _) hg3) hl3⟩
          case measure => rw [mzL_at hlx, mzL_at hl3]; omega
        · rw [if_neg h59] at hr; have d59 : ((s[q].toNat : Int) == 59) = false := u8_lit (k := 59) (fun e => h59 e.symm) (by decide)
          by_cases h40 : s[q] = 40
          · rw [if_pos h40] at hr; have d40 : (s[q].toNat : Int) = 40 := by rw [h40]; rfl
            rw [d40] at hib
            by_cases ho : o = 0
            · subst ho; rw [if_pos rfl] at hr; have HRn := Nm.hide hr; have hpa := fun k => paren_open g q m s (wr.drewN k) hlx hlt (by omega) h40
              clear h10 hr hb h59 d10 d59 h40; go_wp2_with (go_at_call 140; refine (hen _ hlx).mono ?_; rintro e w' ⟨rfl, rfl⟩)
              go_quiet (fail)
              go_wp2_with (first | (go_at_call 180; refine (hib _).mono ?_; rintro e w' ⟨rfl, rfl⟩) | (go_at_call 183; refine (hpa _).mono ?_; rintro e w3 ⟨rfl, hl3, hg3⟩))
              go_roundw
              case rel => exact ⟨q + 1, m, m, ws, _, by omega, by omega, by omega, by omega, HRn, st.step (gr_trans (gr_drewN _ _ _) hg3) hl3⟩
              case measure => rw [mzL_at hlx, mzL_at hl3]; omega
            · rw [if_neg ho] at hr; subst hr; have hpa := fun k => paren_bad g q m o s (wr.drewN k) hlx hlt (by omega) (.inl ⟨h40, ho⟩)
              clear h10 hb h59 d10 d59 h40; go_wp2_with (go_at_call 140; refine (hen _ hlx).mono ?_; rintro e w' ⟨rfl, rfl⟩)
              go_quiet (fail)
              go_wp2_with (first | (go_at_call 180; refine (hib _).mono ?_; rintro e w' ⟨rfl, rfl⟩) | (go_at_call 183; refine (hpa _).mono ?_; rintro e w3 ⟨rfl, hg3⟩; have k23 := blk_grown (w := wr.drewN _) st.k2 hg3 (fun e => by simp at e; omega); have r2 := fun i => blk_cell k23 i; have f2 := fun i => blk_frozen k23 i))
              have HG4 := gr_new (k := w.heap.size) (i := 2) (y := .slice none 0 0) (gr_new (k := w.heap.size) (i := 1) (y := .bool false) (gr_new (k := w.heap.size) (i := 0) (y := .int .i64 0) (gr_trans st.gr (gr_trans (gr_drewN wr g _) hg3)) (Nat.le_refl _)) (Nat.le_refl _)) (Nat.le_refl _); have kW := blk_set (blk_set (blk_set k23 0 (.int .i64 0)) 1 (.bool false)) 2 (.slice none 0 0); have rk := fun i => blk_cell kW i
              refine bodyPost_ret (v := .tuple #[.agg #[.int .i64 0, .bool false, .slice none 0 0], _]) ?_ rfl ⟨HG4, _, _, _, _, _, rfl⟩; simp [results, Tryz.f141, go_sem, rk]
          · rw [if_neg h40] at hr; have d40 : ((s[q].toNat : Int) == 40) = false := u8_lit (k := 40) (fun e => h40 e.symm) (by decide)
            by_cases h41 : s[q] = 41
            · rw [if_pos h41] at hr; have d41 : (s[q].toNat : Int) = 41 := by rw [h41]; rfl
              rw [d41] at hib
              by_cases ho : o = 0
              · rw [if_pos ho] at hr; subst hr; have hpa := fun k => paren_bad g q m o s (wr.drewN k) hlx hlt (by omega) (.inr ⟨h41, ho⟩)
                clear h10 hb h59 d10 d59 h40 h41 d40 ho; go_wp2_with (go_at_call 140; refine (hen _ hlx).mono ?_; rintro e w' ⟨rfl, rfl⟩)
                go_quiet (fail)
                go_wp2_with (first | (go_at_call 180; refine (hib _).mono ?_; rintro e w' ⟨rfl, rfl⟩) | (go_at_call 183; refine (hpa _).mono ?_; rintro e w3 ⟨rfl, hg3⟩; have k23 := blk_grown (w := wr.drewN _) st.k2 hg3 (fun e => by simp at e; omega); have r2 := fun i => blk_cell k23 i; have f2 := fun i => blk_frozen k23 i))
                have HG4 := gr_new (k := w.heap.size) (i := 2) (y := .slice none 0 0) (gr_new (k := w.heap.size) (i := 1) (y := .bool false) (gr_new (k := w.heap.size) (i := 0) (y := .int .i64 0) (gr_trans st.gr (gr_trans (gr_drewN wr g _) hg3)) (Nat.le_refl _)) (Nat.le_refl _)) (Nat.le_refl _); have kW := blk_set (blk_set (blk_set k23 0 (.int .i64 0)) 1 (.bool false)) 2 (.slice none 0 0); have rk := fun i => blk_cell kW i
                refine bodyPost_ret (v := .tuple #[.agg #[.int .i64 0, .bool false, .slice none 0 0], _]) ?_ rfl ⟨HG4, _, _, _, _, _, rfl⟩; simp [results, Tryz.f141, go_sem, rk]
              · rw [if_neg ho] at hr; have HRn := Nm.hide hr; have hpa := fun k => paren_close g q m o s (wr.drewN k) hlx hlt (by omega) h41 ho
                clear h10 hr hb h59 d10 d59 h40 d40 h41 ho; go_wp2_with (go_at_call 140; refine (hen _ hlx).mono ?_; rintro e w' ⟨rfl, rfl⟩)
                go_quiet (fail)
                go_wp2_with (first | (go_at_call 180; refine (hib _).mono ?_; rintro e w' ⟨rfl, rfl⟩) | (go_at_call 183; refine (hpa _).mono ?_; rintro e w3 ⟨rfl, hl3, hg3⟩))
                go_roundw
                case rel => exact ⟨q + 1, m, 0, ws, _, by omega, by omega, by omega, by omega, HRn, st.step (gr_trans (gr_drewN _ _ _) hg3) hl3⟩
                case measure => rw [mzL_at hlx, mzL_at hl3]; omega
            · rw [if_neg h41] at hr; have d41 : ((s[q].toNat : Int) == 41) = false := u8_lit (k := 41) (fun e => h41 e.symm) (by decide); have hal : ∀ k, Lx RT ((wr.drewN k).alloc (.cells #[.string ⟨#[]⟩, .bool false] 40)) g s q m o := fun k => Lx.grown (w := wr.drewN k) (b := none) hlx ⟨rfl, rfl, rfl, by simp, fun k hk _ => heap_alloc_old _ _ hk⟩ (by simp)
              have hfour := st.four; have neV : (Value.slice va ws.length vc).ownBlock ≠ some wr.heap.size := fun e => by have := (st.own.lt _ e).2; omega
              have hgl2 := hlx.lt
              by_cases h34 : s[q] = 34
              · rw [if_pos h34] at hr
                by_cases h0 : (qutF s (q + 1)).1 = 0
                · rw [if_pos h0] at hr; have HRn : Hid (lnF s n ((qutF s (q + 1)).2 + 1) m o (ws ++ [(s.extract (q + 1) (qutF s (q + 1)).2, true)]) = R) := hr; have hwd := fun k => wordQ_ok g q m o s _ (hal k) hlt (by omega) h34 h0
                  have hge := qutF_ge s (q + 1); obtain ⟨hle, -⟩ := qutF_lt s (q + 1) h0; obtain ⟨X, hX⟩ : ∃ X, X = s.extract (q + 1) (qutF s (q + 1)).2 := ⟨_, rfl⟩; rw [← hX] at hwd HRn; clear hX h0 hr; generalize (qutF s (q + 1)).2 = q' at *; clear h10 hb h59 h40 h41 h34; go_wp2_with (go_at_call 140; refine (hen _ hlx).mono ?_; rintro e w' ⟨rfl, rfl⟩)
                  go_quiet (fail)
                  go_wp2_with fail
                  go_at_call 180
                  refine (hib _).mono ?_; rintro e w' ⟨rfl, rfl⟩; go_wp2_with fail
                  go_at_call 184
                  refine (hwd _).mono ?_; rintro e w3 ⟨rfl, hl3, hg3⟩; have b7 : Blk w3 wr.heap.size #[.string ⟨#[]⟩, .bool false] 40 := blk_grown (blk_new (wr.drewN _) #[.string ⟨#[]⟩, .bool false] 40) hg3 (fun e => by simp at e; omega); have f7 := fun i => blk_frozen b7 i
                  have r70 : w3.cell? ⟨wr.heap.size, 0, none⟩ = some (.string ⟨#[]⟩) := blk_cell b7 0; have r71 : w3.cell? ⟨wr.heap.size, 1, none⟩ = some (.bool false) := blk_cell b7 1; have st3 := st.step (gr_trans (gr_drewN wr g _) (gr_trans (gr_alloc _) hg3)) hl3; have bX := blk_set (blk_set b7 0 (.string X)) 1 (.bool true); have st4 := (st3.far (b := wr.heap.size) (i := 0) (y := .string X) hfour neV).far (b := wr.heap.size) (i := 1) (y := .bool true) hfour neV; have rX0 : ((w3.setCell ⟨wr.heap.size, 0, none⟩ (.string X)).setCell ⟨wr.heap.size, 1, none⟩ (.bool true)).cell? ⟨wr.heap.size, 0, none⟩ = some (.string X) := blk_cell bX 0; have rX1 : ((w3.setCell ⟨wr.heap.size, 0, none⟩ (.string X)).setCell ⟨wr.heap.size, 1, none⟩ (.bool true)).cell? ⟨wr.heap.size, 1, none⟩ = some (.bool true) := blk_cell bX 1; have r42 : ((w3.setCell ⟨wr.heap.size, 0, none⟩ (.string X)).setCell ⟨wr.heap.size, 1, none⟩ (.bool true)).cell? ⟨w.heap.size + 1, 2, none⟩ = some (.slice va ws.length vc) := blk_cell st4.k4 2; have HS5 := Nm.hide (st4.step (gr_alloc (.cells #[.string X, .bool true] 40)) (Lx.grown (b := none) st4.lx ⟨rfl, rfl, rfl, by simp, fun k hk _ => heap_alloc_old _ _ hk⟩ (by simp))); clear st3 st4 bX b7 hwd hib hen hck hal neV; go_wp2_with (at_builtin; refine wpList_append_own _ rfl (.tmp 41) (.tmp 43) 26 rfl w.heap.size 40 i0 (.agg #[.string ⟨#[]⟩, .bool false]) 2 24 Tryz.underlying26 hi hz0 hz1 hz2 rfl (by decide) _ _ _ rfl HS5.out.own ⟨w3.heap.size, 0, none⟩ 1 1 [.string X, .bool true] rfl rfl (cellL2 _ _ _ _ _ (by simp)) (twoL _ _ rfl rfl) (by unfold maxLen; omega) (by omega) (Nat.le_trans (Nat.le_add_right _ 2) HS5.out.four) ?_; intro v6 w6 ho6 hg6 hnl6; clear hnl6; obtain ⟨a6, c6, rfl⟩ := own_sl ho6; obtain ⟨k46, st6⟩ := HS5.out.put (x := (X, true)) ho6 hg6; have r46 := fun i => blk_cell k46 i; have f46 := fun i => blk_frozen k46 i; have r26 := fun i => blk_cell st6.k2 i; have f26 := fun i => blk_frozen st6.k2 i)
                  go_roundw
                  case rel => exact ⟨q' + 1, m, o, ws ++ [(X, true)], _, by omega, by omega, by omega, by simp; omega, HRn, st6⟩
                  case measure => rw [mzL_at hlx, mzL_at st6.lx]; omega
                · rw [if_neg h0] at hr; subst hr; have hwd := fun k => wordQ_bad g q m o s _ (hal k) hlt (by omega) h34 h0
                  generalize (qutF s (q + 1)).1 = C at *; clear h10 hb h59 h40 h41 h34 h0; go_wp2_with (go_at_call 140; refine (hen _ hlx).mono ?_; rintro e w' ⟨rfl, rfl⟩)
                  go_quiet (fail)
                  go_wp2_with fail
                  go_at_call 180
                  refine (hib _).mono ?_; rintro e w' ⟨rfl, rfl⟩; go_wp2_with fail
                  go_at_call 184
                  refine (hwd _).mono ?_; rintro e w3 ⟨rfl, ⟨q3, hl3⟩, hg3⟩; have b7 : Blk w3 wr.heap.size #[.string ⟨#[]⟩, .bool false] 40 := blk_grown (blk_new (wr.drewN _) #[.string ⟨#[]⟩, .bool false] 40) hg3 (fun e => by simp at e; omega); have f7 := fun i => blk_frozen b7 i
                  have r70 : w3.cell? ⟨wr.heap.size, 0, none⟩ = some (.string ⟨#[]⟩) := blk_cell b7 0; have r71 : w3.cell? ⟨wr.heap.size, 1, none⟩ = some (.bool false) := blk_cell b7 1; have st3 := st.step (gr_trans (gr_drewN wr g _) (gr_trans (gr_alloc _) hg3)) hl3; have bX := blk_set (blk_set b7 0 (.string ⟨#[]⟩)) 1 (.bool false); have st4 := (st3.far (b := wr.heap.size) (i := 0) (y := .string ⟨#[]⟩) hfour neV).far (b := wr.heap.size) (i := 1) (y := .bool false) hfour neV; have rX0 : ((w3.setCell ⟨wr.heap.size, 0, none⟩ (.string ⟨#[]⟩)).setCell ⟨wr.heap.size, 1, none⟩ (.bool false)).cell? ⟨wr.heap.size, 0, none⟩ = some (.string ⟨#[]⟩) := blk_cell bX 0; have rX1 : ((w3.setCell ⟨wr.heap.size, 0, none⟩ (.string ⟨#[]⟩)).setCell ⟨wr.heap.size, 1, none⟩ (.bool false)).cell? ⟨wr.heap.size, 1, none⟩ = some (.bool false) := blk_cell bX 1; have r42 : ((w3.setCell ⟨wr.heap.size, 0, none⟩ (.string ⟨#[]⟩)).setCell ⟨wr.heap.size, 1, none⟩ (.bool false)).cell? ⟨w.heap.size + 1, 2, none⟩ = some (.slice va ws.length vc) := blk_cell st4.k4 2; have HS5 := Nm.hide (st4.step (gr_alloc (.cells #[.string ⟨#[]⟩, .bool false] 40)) (Lx.grown (b := none) st4.lx ⟨rfl, rfl, rfl, by simp, fun k hk _ => heap_alloc_old _ _ hk⟩ (by simp))); clear st3 st4 bX b7 hwd hib hen hck hal neV; go_wp2_with (at_builtin; refine wpList_append_own _ rfl (.tmp 41) (.tmp 43) 26 rfl w.heap.size 40 i0 (.agg #[.string ⟨#[]⟩, .bool false]) 2 24 Tryz.underlying26 hi hz0 hz1 hz2 rfl (by decide) _ _ _ rfl HS5.out.own ⟨w3.heap.size, 0, none⟩ 1 1 [.string ⟨#[]⟩, .bool false] rfl rfl (cellL2 _ _ _ _ _ (by simp)) (twoL _ _ rfl rfl) (by unfold maxLen; omega) (by omega) (Nat.le_trans (Nat.le_add_right _ 2) HS5.out.four) ?_; intro v6 w6 ho6 hg6 hnl6; clear hnl6; obtain ⟨a6, c6, rfl⟩ := own_sl ho6; obtain ⟨k46, st6⟩ := HS5.out.put (x := (⟨#[]⟩, false)) ho6 hg6; have r46 := fun i => blk_cell k46 i; have f46 := fun i => blk_frozen k46 i; have r26 := fun i => blk_cell st6.k2 i; have f26 := fun i => blk_frozen st6.k2 i)
                  have HG4 := gr_new (k := w.heap.size) (i := 2) (y := .slice none 0 0) (gr_new (k := w.heap.size) (i := 1) (y := .bool false) (gr_new (k := w.heap.size) (i := 0) (y := .int .i64 0) st6.gr (Nat.le_refl _)) (Nat.le_refl _)) (Nat.le_refl _); have kW := blk_set (blk_set (blk_set st6.k2 0 (.int .i64 0)) 1 (.bool false)) 2 (.slice none 0 0); have rk := fun i => blk_cell kW i
                  refine bodyPost_ret (v := .tuple #[.agg #[.int .i64 0, .bool false, .slice none 0 0], _]) ?_ rfl ⟨HG4, _, _, _, _, _, rfl⟩; simp [results, Tryz.f141, go_sem, rk]
              · rw [if_neg h34] at hr
                have hsp : isSp s[q] = false := by
                 simp only [isSp, hb, Bool.false_or, Bool.or_eq_false_iff, beq_eq_false_iff_ne, ne_eq]; exact ⟨⟨⟨⟨h10, h59⟩, h40⟩, h41⟩, h34⟩
                by_cases h0 : (barF s q).1 = 0
                · rw [dif_pos ⟨hsp, h0⟩] at hr; have HRn : Hid (lnF s n (barF s q).2 m o (ws ++ [(s.extract q (barF s q).2, false)]) = R) := hr; have hwd := fun k => word_ok g q m o s _ (hal k) hlt (by omega) hsp h0
                  have hge := barF_gt hlt hsp h0; have hle := barF_le s q hq; obtain ⟨X, hX⟩ : ∃ X, X = s.extract q (barF s q).2 := ⟨_, rfl⟩; rw [← hX] at hwd HRn; clear hX h0 hr; generalize (barF s q).2 = q' at *; clear h10 hb h59 h40 h41 h34 hsp; go_wp2_with (go_at_call 140; refine (hen _ hlx).mono ?_; rintro e w' ⟨rfl, rfl⟩)
                  go_quiet (fail)
                  go_wp2_with fail
                  go_at_call 180
                  refine (hib _).mono ?_; rintro e w' ⟨rfl, rfl⟩; go_wp2_with fail
                  go_at_call 184
                  refine (hwd _).mono ?_; rintro e w3 ⟨rfl, hl3, hg3⟩; have b7 : Blk w3 wr.heap.size #[.string ⟨#[]⟩, .bool false] 40 := blk_grown (blk_new (wr.drewN _) #[.string ⟨#[]⟩, .bool false] 40) hg3 (fun e => by simp at e; omega); have f7 := fun i => blk_frozen b7 i
                  have r70 : w3.cell? ⟨wr.heap.size, 0, none⟩ = some (.string ⟨#[]⟩) := blk_cell b7 0; have r71 : w3.cell? ⟨wr.heap.size, 1, none⟩ = some (.bool false) := blk_cell b7 1; have st3 := st.step (gr_trans (gr_drewN wr g _) (gr_trans (gr_alloc _) hg3)) hl3; have bX := blk_set (blk_set b7 0 (.string X)) 1 (.bool false); have st4 := (st3.far (b := wr.heap.size) (i := 0) (y := .string X) hfour neV).far (b := wr.heap.size) (i := 1) (y := .bool false) hfour neV; have rX0 : ((w3.setCell ⟨wr.heap.size, 0, none⟩ (.string X)).setCell ⟨wr.heap.size, 1, none⟩ (.bool false)).cell? ⟨wr.heap.size, 0, none⟩ = some (.string X) := blk_cell bX 0; have rX1 : ((w3.setCell ⟨wr.heap.size, 0, none⟩ (.string X)).setCell ⟨wr.heap.size, 1, none⟩ (.bool false)).cell? ⟨wr.heap.size, 1, none⟩ = some (.bool false) := blk_cell bX 1; have r42 : ((w3.setCell ⟨wr.heap.size, 0, none⟩ (.string X)).setCell ⟨wr.heap.size, 1, none⟩ (.bool false)).cell? ⟨w.heap.size + 1, 2, none⟩ = some (.slice va ws.length vc) := blk_cell st4.k4 2; have HS5 := Nm.hide (st4.step (gr_alloc (.cells #[.string X, .bool false] 40)) (Lx.grown (b := none) st4.lx ⟨rfl, rfl, rfl, by simp, fun k hk _ => heap_alloc_old _ _ hk⟩ (by simp))); clear st3 st4 bX b7 hwd hib hen hck hal neV; go_wp2_with (at_builtin; refine wpList_append_own _ rfl (.tmp 41) (.tmp 43) 26 rfl w.heap.size 40 i0 (.agg #[.string ⟨#[]⟩, .bool false]) 2 24 Tryz.underlying26 hi hz0 hz1 hz2 rfl (by decide) _ _ _ rfl HS5.out.own ⟨w3.heap.size, 0, none⟩ 1 1 [.string X, .bool false] rfl rfl (cellL2 _ _ _ _ _ (by simp)) (twoL _ _ rfl rfl) (by unfold maxLen; omega) (by omega) (Nat.le_trans (Nat.le_add_right _ 2) HS5.out.four) ?_; intro v6 w6 ho6 hg6 hnl6; clear hnl6; obtain ⟨a6, c6, rfl⟩ := own_sl ho6; obtain ⟨k46, st6⟩ := HS5.out.put (x := (X, false)) ho6 hg6; have r46 := fun i => blk_cell k46 i; have f46 := fun i => blk_frozen k46 i; have r26 := fun i => blk_cell st6.k2 i; have f26 := fun i => blk_frozen st6.k2 i)
                  go_roundw
                  case rel => exact ⟨q', m, o, ws ++ [(X, false)], _, by omega, by omega, by omega, by simp; omega, HRn, st6⟩
                  case measure => rw [mzL_at hlx, mzL_at st6.lx]; omega
                · rw [dif_neg (fun h => h0 h.2)] at hr; subst hr; have hwd := fun k => word_bad g q m o s _ (hal k) hlt (by omega) hsp h0
                  generalize (barF s q).1 = C at *; clear h10 hb h59 h40 h41 h34 h0 hsp; go_wp2_with (go_at_call 140; refine (hen _ hlx).mono ?_; rintro e w' ⟨rfl, rfl⟩)
                  go_quiet (fail)
                  go_wp2_with fail
                  go_at_call 180
                  refine (hib _).mono ?_; rintro e w' ⟨rfl, rfl⟩; go_wp2_with fail
                  go_at_call 184
                  refine (hwd _).mono ?_; rintro e w3 ⟨rfl, ⟨q3, hl3⟩, hg3⟩; have b7 : Blk w3 wr.heap.size #[.string ⟨#[]⟩, .bool false] 40 := blk_grown (blk_new (wr.drewN _) #[.string ⟨#[]⟩, .bool false] 40) hg3 (fun e => by simp at e; omega); have f7 := fun i => blk_frozen b7 i
                  have r70 : w3.cell? ⟨wr.heap.size, 0, none⟩ = some (.string ⟨#[]⟩) := blk_cell b7 0; have r71 : w3.cell? ⟨wr.heap.size, 1, none⟩ = some (.bool false) := blk_cell b7 1; have st3 := st.step (gr_trans (gr_drewN wr g _) (gr_trans (gr_alloc _) hg3)) hl3; have bX := blk_set (blk_set b7 0 (.string ⟨#[]⟩)) 1 (.bool false); have st4 := (st3.far (b := wr.heap.size) (i := 0) (y := .string ⟨#[]⟩) hfour neV).far (b := wr.heap.size) (i := 1) (y := .bool false) hfour neV; have rX0 : ((w3.setCell ⟨wr.heap.size, 0, none⟩ (.string ⟨#[]⟩)).setCell ⟨wr.heap.size, 1, none⟩ (.bool false)).cell? ⟨wr.heap.size, 0, none⟩ = some (.string ⟨#[]⟩) := blk_cell bX 0; have rX1 : ((w3.setCell ⟨wr.heap.size, 0, none⟩ (.string ⟨#[]⟩)).setCell ⟨wr.heap.size, 1, none⟩ (.bool false)).cell? ⟨wr.heap.size, 1, none⟩ = some (.bool false) := blk_cell bX 1; have r42 : ((w3.setCell ⟨wr.heap.size, 0, none⟩ (.string ⟨#[]⟩)).setCell ⟨wr.heap.size, 1, none⟩ (.bool false)).cell? ⟨w.heap.size + 1, 2, none⟩ = some (.slice va ws.length vc) := blk_cell st4.k4 2; have HS5 := Nm.hide (st4.step (gr_alloc (.cells #[.string ⟨#[]⟩, .bool false] 40)) (Lx.grown (b := none) st4.lx ⟨rfl, rfl, rfl, by simp, fun k hk _ => heap_alloc_old _ _ hk⟩ (by simp))); clear st3 st4 bX b7 hwd hib hen hck hal neV; go_wp2_with (at_builtin; refine wpList_append_own _ rfl (.tmp 41) (.tmp 43) 26 rfl w.heap.size 40 i0 (.agg #[.string ⟨#[]⟩, .bool false]) 2 24 Tryz.underlying26 hi hz0 hz1 hz2 rfl (by decide) _ _ _ rfl HS5.out.own ⟨w3.heap.size, 0, none⟩ 1 1 [.string ⟨#[]⟩, .bool false] rfl rfl (cellL2 _ _ _ _ _ (by simp)) (twoL _ _ rfl rfl) (by unfold maxLen; omega) (by omega) (Nat.le_trans (Nat.le_add_right _ 2) HS5.out.four) ?_; intro v6 w6 ho6 hg6 hnl6; clear hnl6; obtain ⟨a6, c6, rfl⟩ := own_sl ho6; obtain ⟨k46, st6⟩ := HS5.out.put (x := (⟨#[]⟩, false)) ho6 hg6; have r46 := fun i => blk_cell k46 i; have f46 := fun i => blk_frozen k46 i; have r26 := fun i => blk_cell st6.k2 i; have f26 := fun i => blk_frozen st6.k2 i)
                  have HG4 := gr_new (k := w.heap.size) (i := 2) (y := .slice none 0 0) (gr_new (k := w.heap.size) (i := 1) (y := .bool false) (gr_new (k := w.heap.size) (i := 0) (y := .int .i64 0) st6.gr (Nat.le_refl _)) (Nat.le_refl _)) (Nat.le_refl _); have kW := blk_set (blk_set (blk_set st6.k2 0 (.int .i64 0)) 1 (.bool false)) 2 (.slice none 0 0); have rk := fun i => blk_cell kW i
                  refine bodyPost_ret (v := .tuple #[.agg #[.int .i64 0, .bool false, .slice none 0 0], _]) ?_ rfl ⟨HG4, _, _, _, _, _, rfl⟩; simp [results, Tryz.f141, go_sem, rk]
  · have d1 : decide (q = s.size) = true := by simp; omega
    have hen := fun W => (ended_any (RT := RT) g q m o s W)
    rw [d1] at hen; have hlx := st.lx; rw [lnF, dif_neg hlt] at hr
    by_cases ho : o = 0
    · subst ho; rw [if_pos rfl] at hr; have st1 := st.step (gr_drew wr g) (W := wr.drew) hlx; go_wp2_with (go_at_call 140; refine (hen _ hlx).mono ?_; rintro e w' ⟨rfl, rfl⟩)
      generalize wr.drew = W1 at *; clear c0 c1 c2 c3 hf hlx st; have r4 := fun i => blk_cell st1.k4 i
      have r40 : W1.drew.cell? ⟨w.heap.size + 1, 0, none⟩ = some (.int .i64 (n : Int)) := r4 0; have r41 : W1.drew.cell? ⟨w.heap.size + 1, 1, none⟩ = some (.bool bl) := r4 1; have r42 : W1.drew.cell? ⟨w.heap.size + 1, 2, none⟩ = some (.slice va ws.length vc) := r4 2; clear r4; refine wp_region_last (fun W => W.cell? ⟨w.heap.size + 1, 0, none⟩ = some (.int .i64 (n : Int)) ∧ W.cell? ⟨w.heap.size + 1, 1, none⟩ = some (.bool bl) ∧ W.cell? ⟨w.heap.size + 1, 2, none⟩ = some (.slice va ws.length vc)) 4 (by kernel_rfl) ⟨r40, r41, r42⟩ (fun hHeld => ?_); refine tkA 0 rfl ?_; refine tkA 1 rfl ?_; refine wpAnyL_one (i := 2) (by kernel_rfl) rfl (fun K hK => ?_); go_simp; refine (hck _).mono ?_; rintro e w3 ⟨rfl, hb3⟩; go_wp2_with fail
      have st3 : LSt RT w w3 g s n bl q m 0 ws (.slice va ws.length vc) := st1.step (gr_belL (gr_drew W1 g) hb3) (Lx.below (w := W1.drew) st1.lx hb3); have r4 := fun i => blk_cell st3.k4 i
      refine hK.out _ _ ⟨r4 0, r4 1, r4 2⟩ (fun hH3 => ?_); clear hK K; have r2 := fun i => blk_cell st3.k2 i
      have f2 := fun i => blk_frozen st3.k2 i
      refine wpAnyL_one (i := 3) (by kernel_rfl) rfl (fun K hK => ?_); go_simp; have kW := blk_set (blk_set (blk_set st3.k2 0 (.int .i64 (n : Int))) 1 (.bool bl)) 2 (.slice va ws.length vc); have k44 := blk_far (c := w.heap.size) (i := 2) (v := .slice va ws.length vc) (blk_far (c := w.heap.size) (i := 1) (v := .bool bl) (blk_far (c := w.heap.size) (i := 0) (v := .int .i64 (n : Int)) st3.k4 (by omega)) (by omega)) (by omega); have ne2 := own_blkL st3.own st3.k2 (by decide); have lx4 := ((st3.lx.far (k := w.heap.size) (i := 0) (y := .int .i64 (n : Int)) (by omega)).far (k := w.heap.size) (i := 1) (y := .bool bl) (by omega)).far (k := w.heap.size) (i := 2) (y := .slice va ws.length vc) (by omega); have ow4 := own_far (i := 2) (y := .slice va ws.length vc) (own_far (i := 1) (y := .bool bl) (own_far (i := 0) (y := .int .i64 (n : Int)) st3.own ne2) ne2) ne2; have HG4 := gr_new (k := w.heap.size) (i := 2) (y := .slice va ws.length vc) (gr_new (k := w.heap.size) (i := 1) (y := .bool bl) (gr_new (k := w.heap.size) (i := 0) (y := .int .i64 (n : Int)) st3.gr (Nat.le_refl _)) (Nat.le_refl _)) (Nat.le_refl _); have r44 := fun i => blk_cell k44 i
      refine hK.out _ _ ⟨r44 0, r44 1, r44 2⟩ (fun hH4 => ?_); clear hK K; refine wpAnyL_end (by kernel_rfl) rfl (by kernel_rfl) (fun K hK => ?_); go_simp; refine hK.out _ _ ?_; clear hK K; go_wp2; have rk := fun i => blk_cell kW i
      refine bodyPost_ret (v := .tuple #[.agg #[.int .i64 (n : Int), .bool bl, .slice va ws.length vc], E]) ?_ rfl ?_
      · simp [results, Tryz.f141, go_sem, rk]
      · refine ⟨HG4, ?_⟩
        rcases HE.out with ⟨rfl, h3⟩ | ⟨rfl, h3⟩
        · rw [finL, if_neg (by omega)] at hr; subst hr; exact ⟨_, rfl, lx4, ow4⟩
        · rw [finL, if_pos h3] at hr; subst hr; exact ⟨_, _, _, _, _, rfl⟩
    · rw [if_neg ho] at hr; subst hr; have do1 : ((o : Int) == 0) = false := by simp; omega
      have r2 := fun i => blk_cell st.k2 i
      have f2 := fun i => blk_frozen st.k2 i
      go_wp2_with (go_at_call 140; refine (hen _ hlx).mono ?_; rintro e w' ⟨rfl, rfl⟩)
      go_region
      go_wp2; have HG4 := gr_new (k := w.heap.size) (i := 2) (y := .slice none 0 0) (gr_new (k := w.heap.size) (i := 1) (y := .bool false) (gr_new (k := w.heap.size) (i := 0) (y := .int .i64 0) st.gr (Nat.le_refl _)) (Nat.le_refl _)) (Nat.le_refl _); have kW := blk_set (blk_set (blk_set st.k2 0 (.int .i64 0)) 1 (.bool false)) 2 (.slice none 0 0); have rk := fun i => blk_cell kW i
      refine bodyPost_ret (v := .tuple #[.agg #[.int .i64 0, .bool false, .slice none 0 0], _]) ?_ rfl ⟨gr_trans HG4 (gr_trans (gr_drew _ g) (gr_drew _ g)), _, _, _, _, _, rfl⟩; simp [results, Tryz.f141, go_sem, rk]
end Go.Proofs.YtddabafaejahbaaGreatDoor
