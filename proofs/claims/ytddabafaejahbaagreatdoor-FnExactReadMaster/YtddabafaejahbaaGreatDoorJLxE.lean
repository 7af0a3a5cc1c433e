import Derived.Test.YtddabafaejahbaaGreatDoorJLxB
import Derived.Test.YtddabafaejahbaaGreatDoorJOwnT
/- The program's lexer: a word that is ill; a word in quotes. -/
namespace Go.Proofs.YtddabafaejahbaaGreatDoor
open Go.RowKit
set_option linter.unusedVariables false
variable {RT : Array Value × Nat}
set_option maxRecDepth 100000 in
set_option maxHeartbeats 1600000 in
theorem word_bad (g p n o : Nat) (s : ByteArray) (w : World) (h : Lx RT w g s p n o) (hp : p < s.size) (hs : s.size ≤ 1000000) (hc : isSp s[p] = false) (h0 : (barF s p).1 ≠ 0) :
 Calls Tryz.prog 184 #[.pointer (some ⟨g, 0, none⟩)] w fun e w' => e = .returned (.tuple #[.agg #[.string ⟨#[]⟩, .bool false], linE n (barF s p).1]) ∧ (∃ q, Lx RT w' g s q n o) ∧ w.grownBy w' (some g) := by
 obtain ⟨C, hC⟩ : ∃ C, Hid ((barF s p).1 = C) := ⟨(barF s p).1, rfl⟩; have h00 : C ≠ 0 := by rw [← hC.out]; exact h0
 rw [hC.out]; clear h0
 have d34 : ((s[p].toNat : Int) == 34) = false := by
  refine u8_lit (k := 34) (fun e => ?_) (by decide); rw [← e] at hc; exact absurd hc (by decide)
 have hl1 : Lx RT (w.alloc (.cells #[.string ⟨#[]⟩, .bool false] 40)) g s p n o := h.grown (b := none) ⟨rfl, rfl, rfl, by simp, fun k hk _ => heap_alloc_old _ _ hk⟩ (by simp); obtain ⟨c0, c1, c2, c3, hf⟩ := hl1.cells; have bW := blk_new w #[.string ⟨#[]⟩, .bool false] 40; have hgl := h.lt; have HG0 := Nm.hide (gr_alloc (w := w) (g := g) (.cells #[.string ⟨#[]⟩, .bool false] 40)); generalize hw1 : w.alloc (.cells #[.string ⟨#[]⟩, .bool false] 40) = w1 at *; go_enter Tryz.func184, Tryz.ntmps184; go_wp2; go_quiet (fail)
 go_wp2; clear hw1 h c0 c1 c2 c3 hf d34 hc
 go_loopw [] (fun wr => ∃ q, p ≤ q ∧ q ≤ s.size ∧ Hid ((barF s q).1 = C) ∧ Lx RT wr g s q n o ∧ w1.grownBy wr (some g)) (fun wr => mzL s.size g wr)
 case atStart => exact ⟨p, Nat.le_refl _, by omega, hC, hl1, gr_drewN _ _ _⟩
 case round =>
  obtain ⟨q, hpq, hq, hR2, hl, hgr⟩ := hrel; clear hC hl1; obtain ⟨c0, c1, c2, c3, hf⟩ := hl.cells; have bR := blk_grown bW hgr (fun e => by simp at e; omega)
  by_cases hlt : q < s.size
  · have d1 : decide (q = s.size) = false := by simp; omega
    have hen := fun k => ended_q hl _ d1 k
    have hr3 := hR2.out
    cases hsp : isSp s[q] with
    | false =>
      have hew := fun k => endsWord_q (w := wr) _ hsp k
      by_cases hc : s[q] = 92
      · rw [barF, dif_pos hlt, if_neg (by simp [hsp]), if_pos hc] at hr3
        by_cases hb : ∀ h : q + 1 < s.size, s[q + 1] = 10
        · have h4 : C = 4 := by
           by_cases hlt2 : q + 1 < s.size
           · rw [dif_pos hlt2, if_pos (hb hlt2)] at hr3; exact hr3.symm
           · rw [dif_neg hlt2] at hr3; exact hr3.symm
          subst h4; have hle2 := fun k => letter_bad g q n o s (wr.drewN k) hl hlt hs hc hb
          clear hr3 hR2 hc hb; go_wp2; go_quiet ((first | (go_at_call 140; exact hen _) | (go_at_call 214; exact hew _)))
          go_wp2_with (go_at_call 215; refine (hle2 _).mono ?_; rintro e w3 ⟨rfl, ⟨q3, hl3⟩, hg3⟩; have bR3 := blk_grown (w := wr.drewN _) bR hg3 (fun e => by simp at e; omega); have rR3 := fun i => blk_cell bR3 i; have fR3 := fun i => blk_frozen bR3 i)
          have kW := blk_set (blk_set bR3 0 (.string ⟨#[]⟩)) 1 (.bool false); have rk := fun i => blk_cell kW i
          have HG5 := Nm.hide (gr_new (gr_new (gr_trans HG0.out (gr_trans hgr (gr_trans (gr_drewN wr g _) hg3))) (i := 0) (y := .string ⟨#[]⟩) (Nat.le_refl _)) (i := 1) (y := .bool false) (Nat.le_refl _)); refine bodyPost_ret (v := .tuple #[.agg #[.string ⟨#[]⟩, .bool false], _]) ?_ rfl ⟨rfl, ⟨q3, (hl3.far (by omega)).far (by omega)⟩, HG5.out⟩; simp [results, Tryz.f184, go_sem, rk]
        · obtain ⟨hlt2, hc2⟩ : ∃ h : q + 1 < s.size, s[q + 1] ≠ 10 := by
           by_cases hlt2 : q + 1 < s.size
           · exact ⟨hlt2, fun e => hb (fun _ => e)⟩
           · exact (hb (fun h' => (hlt2 h').elim)).elim
          rw [dif_pos hlt2, if_neg hc2] at hr3; have HR3 := Nm.hide hr3; have hle2 := fun k => letter_two g q n o s (wr.drewN k) hl hlt2 hs hc hc2
          clear hr3 hR2 hc hc2 hb; go_wp2; go_quiet ((first | (go_at_call 140; exact hen _) | (go_at_call 214; exact hew _)))
          go_wp2_with (go_at_call 215; refine (hle2 _).mono ?_; rintro e w3 ⟨rfl, hl3, hg3⟩)
          go_roundw
          case rel => exact ⟨q + 2, by omega, by omega, HR3, hl3, gr_trans hgr (gr_trans (gr_drewN _ _ _) hg3)⟩
          case measure => rw [mzL_at hl, mzL_at hl3]; omega
      · rw [barF, dif_pos hlt, if_neg (by simp [hsp]), if_neg hc] at hr3; have HR3 := Nm.hide hr3; have hle2 := fun k => letter_one g q n o s (wr.drewN k) hl hlt hs hc
        clear hr3 hR2 hc; go_wp2; go_quiet ((first | (go_at_call 140; exact hen _) | (go_at_call 214; exact hew _)))
        go_wp2_with (go_at_call 215; refine (hle2 _).mono ?_; rintro e w3 ⟨rfl, hl3, hg3⟩)
        go_roundw
        case rel => exact ⟨q + 1, by omega, by omega, HR3, hl3, gr_trans hgr (gr_trans (gr_drewN _ _ _) hg3)⟩
        case measure => rw [mzL_at hl, mzL_at hl3]; omega
    | true =>
      rw [barF, dif_pos hlt, if_pos hsp] at hr3; exact absurd hr3.symm h00
  · have hr3 := hR2.out; rw [barF, dif_neg hlt] at hr3; exact absurd hr3.symm h00
variable {RT : Array Value × Nat}
set_option maxRecDepth 100000 in
set_option maxHeartbeats 1600000 in
theorem quoted_ok (g p n o : Nat) (s : ByteArray) (w : World) (h : Lx RT w g s p n o) (hp : p < s.size) (hs : s.size ≤ 1000000) (h0 : (qutF s (p + 1)).1 = 0) :
 Calls Tryz.prog 213 #[.pointer (some ⟨g, 0, none⟩)] w fun e w' => e = .returned (.tuple #[.agg #[.string (s.extract (p + 1) (qutF s (p + 1)).2), .bool true], .nilIface]) ∧ Lx RT w' g s ((qutF s (p + 1)).2 + 1) n o ∧ w.grownBy w' (some g) := by
 obtain ⟨R, hR⟩ : ∃ R, Hid (qutF s (p + 1) = (0, R)) := ⟨(qutF s (p + 1)).2, by show _ = _; rw [← h0]⟩; have hR2 : (qutF s (p + 1)).2 = R := by rw [hR.out]
 have hge := qutF_ge s (p + 1); rw [hR2] at hge ⊢; clear h0 hR2; have hl0 : Lx RT (w.alloc (.cells #[.string ⟨#[]⟩, .bool false] 40)) g s p n o := h.grown (b := none) ⟨rfl, rfl, rfl, by simp, fun k hk _ => heap_alloc_old _ _ hk⟩ (by simp); obtain ⟨c0, c1, c2, c3, hf⟩ := hl0.cells; have hgl := h.lt; have hgl0 := hl0.lt; have hl1 := hl0.at (q := p + 1); have bW := blk_far (c := g) (i := 1) (v := .int .i64 ((p + 1 : Nat) : Int)) (blk_new w #[.string ⟨#[]⟩, .bool false] 40) (by omega); have HG0 := Nm.hide (gr_trans (gr_alloc (w := w) (g := g) (.cells #[.string ⟨#[]⟩, .bool false] 40)) (gr_set _ g 1 (.int .i64 ((p + 1 : Nat) : Int)))); simp only [Int.natCast_add, Int.natCast_one] at hl1 bW HG0; generalize hw0 : w.alloc (.cells #[.string ⟨#[]⟩, .bool false] 40) = w0 at *; generalize hw1 : w0.setCell ⟨g, 1, none⟩ (.int .i64 ((p : Int) + 1)) = w1 at *; have e1 : w1.cell? ⟨g, 1, none⟩ = some (.int .i64 ((p : Int) + 1)) := hl1.cells.2.1; go_enter Tryz.func213, Tryz.ntmps213; go_wp2; clear hw1 hw0 h c0 c1 c2 c3 hf hl0 hgl0 e1
 go_loopw [] (fun wr => ∃ q, p + 1 ≤ q ∧ q ≤ s.size ∧ Hid (qutF s q = (0, R)) ∧ Lx RT wr g s q n o ∧ w1.grownBy wr (some g)) (fun wr => mzL s.size g wr)
 case atStart => exact ⟨p + 1, Nat.le_refl _, by omega, hR, hl1, gr_refl _ _⟩
 case round =>
  obtain ⟨q, hpq, hq, hR2, hl, hgr⟩ := hrel; clear hR hl1; have i1 : (0 : Int) ≤ (p : Int) + 1 := by omega
  have i2 : (p : Int) + 1 ≤ (q : Int) := by omega
  have i3 : (q : Int) ≤ (s.size : Int) := by omega
  obtain ⟨c0, c1, c2, c3, hf⟩ := hl.cells; have bR := blk_grown bW hgr (fun e => by simp at e; omega); have hr3 := hR2.out
  by_cases hlt : q < s.size
  · have d1 : decide (q = s.size) = false := by simp; omega
    have hen := fun k => ended_q hl _ d1 k
    by_cases h34 : s[q] = 34
    · rw [qutF, dif_pos hlt, if_pos h34] at hr3; have hqR : q = R := by simpa using hr3
      subst hqR; have d34 : (s[q].toNat : Int) = 34 := by rw [h34]; rfl
      have hcl := fun W => clone_any (s.extract (p + 1) q) W (by rw [ByteArray.size_extract]; omega)
      have hl2 := fun k => Lx.at (q := q + 1) (w := wr.drewN k) hl
      have HG2 := fun k => Nm.hide (gr_trans HG0.out (gr_trans hgr (gr_trans (gr_drewN wr g k) (gr_set _ g 1 (.int .i64 ((q + 1 : Nat) : Int))))))
      have bR2 := fun k => blk_far (w := wr.drewN k) (c := g) (i := 1) (v := .int .i64 ((q + 1 : Nat) : Int)) bR (by omega)
      simp only [Int.natCast_add, Int.natCast_one] at hl2 HG2 bR2; have hwq : IntKind.i64.wrap (q : Int) = (q : Int) := by rw [Go.wrap_small _ (by omega) (by omega)]
      clear hr3 hR2 h34; go_wp2; go_quiet ((go_at_call 140; exact hen _))
      go_wp2; go_quiet (fail)
      go_wp2; refine wp_region_last (fun W => W.cell? ⟨g, 0, none⟩ = some (.string s) ∧ W.cell? ⟨g, 1, none⟩ = some (.int .i64 ((q : Int) + 1))) 14 (by kernel_rfl) ⟨(hl2 _).cells.1, (hl2 _).cells.2.1⟩ (fun hHeld => ?_); refine tkA 0 rfl ?_; refine tkA 1 rfl ?_; refine tkA 2 rfl ?_; refine tkA 3 rfl ?_; refine tkA 4 rfl ?_; refine tkA 5 rfl ?_; refine tkA 6 rfl ?_; refine tkA 7 rfl ?_; refine tkA 8 rfl ?_; refine tkA 9 rfl ?_; refine tkA 10 rfl ?_; refine wpAnyL_one (i := 11) (by kernel_rfl) rfl (fun K hK => ?_); go_simp; refine (hcl _).mono ?_; rintro e w3 ⟨rfl, hb3⟩; go_wp2_with fail
      have hl3 : Lx RT w3 g s (q + 1) n o := by
       refine Lx.below ?_ hb3; exact hl2 _
      have bR3 : Blk w3 w.heap.size #[.string ⟨#[]⟩, .bool false] 40 := by
       refine blk_below ?_ hb3; exact bR2 _
      have HG4 : Hid (w.grownBy w3 (some g)) := by
       refine gr_belL ?_ hb3; exact gr_trans (HG2 _).out (gr_drew _ g)
      refine hK.out _ _ ⟨hl3.cells.1, hl3.cells.2.1⟩ (fun hH3 => ?_); clear hK K; refine tkA 12 rfl ?_; have fR3 := fun i => blk_frozen bR3 i
      have rR3 := fun i => blk_cell bR3 i
      refine wpAnyL_one (i := 13) (by kernel_rfl) rfl (fun K hK => ?_); go_simp; have kW := blk_set (blk_set bR3 0 (.string (s.extract (p + 1) q))) 1 (.bool true); have hl4 : Lx RT ((w3.setCell ⟨w.heap.size, 0, none⟩ (.string (s.extract (p + 1) q))).setCell ⟨w.heap.size, 1, none⟩ (.bool true)) g s (q + 1) n o := (hl3.far (by omega)).far (by omega); have HG5 := Nm.hide (gr_new (gr_new HG4.out (i := 0) (y := .string (s.extract (p + 1) q)) (Nat.le_refl _)) (i := 1) (y := .bool true) (Nat.le_refl _)); refine hK.out _ _ ⟨hl4.cells.1, hl4.cells.2.1⟩ (fun hH4 => ?_); clear hK K; refine wpAnyL_end (by kernel_rfl) rfl (by kernel_rfl) (fun K hK => ?_); go_simp; refine hK.out _ _ ?_; clear hK K; go_wp2; have rk := fun i => blk_cell kW i
      refine bodyPost_ret (v := .tuple #[.agg #[.string (s.extract (p + 1) q), .bool true], .nilIface]) ?_ rfl ⟨rfl, hl4, HG5.out⟩; simp [results, Tryz.f213, go_sem, rk]
    · have hn34 : ((s[q].toNat : Int) == 34) = false := u8_lit (k := 34) (fun e => h34 e.symm) (by decide); rw [qutF, dif_pos hlt, if_neg h34] at hr3
      have h10 : s[q] ≠ 10 := by
       intro e; rw [if_pos e] at hr3; simp at hr3
      rw [if_neg h10] at hr3; have hn10 : ((s[q].toNat : Int) == 10) = false := u8_lit (k := 10) (fun e => h10 e.symm) (by decide)
      by_cases hc : s[q] = 92
      · rw [if_pos hc] at hr3
        have hlt2 : q + 1 < s.size := by
         rcases Nat.lt_or_ge (q + 1) s.size with h | h
         · exact h
         · rw [dif_neg (by omega)] at hr3; simp at hr3
        rw [dif_pos hlt2] at hr3
        have hc2 : s[q + 1] ≠ 10 := by
         intro e; rw [if_pos e] at hr3; simp at hr3
        rw [if_neg hc2] at hr3; have HR3 := Nm.hide hr3; have hle2 := fun k => letter_two g q n o s (wr.drewN k) hl hlt2 hs hc hc2
        clear hr3 hR2 hc hc2 h34 h10; go_wp2; go_quiet ((go_at_call 140; exact hen _))
        go_wp2; go_quiet (fail)
        go_wp2_with (go_at_call 215; refine (hle2 _).mono ?_; rintro e w3 ⟨rfl, hl3, hg3⟩)
        go_roundw
        case rel => exact ⟨q + 2, by omega, by omega, HR3, hl3, gr_trans hgr (gr_trans (gr_drewN _ _ _) hg3)⟩
        case measure => rw [mzL_at hl, mzL_at hl3]; omega
      · rw [if_neg hc] at hr3; have HR3 := Nm.hide hr3; have hle2 := fun k => letter_one g q n o s (wr.drewN k) hl hlt hs hc
        clear hr3 hR2 hc h34 h10; go_wp2; go_quiet ((go_at_call 140; exact hen _))
        go_wp2; go_quiet (fail)
        go_wp2_with (go_at_call 215; refine (hle2 _).mono ?_; rintro e w3 ⟨rfl, hl3, hg3⟩)
        go_roundw
        case rel => exact ⟨q + 1, by omega, by omega, HR3, hl3, gr_trans hgr (gr_trans (gr_drewN _ _ _) hg3)⟩
        case measure => rw [mzL_at hl, mzL_at hl3]; omega
  · rw [qutF, dif_neg hlt] at hr3; simp at hr3
set_option maxRecDepth 100000 in
set_option maxHeartbeats 1600000 in
theorem quoted_bad (g p n o : Nat) (s : ByteArray) (w : World) (h : Lx RT w g s p n o) (hp : p < s.size) (hs : s.size ≤ 1000000) (h0 : (qutF s (p + 1)).1 ≠ 0) :
 Calls Tryz.prog 213 #[.pointer (some ⟨g, 0, none⟩)] w fun e w' => e = .returned (.tuple #[.agg #[.string ⟨#[]⟩, .bool false], linE n (qutF s (p + 1)).1]) ∧ (∃ q, Lx RT w' g s q n o) ∧ w.grownBy w' (some g) := by
 obtain ⟨C, hC⟩ : ∃ C, Hid ((qutF s (p + 1)).1 = C) := ⟨_, rfl⟩; have h00 : C ≠ 0 := by rw [← hC.out]; exact h0
 rw [hC.out]; clear h0; have hl0 : Lx RT (w.alloc (.cells #[.string ⟨#[]⟩, .bool false] 40)) g s p n o := h.grown (b := none) ⟨rfl, rfl, rfl, by simp, fun k hk _ => heap_alloc_old _ _ hk⟩ (by simp); obtain ⟨c0, c1, c2, c3, hf⟩ := hl0.cells; have hgl := h.lt; have hgl0 := hl0.lt; have hl1 := hl0.at (q := p + 1); have bW := blk_far (c := g) (i := 1) (v := .int .i64 ((p + 1 : Nat) : Int)) (blk_new w #[.string ⟨#[]⟩, .bool false] 40) (by omega); have HG0 := Nm.hide (gr_trans (gr_alloc (w := w) (g := g) (.cells #[.string ⟨#[]⟩, .bool false] 40)) (gr_set _ g 1 (.int .i64 ((p + 1 : Nat) : Int)))); simp only [Int.natCast_add, Int.natCast_one] at hl1 bW HG0; generalize hw0 : w.alloc (.cells #[.string ⟨#[]⟩, .bool false] 40) = w0 at *; generalize hw1 : w0.setCell ⟨g, 1, none⟩ (.int .i64 ((p : Int) + 1)) = w1 at *; have e1 : w1.cell? ⟨g, 1, none⟩ = some (.int .i64 ((p : Int) + 1)) := hl1.cells.2.1; go_enter Tryz.func213, Tryz.ntmps213; go_wp2; clear hw1 hw0 h c0 c1 c2 c3 hf hl0 hgl0 e1
 go_loopw [] (fun wr => ∃ q, q ≤ s.size ∧ Hid ((qutF s q).1 = C) ∧ Lx RT wr g s q n o ∧ w1.grownBy wr (some g)) (fun wr => mzL s.size g wr)
 case atStart => exact ⟨p + 1, by omega, hC, hl1, gr_refl _ _⟩
 case round =>
  obtain ⟨q, hq, hR2, hl, hgr⟩ := hrel; clear hC hl1; obtain ⟨c0, c1, c2, c3, hf⟩ := hl.cells; have bR := blk_grown bW hgr (fun e => by simp at e; omega); have rR := fun i => blk_cell bR i
  have fR := fun i => blk_frozen bR i
  have hr3 := hR2.out; have hfa := fun k => fault_any g q n o 13 s (wr.drewN k) hl
  have HGq := fun k => Nm.hide (gr_new (gr_new (gr_trans HG0.out (gr_trans hgr (gr_drewN wr g k))) (i := 0) (y := .string ⟨#[]⟩) (Nat.le_refl _)) (i := 1) (y := .bool false) (Nat.le_refl _))
  have kQ := fun k => blk_set (w := (wr.drewN k).setCell ⟨w.heap.size, 0, none⟩ (.string ⟨#[]⟩)) (blk_set (w := wr.drewN k) bR 0 (.string ⟨#[]⟩)) 1 (.bool false)
  by_cases hlt : q < s.size
  · have d1 : decide (q = s.size) = false := by simp; omega
    have hen := fun k => ended_q hl _ d1 k
    by_cases h34 : s[q] = 34
    · rw [qutF, dif_pos hlt, if_pos h34] at hr3; exact absurd hr3.symm h00
    · have hn34 : ((s[q].toNat : Int) == 34) = false := u8_lit (k := 34) (fun e => h34 e.symm) (by decide); rw [qutF, dif_pos hlt, if_neg h34] at hr3
      by_cases h10 : s[q] = 10
      · have d10 : (s[q].toNat : Int) = 10 := by rw [h10]; rfl
        rw [if_pos h10] at hr3; simp only at hr3
        subst hr3; clear hR2 h34 h10; go_wp2; go_quiet ((go_at_call 140; exact hen _))
        go_wp2_with (go_at_call 212; refine (hfa _).mono ?_; rintro e w3 ⟨rfl, rfl⟩)
        have rk := fun k i => blk_cell (kQ k) i
        refine bodyPost_ret (v := .tuple #[.agg #[.string ⟨#[]⟩, .bool false], _]) ?_ rfl ⟨rfl, ⟨q, Lx.far (Lx.far (w := wr.drewN _) hl (by omega)) (by omega)⟩, (HGq _).out⟩; simp [results, Tryz.f213, go_sem, rk]
      · have hn10 : ((s[q].toNat : Int) == 10) = false := u8_lit (k := 10) (fun e => h10 e.symm) (by decide); rw [if_neg h10] at hr3
        by_cases hc : s[q] = 92
        · rw [if_pos hc] at hr3
          by_cases hb : ∀ h : q + 1 < s.size, s[q + 1] = 10
          · have h4 : C = 4 := by
             by_cases hlt2 : q + 1 < s.size
             · rw [dif_pos hlt2, if_pos (hb hlt2)] at hr3; exact hr3.symm
             · rw [dif_neg hlt2] at hr3; exact hr3.symm
            subst h4; have hle2 := fun k => letter_bad g q n o s (wr.drewN k) hl hlt hs hc hb
            clear hr3 hR2 hc hb h34 h10; go_wp2; go_quiet ((go_at_call 140; exact hen _))
            go_wp2; go_quiet (fail)
            go_wp2_with (go_at_call 215; refine (hle2 _).mono ?_; rintro e w3 ⟨rfl, ⟨q3, hl3⟩, hg3⟩; have bR3 := blk_grown (w := wr.drewN _) bR hg3 (fun e => by simp at e; omega); have rR3 := fun i => blk_cell bR3 i; have fR3 := fun i => blk_frozen bR3 i)
            have kW := blk_set (blk_set bR3 0 (.string ⟨#[]⟩)) 1 (.bool false); have rk := fun i => blk_cell kW i
            have HG5 := Nm.hide (gr_new (gr_new (gr_trans HG0.out (gr_trans hgr (gr_trans (gr_drewN wr g _) hg3))) (i := 0) (y := .string ⟨#[]⟩) (Nat.le_refl _)) (i := 1) (y := .bool false) (Nat.le_refl _)); refine bodyPost_ret (v := .tuple #[.agg #[.string ⟨#[]⟩, .bool false], _]) ?_ rfl ⟨rfl, ⟨q3, (hl3.far (by omega)).far (by omega)⟩, HG5.out⟩; simp [results, Tryz.f213, go_sem, rk]
          · obtain ⟨hlt2, hc2⟩ : ∃ h : q + 1 < s.size, s[q + 1] ≠ 10 := by
             by_cases hlt2 : q + 1 < s.size
             · exact ⟨hlt2, fun e => hb (fun _ => e)⟩
             · exact (hb (fun h' => (hlt2 h').elim)).elim
            rw [dif_pos hlt2, if_neg hc2] at hr3; have HR3 := Nm.hide hr3; have hle2 := fun k => letter_two g q n o s (wr.drewN k) hl hlt2 hs hc hc2
            clear hr3 hR2 hc hc2 hb h34 h10; go_wp2; go_quiet ((go_at_call 140; exact hen _))
            go_wp2; go_quiet (fail)
            go_wp2_with (go_at_call 215; refine (hle2 _).mono ?_; rintro e w3 ⟨rfl, hl3, hg3⟩)
            go_roundw
            case rel => exact ⟨q + 2, by omega, HR3, hl3, gr_trans hgr (gr_trans (gr_drewN _ _ _) hg3)⟩
            case measure => rw [mzL_at hl, mzL_at hl3]; omega
        · rw [if_neg hc] at hr3; have HR3 := Nm.hide hr3; have hle2 := fun k => letter_one g q n o s (wr.drewN k) hl hlt hs hc
          clear hr3 hR2 hc h34 h10; go_wp2; go_quiet ((go_at_call 140; exact hen _))
          go_wp2; go_quiet (fail)
          go_wp2_with (go_at_call 215; refine (hle2 _).mono ?_; rintro e w3 ⟨rfl, hl3, hg3⟩)
          go_roundw
          case rel => exact ⟨q + 1, by omega, HR3, hl3, gr_trans hgr (gr_trans (gr_drewN _ _ _) hg3)⟩
          case measure => rw [mzL_at hl, mzL_at hl3]; omega
  · have d1 : decide (q = s.size) = true := by simp; omega
    have hen := fun k => ended_q hl _ d1 k
    rw [qutF, dif_neg hlt] at hr3; simp only at hr3
    subst hr3; clear hR2; go_wp2; go_quiet ((go_at_call 140; exact hen _))
    go_wp2_with (go_at_call 212; refine (hfa _).mono ?_; rintro e w3 ⟨rfl, rfl⟩)
    have rk := fun k i => blk_cell (kQ k) i
    refine bodyPost_ret (v := .tuple #[.agg #[.string ⟨#[]⟩, .bool false], _]) ?_ rfl ⟨rfl, ⟨q, Lx.far (Lx.far (w := wr.drewN _) hl (by omega)) (by omega)⟩, (HGq _).out⟩; simp [results, Tryz.f213, go_sem, rk]
set_option maxRecDepth 100000 in
set_option maxHeartbeats 800000 in
theorem wordQ_ok (g p n o : Nat) (s : ByteArray) (w : World) (h : Lx RT w g s p n o) (hp : p < s.size) (hs : s.size ≤ 1000000) (hc : s[p] = 34) (h0 : (qutF s (p + 1)).1 = 0) :
 Calls Tryz.prog 184 #[.pointer (some ⟨g, 0, none⟩)] w fun e w' => e = .returned (.tuple #[.agg #[.string (s.extract (p + 1) (qutF s (p + 1)).2), .bool true], .nilIface]) ∧ Lx RT w' g s ((qutF s (p + 1)).2 + 1) n o ∧ w.grownBy w' (some g) := by
 have d34 : (s[p].toNat : Int) = 34 := by rw [hc]; rfl
 have hl1 : Lx RT (w.alloc (.cells #[.string ⟨#[]⟩, .bool false] 40)) g s p n o := h.grown (b := none) ⟨rfl, rfl, rfl, by simp, fun k hk _ => heap_alloc_old _ _ hk⟩ (by simp); obtain ⟨c0, c1, c2, c3, hf⟩ := hl1.cells; have bW := blk_new w #[.string ⟨#[]⟩, .bool false] 40; have hgl := h.lt; have hq := fun k => quoted_ok g p n o s ((w.alloc (.cells #[.string ⟨#[]⟩, .bool false] 40)).drewN k) hl1 hp hs h0
 have HG0 := Nm.hide (gr_alloc (w := w) (g := g) (.cells #[.string ⟨#[]⟩, .bool false] 40)); generalize s.extract (p + 1) (qutF s (p + 1)).2 = x at *; generalize (qutF s (p + 1)).2 + 1 = R at *; generalize hw1 : w.alloc (.cells #[.string ⟨#[]⟩, .bool false] 40) = w1 at *; clear hc h0; go_enter Tryz.func184, Tryz.ntmps184; go_wp2; go_quiet (fail)
 go_wp2_with (go_at_call 213; refine (hq _).mono ?_; rintro e w3 ⟨rfl, hl3, hg3⟩; have bR3 := blk_grown (w := w1.drewN _) bW hg3 (fun e => by simp at e; omega); have rR3 := fun i => blk_cell bR3 i; have fR3 := fun i => blk_frozen bR3 i)
 have kW := blk_set (blk_set bR3 0 (.string x)) 1 (.bool true); have rk := fun i => blk_cell kW i
 have hl4 : Lx RT ((w3.setCell ⟨w.heap.size, 0, none⟩ (.string x)).setCell ⟨w.heap.size, 1, none⟩ (.bool true)) g s R n o := (hl3.far (by omega)).far (by omega); have HG5 := Nm.hide (gr_new (gr_new (gr_trans HG0.out (gr_trans (gr_drewN w1 g _) hg3)) (i := 0) (y := .string x) (Nat.le_refl _)) (i := 1) (y := .bool true) (Nat.le_refl _)); refine bodyPost_ret (v := .tuple #[.agg #[.string x, .bool true], _]) ?_ rfl ⟨rfl, hl4, HG5.out⟩; simp [results, Tryz.f184, go_sem, rk]
set_option maxRecDepth 100000 in
set_option maxHeartbeats 800000 in
theorem wordQ_bad (g p n o : Nat) (s : ByteArray) (w : World) (h : Lx RT w g s p n o) (hp : p < s.size) (hs : s.size ≤ 1000000) (hc : s[p] = 34) (h0 : (qutF s (p + 1)).1 ≠ 0) :
 Calls Tryz.prog 184 #[.pointer (some ⟨g, 0, none⟩)] w fun e w' => e = .returned (.tuple #[.agg #[.string ⟨#[]⟩, .bool false], linE n (qutF s (p + 1)).1]) ∧ (∃ q, Lx RT w' g s q n o) ∧ w.grownBy w' (some g) := by
 have d34 : (s[p].toNat : Int) = 34 := by rw [hc]; rfl
 have hl1 : Lx RT (w.alloc (.cells #[.string ⟨#[]⟩, .bool false] 40)) g s p n o := h.grown (b := none) ⟨rfl, rfl, rfl, by simp, fun k hk _ => heap_alloc_old _ _ hk⟩ (by simp); obtain ⟨c0, c1, c2, c3, hf⟩ := hl1.cells; have bW := blk_new w #[.string ⟨#[]⟩, .bool false] 40; have hgl := h.lt; have hq := fun k => quoted_bad g p n o s ((w.alloc (.cells #[.string ⟨#[]⟩, .bool false] 40)).drewN k) hl1 hp hs h0
 have HG0 := Nm.hide (gr_alloc (w := w) (g := g) (.cells #[.string ⟨#[]⟩, .bool false] 40)); generalize (qutF s (p + 1)).1 = C at *; generalize hw1 : w.alloc (.cells #[.string ⟨#[]⟩, .bool false] 40) = w1 at *; clear hc h0; go_enter Tryz.func184, Tryz.ntmps184; go_wp2; go_quiet (fail)
 go_wp2_with (go_at_call 213; refine (hq _).mono ?_; rintro e w3 ⟨rfl, ⟨q3, hl3⟩, hg3⟩; have bR3 := blk_grown (w := w1.drewN _) bW hg3 (fun e => by simp at e; omega); have rR3 := fun i => blk_cell bR3 i; have fR3 := fun i => blk_frozen bR3 i)
 have kW := blk_set (blk_set bR3 0 (.string ⟨#[]⟩)) 1 (.bool false); have rk := fun i => blk_cell kW i
 have HG5 := Nm.hide (gr_new (gr_new (gr_trans HG0.out (gr_trans (gr_drewN w1 g _) hg3)) (i := 0) (y := .string ⟨#[]⟩) (Nat.le_refl _)) (i := 1) (y := .bool false) (Nat.le_refl _)); refine bodyPost_ret (v := .tuple #[.agg #[.string ⟨#[]⟩, .bool false], _]) ?_ rfl ⟨rfl, ⟨q3, (hl3.far (by omega)).far (by omega)⟩, HG5.out⟩; simp [results, Tryz.f184, go_sem, rk]
variable {RT : Array Value × Nat}
set_option maxRecDepth 100000 in
set_option maxHeartbeats 400000 in
theorem check_ok (n k : Nat) (b : Bool) (a : Option Addr) (c : Nat) (w : World) (hk : k ≤ 300) :
 Calls Tryz.prog 181 #[.agg #[.int .i64 n, .bool b, .slice a k c]] w fun e w' => e = .returned .nilIface ∧ Below w.heap.size w w' := by
 have hk' : (k : Int) ≤ 300 := by omega
 go_enter Tryz.func181, Tryz.ntmps181; go_wp2; go_ret; exact ⟨rfl, (Below.refl _ _).alloc (Nat.le_refl _) _⟩
set_option maxRecDepth 100000 in
set_option maxHeartbeats 400000 in
theorem check_bad (n k : Nat) (b : Bool) (a : Option Addr) (c : Nat) (w : World) (hk : 300 < k) :
 Calls Tryz.prog 181 #[.agg #[.int .i64 n, .bool b, .slice a k c]] w fun e w' => e = .returned (linE n 15) ∧ Below w.heap.size w w' := by
 have hk' : 300 < (k : Int) := by omega
 go_enter Tryz.func181, Tryz.ntmps181; go_wp2; go_ret; exact ⟨rfl, (Below.refl _ _).alloc (Nat.le_refl _) _⟩
/-- What goes on behind a region is shown once, whatever the order was. -/
theorem via_key {K : Act → World → Prop} {G : Prop} (A : Act) (W : World) (h : K A W → G) (k : K A W) : G := h k
theorem own_grL {W W1 : World} {B e s m g : Nat} {v : Value} {xs : List Value} (h : W.ownsRow B e s v m xs) (hg : W.grownBy W1 (some g)) (hlt : g < B) : W1.ownsRow B e s v m xs := by
 refine h.kept hg ?_
 cases hv : v.ownBlock with
 | none => exact .inl rfl
 | some k =>
   right; have := (h.lt k hv).1; simp
   omega
/-- A line on its way. -/
structure LSt (RT : Array Value × Nat) (w wr : World) (g : Nat) (s : ByteArray) (num : Nat) (bl : Bool) (q m o : Nat) (ws : List Wrd) (v : Value) : Prop where
 lx : Lx RT wr g s q m o
 k2 : Blk wr w.heap.size #[.int .i64 0, .bool false, .slice none 0 0] 64
 k4 : Blk wr (w.heap.size + 1) #[.int .i64 num, .bool bl, v] 64
 own : wr.ownsRow w.heap.size 40 2 v ws.length (wdVs ws)
 gr : w.grownBy wr (some g)
 lt : g < w.heap.size
theorem LSt.step {w wr W : World} {g num q m o q' m' o' : Nat} {s : ByteArray} {bl : Bool} {ws : List Wrd} {v : Value} (h : LSt RT w wr g s num bl q m o ws v) (hg : wr.grownBy W (some g)) (hl : Lx RT W g s q' m' o') : LSt RT w W g s num bl q' m' o' ws v :=
 ⟨hl, blk_grown h.k2 hg (by have := h.lt; simp; omega), blk_grown h.k4 hg (by have := h.lt; simp; omega), own_grL h.own hg h.lt, gr_trans h.gr hg, h.lt⟩
/-- What line answers. -/
def LnP (RT : Array Value × Nat) (B g : Nat) (s : ByteArray) (num : Nat) (bl : Bool) (w : World) (r : LR) (e : Ending) (w' : World) : Prop :=
 w.grownBy w' (some g) ∧ match r with
 | .inl (c, q) => ∃ (k : Int) (b : Bool) (a : Option Addr) (l m : Nat), e = .returned (.tuple #[.agg #[.int .i64 k, .bool b, .slice a l m], linE q c])
 | .inr (p, n, ws) => ∃ v, e = .returned (.tuple #[.agg #[.int .i64 num, .bool bl, v], .nilIface]) ∧ Lx RT w' g s p n 0 ∧ w'.ownsRow B 40 2 v ws.length (wdVs ws)
theorem own_blkL {W : World} {B e s m b : Nat} {v : Value} {xs : List Value} {cs : Array Value} {T : TypeId} (h : W.ownsRow B e s v m xs) (hb : Blk W b cs T) (hne : e ≠ T) : v.ownBlock ≠ some b := by
 rcases h.2 with ⟨rfl, _⟩ | ⟨g', cap', cur, rfl, _, hh, _⟩
 · simp [Value.ownBlock]
 · simp only [Value.ownBlock, ne_eq, Option.some.injEq]; intro e2; subst e2; unfold Blk at hb; rw [hh] at hb; simp at hb; exact hne hb.2
/-- A row of one's own grew, or was moved. -/
theorem gr_row {w W W1 : World} {g B e s m : Nat} {v : Value} {xs : List Value} (h : w.grownBy W (some g)) (ho : W.ownsRow B e s v m xs) (hB : w.heap.size ≤ B) (hg : W.grownBy W1 v.ownBlock) : w.grownBy W1 (some g) :=
 ⟨hg.os.trans h.os, hg.tape.trans h.tape, hg.output.trans h.output, Nat.le_trans h.size hg.size, fun k hk hne => (hg.block k (Nat.lt_of_lt_of_le hk h.size) (fun e => by have := (ho.lt k e.symm).1; omega)).trans (h.block k hk hne)⟩
theorem Lx.row {W W1 : World} {g p n o B e s' m : Nat} {s : ByteArray} {v : Value} {xs : List Value} (h : Lx RT W g s p n o) (ho : W.ownsRow B e s' v m xs) (hg : W.grownBy W1 v.ownBlock) (hlt : g < B) : Lx RT W1 g s p n o :=
 h.grown hg (fun e => by have := (ho.lt g e).1; omega)
theorem LSt.far {w W : World} {g num q m o b i : Nat} {s : ByteArray} {bl : Bool} {ws : List Wrd} {v y : Value} (h : LSt RT w W g s num bl q m o ws v) (hb : w.heap.size + 2 ≤ b) (hv : v.ownBlock ≠ some b) : LSt RT w (W.setCell ⟨b, i, none⟩ y) g s num bl q m o ws v :=
 ⟨h.lx.far (by have := h.lt; omega), blk_far h.k2 (by omega), blk_far h.k4 (by omega), own_far h.own hv, gr_new h.gr (by omega), h.lt⟩
theorem LSt.four {w W : World} {g num q m o : Nat} {s : ByteArray} {bl : Bool} {ws : List Wrd} {v : Value} (h : LSt RT w W g s num bl q m o ws v) : w.heap.size + 2 ≤ W.heap.size := blk_lt h.k4
/-- A word is put behind. -/
theorem LSt.put {w W W1 : World} {g num q m o : Nat} {s : ByteArray} {bl : Bool} {ws : List Wrd} {v v' : Value} {x : Wrd} (h : LSt RT w W g s num bl q m o ws v) (ho : W1.ownsRow w.heap.size 40 2 v' (ws.length + 1) (wdVs ws ++ wdV x)) (hg : W.grownBy W1 v.ownBlock) :
 Blk W1 (w.heap.size + 1) #[.int .i64 num, .bool bl, v] 64 ∧ LSt RT w (W1.setCell ⟨w.heap.size + 1, 2, none⟩ v') g s num bl q m o (ws ++ [x]) v' := by
 have k4 := blk_grown h.k4 hg (own_blkL h.own h.k4 (by decide)); have k2 := blk_grown h.k2 hg (own_blkL h.own h.k2 (by decide)); refine ⟨k4, ⟨(h.lx.row h.own hg h.lt).far (by have := h.lt; omega), blk_far k2 (by omega), blk_set k4 2 v', ?_, gr_new (gr_row h.gr h.own (Nat.le_refl _) hg) (by omega), h.lt⟩⟩; have e : wdVs (ws ++ [x]) = wdVs ws ++ wdV x := by simp [wdVs]
 rw [e, List.length_append]; exact own_far ho (own_blkL ho k4 (by decide))
theorem cellL2 (w : World) (x y : Value) (e b : Nat) (hb : b = w.heap.size) : ∀ (j : Nat) (u : Value), [x, y][j]? = some u → (w.alloc (.cells #[x, y] e)).cell? ((⟨b, 0, none⟩ : Addr).add j) = some u := by
 subst hb; intro j u hj
 match j, hj with
 | 0, hj => simp at hj; subst hj; simp [Addr.add]
 | 1, hj => simp at hj; subst hj; simp [Addr.add]
theorem twoL (x y : Value) (h : x.oneCell' = true) (h' : y.oneCell' = true) : ∀ u : Value, u ∈ [x, y] → u.oneCell' = true := by
 intro u hu; simp at hu; rcases hu with rfl | rfl <;> assumption
theorem Tryz.infoWord : (Tryz.prog.info? 40).map (fun i => (i.zero, i.size, i.bytes)) = some (some (.agg #[.string ⟨#[]⟩, .bool false]), 2, 24) := by kernel_rfl
end Go.Proofs.YtddabafaejahbaaGreatDoor
