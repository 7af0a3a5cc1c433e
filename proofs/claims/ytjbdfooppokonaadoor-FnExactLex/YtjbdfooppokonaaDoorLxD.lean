/- The program's lexer: a word without quotes. -/
import Derived.Test.YtjbdfooppokonaaDoorLxC
import Derived.Test.YtjbdfooppokonaaDoorBlkT
import Derived.Test.YtjbdfooppokonaaDoorOrdM
namespace Go.Proofs.YtjbdfooppokonaaDoor
open Go.RowKit
set_option linter.unusedVariables false

theorem endsWord_q {c : UInt8} {w : World} (b : Bool) (hb : isSp c = b) (k : Nat) :
    Calls Tryd.prog 40 #[.int .u8 (c.toNat : Int)] (w.drewN k) fun e w' => e = .returned (.bool b) ∧ ∃ m, w' = w.drewN m := by
  subst hb
  exact Calls.quiet_of_same (endsWord_any c _)
theorem Lx.grown {w w' : World} {g p n o : Nat} {s : ByteArray} {b : Option Nat} (h : Lx w g s p n o) (hg : w.grownBy w' b) (hb : b ≠ some g) : Lx w' g s p n o := by
  have hlt := (Array.getElem?_eq_some_iff.1 h).1
  unfold Lx
  rw [hg.block g hlt (fun e => hb e.symm)]
  exact h
theorem Lx.lt {w : World} {g p n o : Nat} {s : ByteArray} (h : Lx w g s p n o) : g < w.heap.size := (Array.getElem?_eq_some_iff.1 h).1

theorem Lx.below {w w' : World} {g p n o : Nat} {s : ByteArray} (h : Lx w g s p n o) (hb : Below w.heap.size w w') : Lx w' g s p n o := by
  unfold Lx
  rw [hb.block g h.lt]
  exact h
theorem Lx.far {w : World} {g p n o k i : Nat} {y : Value} {s : ByteArray} (h : Lx w g s p n o) (hk : k ≠ g) : Lx (w.setCell ⟨k, i, none⟩ y) g s p n o := by
  unfold Lx
  rw [heap_setCell_other w ⟨k, i, none⟩ g _ (fun e => hk e.symm)]
  exact h
theorem gr_belL {w w1 w2 : World} {row : Option Nat} (h : w.grownBy w1 row) (h2 : Below w1.heap.size w1 w2) : w.grownBy w2 row :=
  ⟨h2.os.trans h.os, h2.tape.trans h.tape, h2.output.trans h.output, Nat.le_trans h.size h2.size, fun k hk hne => (h2.block k (Nat.lt_of_lt_of_le hk h.size)).trans (h.block k hk hne)⟩
/-- A cell of a block that is new is written. -/
theorem gr_new {w w1 : World} {row : Option Nat} {k i : Nat} {y : Value} (h : w.grownBy w1 row) (hk : w.heap.size ≤ k) : w.grownBy (w1.setCell ⟨k, i, none⟩ y) row :=
  ⟨h.os, h.tape, h.output, Nat.le_trans h.size (by simp), fun j hj hne => (heap_setCell_other w1 ⟨k, i, none⟩ j _ (fun e => by simp at e; omega)).trans (h.block j hj hne)⟩
theorem gr_alloc {w : World} {g : Nat} (x : Obj) : w.grownBy (w.alloc x) (some g) := ⟨rfl, rfl, rfl, by simp, fun k hk _ => heap_alloc_old w x hk⟩

set_option maxRecDepth 100000 in
set_option maxHeartbeats 1600000 in
theorem word_ok (g p n o : Nat) (s : ByteArray) (w : World) (h : Lx w g s p n o) (hp : p < s.size) (hs : s.size ≤ 1000000) (hc : isSp s[p] = false) (h0 : (barF s p).1 = 0) :
    Calls Tryd.prog 32 #[.pointer (some ⟨g, 0, none⟩)] w fun e w' => e = .returned (.tuple #[.agg #[.string (s.extract p (barF s p).2), .bool false], .nilIface]) ∧ Lx w' g s (barF s p).2 n o ∧ w.grownBy w' (some g) := by
  obtain ⟨R, hR⟩ : ∃ R, Hid (barF s p = (0, R)) := ⟨(barF s p).2, by show _ = _; rw [← h0]⟩
  have hR2 : (barF s p).2 = R := by rw [hR.out]
  have hge := barF_ge s p
  have hle := barF_le s p (by omega)
  rw [hR2] at hge hle ⊢
  clear h0 hR2
  have d34 : ((s[p].toNat : Int) == 34) = false := by
    refine u8_lit (k := 34) (fun e => ?_) (by decide)
    rw [← e] at hc
    exact absurd hc (by decide)
  have hl1 : Lx (w.alloc (.cells #[.string ⟨#[]⟩, .bool false] 62)) g s p n o := h.grown (b := none) ⟨rfl, rfl, rfl, by simp, fun k hk _ => heap_alloc_old _ _ hk⟩ (by simp)
  obtain ⟨c0, c1, c2, c3, hf⟩ := hl1.cells
  have bW := blk_new w #[.string ⟨#[]⟩, .bool false] 62
  have hgl := h.lt
  have HG0 := Nm.hide (gr_alloc (w := w) (g := g) (.cells #[.string ⟨#[]⟩, .bool false] 62))
  generalize hw1 : w.alloc (.cells #[.string ⟨#[]⟩, .bool false] 62) = w1 at *
  go_enter Tryd.func32, Tryd.ntmps32
  go_wp2
  go_quiet (fail)
  go_wp2
  have hcl := fun W => clone_any (s.extract p R) W (by rw [ByteArray.size_extract]; omega)
  clear hw1 h c0 c1 c2 c3 hf d34 hc
  go_loopw [] (fun wr => ∃ q, p ≤ q ∧ q ≤ s.size ∧ Hid (barF s q = (0, R)) ∧ Lx wr g s q n o ∧ w1.grownBy wr (some g)) (fun wr => mzL s.size g wr)
  case atStart => exact ⟨p, Nat.le_refl _, by omega, hR, hl1, gr_drewN _ _ _⟩
  case round =>
    obtain ⟨q, hpq, hq, hR2, hl, hgr⟩ := hrel
    clear hR hl1
    have i1 : (0 : Int) ≤ (p : Int) := by omega
    have i2 : (p : Int) ≤ (q : Int) := by omega
    have i3 : (q : Int) ≤ (s.size : Int) := by omega
    obtain ⟨c0, c1, c2, c3, hf⟩ := hl.cells
    have bR := blk_grown bW hgr (fun e => by simp at e; omega)
    by_cases hlt : q < s.size
    · have d1 : decide (q = s.size) = false := by simp; omega
      have hen := fun k => ended_q hl _ d1 k
      cases hsp : isSp s[q] with
      | false =>
        have hew := fun k => endsWord_q (w := wr) _ hsp k
        by_cases hc : s[q] = 92
        · have hr3 := hR2.out
          rw [barF, dif_pos hlt, if_neg (by simp [hsp]), if_pos hc] at hr3
          have hlt2 : q + 1 < s.size := by
            rcases Nat.lt_or_ge (q + 1) s.size with h | h
            · exact h
            · rw [dif_neg (by omega)] at hr3
              simp at hr3
          rw [dif_pos hlt2] at hr3
          have hc2 : s[q + 1] ≠ 10 := by
            intro e
            rw [if_pos e] at hr3
            simp at hr3
          rw [if_neg hc2] at hr3
          have HR3 := Nm.hide hr3
          have hle2 := fun k => letter_two g q n o s (wr.drewN k) hl hlt2 hs hc hc2
          clear hr3 hR2 hc hc2
          go_wp2
          go_quiet ((first | (go_at_call 22; exact hen _) | (go_at_call 40; exact hew _)))
          go_wp2_with (go_at_call 41; refine (hle2 _).mono ?_; rintro e w3 ⟨rfl, hl3, hg3⟩)
          go_roundw
          case rel => exact ⟨q + 2, by omega, by omega, HR3, hl3, gr_trans hgr (gr_trans (gr_drewN _ _ _) hg3)⟩
          case measure => rw [mzL_at hl, mzL_at hl3]; omega
        · have hr3 := hR2.out
          rw [barF, dif_pos hlt, if_neg (by simp [hsp]), if_neg hc] at hr3
          have HR3 := Nm.hide hr3
          have hle2 := fun k => letter_one g q n o s (wr.drewN k) hl hlt hs hc
          clear hr3 hR2 hc
          go_wp2
          go_quiet ((first | (go_at_call 22; exact hen _) | (go_at_call 40; exact hew _)))
          go_wp2_with (go_at_call 41; refine (hle2 _).mono ?_; rintro e w3 ⟨rfl, hl3, hg3⟩)
          go_roundw
          case rel => exact ⟨q + 1, by omega, by omega, HR3, hl3, gr_trans hgr (gr_trans (gr_drewN _ _ _) hg3)⟩
          case measure => rw [mzL_at hl, mzL_at hl3]; omega
      | true =>
        have hew := fun k => endsWord_q (w := wr) _ hsp k
        have hqR : q = R := by have e := hR2.out; rw [barF, dif_pos hlt, if_pos hsp] at e; simpa using e
        subst hqR
        clear hR2
        go_wp2
        go_quiet ((first | (go_at_call 22; exact hen _) | (go_at_call 40; exact hew _)))
        go_wp2
        refine wp_region_last (fun W => W.cell? ⟨g, 0, none⟩ = some (.string s) ∧ W.cell? ⟨g, 1, none⟩ = some (.int .i64 (q : Int))) 13 (by kernel_rfl) ⟨c0, c1⟩ (fun hHeld => ?_)
        refine wpAnyL_take (i := 0) (v := ?_) rfl (by kernel_rfl) (by kernel_rfl) (by kernel_rfl) (by kernel_rfl) (fun _ _ _ h => h) (Or.inl ⟨by rfl, ?_⟩) (by assumption) ?_
        rotate_left 1
        · (intro W hSW; go_simp; try (with_reducible rfl))
        refine wpAnyL_take (i := 1) (v := ?_) rfl (by kernel_rfl) (by kernel_rfl) (by kernel_rfl) (by kernel_rfl) (fun _ _ _ h => h) (Or.inl ⟨by rfl, ?_⟩) (by assumption) ?_
        rotate_left 1
        · (intro W hSW; go_simp; try (with_reducible rfl))
        refine wpAnyL_take (i := 2) (v := ?_) rfl (by kernel_rfl) (by kernel_rfl) (by kernel_rfl) (by kernel_rfl) (fun _ _ _ h => h) (Or.inl ⟨by rfl, ?_⟩) (by assumption) ?_
        rotate_left 1
        · (intro W hSW; go_simp; try (with_reducible rfl))
        refine wpAnyL_take (i := 3) (v := ?_) rfl (by kernel_rfl) (by kernel_rfl) (by kernel_rfl) (by kernel_rfl) (fun _ _ _ h => h) (Or.inl ⟨by rfl, ?_⟩) (by assumption) ?_
        rotate_left 1
        · (intro W hSW; go_simp; try (with_reducible rfl))
        refine wpAnyL_take (i := 4) (v := ?_) rfl (by kernel_rfl) (by kernel_rfl) (by kernel_rfl) (by kernel_rfl) (fun _ _ _ h => h) (Or.inl ⟨by rfl, ?_⟩) (by assumption) ?_
        rotate_left 1
        · (intro W hSW; go_simp; try (with_reducible rfl))
        refine wpAnyL_take (i := 5) (v := ?_) rfl (by kernel_rfl) (by kernel_rfl) (by kernel_rfl) (by kernel_rfl) (fun _ _ _ h => h) (Or.inl ⟨by rfl, ?_⟩) (by assumption) ?_
        rotate_left 1
        · (intro W hSW; go_simp; try (with_reducible rfl))
        refine wpAnyL_take (i := 6) (v := ?_) rfl (by kernel_rfl) (by kernel_rfl) (by kernel_rfl) (by kernel_rfl) (fun _ _ _ h => h) (Or.inl ⟨by rfl, ?_⟩) (by assumption) ?_
        rotate_left 1
        · (intro W hSW; go_simp; try (with_reducible rfl))
        refine wpAnyL_take (i := 7) (v := ?_) rfl (by kernel_rfl) (by kernel_rfl) (by kernel_rfl) (by kernel_rfl) (fun _ _ _ h => h) (Or.inl ⟨by rfl, ?_⟩) (by assumption) ?_
        rotate_left 1
        · (intro W hSW; go_simp; try (with_reducible rfl))
        refine wpAnyL_take (i := 8) (v := ?_) rfl (by kernel_rfl) (by kernel_rfl) (by kernel_rfl) (by kernel_rfl) (fun _ _ _ h => h) (Or.inl ⟨by rfl, ?_⟩) (by assumption) ?_
        rotate_left 1
        · (intro W hSW; go_simp; try (with_reducible rfl))
        refine wpAnyL_take (i := 9) (v := ?_) rfl (by kernel_rfl) (by kernel_rfl) (by kernel_rfl) (by kernel_rfl) (fun _ _ _ h => h) (Or.inl ⟨by rfl, ?_⟩) (by assumption) ?_
        rotate_left 1
        · (intro W hSW; go_simp; try (with_reducible rfl))
        refine wpAnyL_one (i := 10) (by kernel_rfl) rfl (fun K hK => ?_)
        go_simp
        refine (hcl _).mono ?_
        rintro e w3 ⟨rfl, hb3⟩
        go_wp2_with fail
        have hl3 := Lx.below (w := wr.drewN _) hl hb3
        have bR3 := blk_below (w := wr.drewN _) bR hb3
        refine hK.out _ _ ⟨hl3.cells.1, hl3.cells.2.1⟩ (fun hH3 => ?_)
        clear hK K
        refine wpAnyL_take (i := 11) (v := ?_) rfl (by kernel_rfl) (by kernel_rfl) (by kernel_rfl) (by kernel_rfl) (fun _ _ _ h => h) (Or.inl ⟨by rfl, ?_⟩) (by assumption) ?_
        rotate_left 1
        · (intro W hSW; go_simp; try (with_reducible rfl))
        have fR3 := fun i => blk_frozen bR3 i
        have rR3 := fun i => blk_cell bR3 i
        refine wpAnyL_one (i := 12) (by kernel_rfl) rfl (fun K hK => ?_)
        go_simp
        have kW := blk_set (blk_set bR3 0 (.string (s.extract p q))) 1 (.bool false)
        have hl4 : Lx ((w3.setCell ⟨w.heap.size, 0, none⟩ (.string (s.extract p q))).setCell ⟨w.heap.size, 1, none⟩ (.bool false)) g s q n o := (hl3.far (by omega)).far (by omega)
        have HG4 := Nm.hide (gr_trans HG0.out (gr_trans hgr (gr_belL (gr_drewN wr g (nq + 1)) hb3)))
        have HG5 := Nm.hide (gr_new (gr_new HG4.out (i := 0) (y := .string (s.extract p q)) (Nat.le_refl _)) (i := 1) (y := .bool false) (Nat.le_refl _))
        refine hK.out _ _ ⟨hl4.cells.1, hl4.cells.2.1⟩ (fun hH4 => ?_)
        clear hK K
        refine wpAnyL_end (by kernel_rfl) rfl (by kernel_rfl) (fun K hK => ?_)
        go_simp
        refine hK.out _ _ ?_
        clear hK K
        go_wp2
        have rk := fun i => blk_cell kW i
        refine bodyPost_ret (v := .tuple #[.agg #[.string (s.extract p q), .bool false], .nilIface]) ?_ rfl ⟨rfl, hl4, HG5.out⟩
        simp [results, Tryd.f32, go_sem, rk]
    · have d1 : decide (q = s.size) = true := by simp; omega
      have hen := fun k => ended_q hl _ d1 k
      have hqR : q = R := by have e := hR2.out; rw [barF, dif_neg hlt] at e; simpa using e
      subst hqR
      clear hR2
      go_wp2
      go_quiet ((first | (go_at_call 22; exact hen _) | (go_at_call 40; exact hew _)))
      go_wp2
      refine wp_region_last (fun W => W.cell? ⟨g, 0, none⟩ = some (.string s) ∧ W.cell? ⟨g, 1, none⟩ = some (.int .i64 (q : Int))) 13 (by kernel_rfl) ⟨c0, c1⟩ (fun hHeld => ?_)
      refine wpAnyL_take (i := 0) (v := ?_) rfl (by kernel_rfl) (by kernel_rfl) (by kernel_rfl) (by kernel_rfl) (fun _ _ _ h => h) (Or.inl ⟨by rfl, ?_⟩) (by assumption) ?_
      rotate_left 1
      · (intro W hSW; go_simp; try (with_reducible rfl))
      refine wpAnyL_take (i := 1) (v := ?_) rfl (by kernel_rfl) (by kernel_rfl) (by kernel_rfl) (by kernel_rfl) (fun _ _ _ h => h) (Or.inl ⟨by rfl, ?_⟩) (by assumption) ?_
      rotate_left 1
      · (intro W hSW; go_simp; try (with_reducible rfl))
      refine wpAnyL_take (i := 2) (v := ?_) rfl (by kernel_rfl) (by kernel_rfl) (by kernel_rfl) (by kernel_rfl) (fun _ _ _ h => h) (Or.inl ⟨by rfl, ?_⟩) (by assumption) ?_
      rotate_left 1
      · (intro W hSW; go_simp; try (with_reducible rfl))
      refine wpAnyL_take (i := 3) (v := ?_) rfl (by kernel_rfl) (by kernel_rfl) (by kernel_rfl) (by kernel_rfl) (fun _ _ _ h => h) (Or.inl ⟨by rfl, ?_⟩) (by assumption) ?_
      rotate_left 1
      · (intro W hSW; go_simp; try (with_reducible rfl))
      refine wpAnyL_take (i := 4) (v := ?_) rfl (by kernel_rfl) (by kernel_rfl) (by kernel_rfl) (by kernel_rfl) (fun _ _ _ h => h) (Or.inl ⟨by rfl, ?_⟩) (by assumption) ?_
      rotate_left 1
      · (intro W hSW; go_simp; try (with_reducible rfl))
      refine wpAnyL_take (i := 5) (v := ?_) rfl (by kernel_rfl) (by kernel_rfl) (by kernel_rfl) (by kernel_rfl) (fun _ _ _ h => h) (Or.inl ⟨by rfl, ?_⟩) (by assumption) ?_
      rotate_left 1
      · (intro W hSW; go_simp; try (with_reducible rfl))
      refine wpAnyL_take (i := 6) (v := ?_) rfl (by kernel_rfl) (by kernel_rfl) (by kernel_rfl) (by kernel_rfl) (fun _ _ _ h => h) (Or.inl ⟨by rfl, ?_⟩) (by assumption) ?_
      rotate_left 1
      · (intro W hSW; go_simp; try (with_reducible rfl))
      refine wpAnyL_take (i := 7) (v := ?_) rfl (by kernel_rfl) (by kernel_rfl) (by kernel_rfl) (by kernel_rfl) (fun _ _ _ h => h) (Or.inl ⟨by rfl, ?_⟩) (by assumption) ?_
      rotate_left 1
      · (intro W hSW; go_simp; try (with_reducible rfl))
      refine wpAnyL_take (i := 8) (v := ?_) rfl (by kernel_rfl) (by kernel_rfl) (by kernel_rfl) (by kernel_rfl) (fun _ _ _ h => h) (Or.inl ⟨by rfl, ?_⟩) (by assumption) ?_
      rotate_left 1
      · (intro W hSW; go_simp; try (with_reducible rfl))
      refine wpAnyL_take (i := 9) (v := ?_) rfl (by kernel_rfl) (by kernel_rfl) (by kernel_rfl) (by kernel_rfl) (fun _ _ _ h => h) (Or.inl ⟨by rfl, ?_⟩) (by assumption) ?_
      rotate_left 1
      · (intro W hSW; go_simp; try (with_reducible rfl))
      refine wpAnyL_one (i := 10) (by kernel_rfl) rfl (fun K hK => ?_)
      go_simp
      refine (hcl _).mono ?_
      rintro e w3 ⟨rfl, hb3⟩
      go_wp2_with fail
      have hl3 := Lx.below (w := wr.drewN _) hl hb3
      have bR3 := blk_below (w := wr.drewN _) bR hb3
      refine hK.out _ _ ⟨hl3.cells.1, hl3.cells.2.1⟩ (fun hH3 => ?_)
      clear hK K
      refine wpAnyL_take (i := 11) (v := ?_) rfl (by kernel_rfl) (by kernel_rfl) (by kernel_rfl) (by kernel_rfl) (fun _ _ _ h => h) (Or.inl ⟨by rfl, ?_⟩) (by assumption) ?_
      rotate_left 1
      · (intro W hSW; go_simp; try (with_reducible rfl))
      have fR3 := fun i => blk_frozen bR3 i
      have rR3 := fun i => blk_cell bR3 i
      refine wpAnyL_one (i := 12) (by kernel_rfl) rfl (fun K hK => ?_)
      go_simp
      have kW := blk_set (blk_set bR3 0 (.string (s.extract p q))) 1 (.bool false)
      have hl4 : Lx ((w3.setCell ⟨w.heap.size, 0, none⟩ (.string (s.extract p q))).setCell ⟨w.heap.size, 1, none⟩ (.bool false)) g s q n o := (hl3.far (by omega)).far (by omega)
      have HG4 := Nm.hide (gr_trans HG0.out (gr_trans hgr (gr_belL (gr_drewN wr g (nq + 1)) hb3)))
      have HG5 := Nm.hide (gr_new (gr_new HG4.out (i := 0) (y := .string (s.extract p q)) (Nat.le_refl _)) (i := 1) (y := .bool false) (Nat.le_refl _))
      refine hK.out _ _ ⟨hl4.cells.1, hl4.cells.2.1⟩ (fun hH4 => ?_)
      clear hK K
      refine wpAnyL_end (by kernel_rfl) rfl (by kernel_rfl) (fun K hK => ?_)
      go_simp
      refine hK.out _ _ ?_
      clear hK K
      go_wp2
      have rk := fun i => blk_cell kW i
      refine bodyPost_ret (v := .tuple #[.agg #[.string (s.extract p q), .bool false], .nilIface]) ?_ rfl ⟨rfl, hl4, HG5.out⟩
      simp [results, Tryd.f32, go_sem, rk]
end Go.Proofs.YtjbdfooppokonaaDoor
