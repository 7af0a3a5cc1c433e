/- The program's lexer: a word that is ill; a word in quotes. -/
import Derived.Test.YtjbdfooppokonaaDoorLxD
namespace Go.Proofs.YtjbdfooppokonaaDoor
open Go.RowKit
set_option linter.unusedVariables false

set_option maxRecDepth 100000 in
set_option maxHeartbeats 1600000 in
theorem word_bad (g p n o : Nat) (s : ByteArray) (w : World) (h : Lx w g s p n o) (hp : p < s.size) (hs : s.size ≤ 1000000) (hc : isSp s[p] = false) (h0 : (barF s p).1 ≠ 0) :
    Calls Tryd.prog 32 #[.pointer (some ⟨g, 0, none⟩)] w fun e w' => e = .returned (.tuple #[.agg #[.string ⟨#[]⟩, .bool false], linE n (barF s p).1]) ∧ (∃ q, Lx w' g s q n o) ∧ w.grownBy w' (some g) := by
  obtain ⟨C, hC⟩ : ∃ C, Hid ((barF s p).1 = C) := ⟨(barF s p).1, rfl⟩
  have h00 : C ≠ 0 := by rw [← hC.out]; exact h0
  rw [hC.out]
  clear h0
  have d34 : ((s[p].toNat : Int) == 34) = false := by
    refine u8_lit (k := 34) (fun e => ?_) (by decide)
    rw [← e] at hc
    exact absurd hc (by decide)
  have hl1 : Lx (w.alloc (.cells #[.string ⟨#[]⟩, .bool false] 62)) g s p n o := h.grown (b := none) ⟨rfl, rfl, rfl, by simp, fun k hk _ => heap_alloc_old _ _ hk⟩ (by simp)
  obtain ⟨c0, c1, c2, c3, hf⟩ := hl1.cells
  have bW := blk_new w #[.string ⟨#[]⟩, .bool false] 62
  have hgl := h.lt
  have HG0 := Nm.hide (gr_alloc (w := w) (g := g) (.cells #[.string ⟨#[]⟩, .bool false] 62))
  generalize hw1 : w.alloc (.cells #[.string ⟨#[]⟩, .bool false] 62) = w1 at *
  go_enter Tryd.func32, Tryd.ntmps32
  go_wp2
  go_quiet (fail)
  go_wp2
  clear hw1 h c0 c1 c2 c3 hf d34 hc
  go_loopw [] (fun wr => ∃ q, p ≤ q ∧ q ≤ s.size ∧ Hid ((barF s q).1 = C) ∧ Lx wr g s q n o ∧ w1.grownBy wr (some g)) (fun wr => mzL s.size g wr)
  case atStart => exact ⟨p, Nat.le_refl _, by omega, hC, hl1, gr_drewN _ _ _⟩
  case round =>
    obtain ⟨q, hpq, hq, hR2, hl, hgr⟩ := hrel
    clear hC hl1
    obtain ⟨c0, c1, c2, c3, hf⟩ := hl.cells
    have bR := blk_grown bW hgr (fun e => by simp at e; omega)
    by_cases hlt : q < s.size
    · have d1 : decide (q = s.size) = false := by simp; omega
      have hen := fun k => ended_q hl _ d1 k
      have hr3 := hR2.out
      cases hsp : isSp s[q] with
      | false =>
        have hew := fun k => endsWord_q (w := wr) _ hsp k
        by_cases hc : s[q] = 92
        · rw [barF, dif_pos hlt, if_neg (by simp [hsp]), if_pos hc] at hr3
          by_cases hb : ∀ h : q + 1 < s.size, s[q + 1] = 10
          · have h4 : C = 4 := by
              by_cases hlt2 : q + 1 < s.size
              · rw [dif_pos hlt2, if_pos (hb hlt2)] at hr3
                exact hr3.symm
              · rw [dif_neg hlt2] at hr3
                exact hr3.symm
            subst h4
            have hle2 := fun k => letter_bad g q n o s (wr.drewN k) hl hlt hs hc hb
            clear hr3 hR2 hc hb
            go_wp2
            go_quiet ((first | (go_at_call 22; exact hen _) | (go_at_call 40; exact hew _)))
            go_wp2_with (go_at_call 41; refine (hle2 _).mono ?_; rintro e w3 ⟨rfl, ⟨q3, hl3⟩, hg3⟩; have bR3 := blk_grown (w := wr.drewN _) bR hg3 (fun e => by simp at e; omega); have rR3 := fun i => blk_cell bR3 i; have fR3 := fun i => blk_frozen bR3 i)
            have kW := blk_set (blk_set bR3 0 (.string ⟨#[]⟩)) 1 (.bool false)
            have rk := fun i => blk_cell kW i
            have HG5 := Nm.hide (gr_new (gr_new (gr_trans HG0.out (gr_trans hgr (gr_trans (gr_drewN wr g _) hg3))) (i := 0) (y := .string ⟨#[]⟩) (Nat.le_refl _)) (i := 1) (y := .bool false) (Nat.le_refl _))
            refine bodyPost_ret (v := .tuple #[.agg #[.string ⟨#[]⟩, .bool false], _]) ?_ rfl ⟨rfl, ⟨q3, (hl3.far (by omega)).far (by omega)⟩, HG5.out⟩
            simp [results, Tryd.f32, go_sem, rk]
          · obtain ⟨hlt2, hc2⟩ : ∃ h : q + 1 < s.size, s[q + 1] ≠ 10 := by
              by_cases hlt2 : q + 1 < s.size
              · exact ⟨hlt2, fun e => hb (fun _ => e)⟩
              · exact (hb (fun h' => (hlt2 h').elim)).elim
            rw [dif_pos hlt2, if_neg hc2] at hr3
            have HR3 := Nm.hide hr3
            have hle2 := fun k => letter_two g q n o s (wr.drewN k) hl hlt2 hs hc hc2
            clear hr3 hR2 hc hc2 hb
            go_wp2
            go_quiet ((first | (go_at_call 22; exact hen _) | (go_at_call 40; exact hew _)))
            go_wp2_with (go_at_call 41; refine (hle2 _).mono ?_; rintro e w3 ⟨rfl, hl3, hg3⟩)
            go_roundw
            case rel => exact ⟨q + 2, by omega, by omega, HR3, hl3, gr_trans hgr (gr_trans (gr_drewN _ _ _) hg3)⟩
            case measure => rw [mzL_at hl, mzL_at hl3]; omega
        · rw [barF, dif_pos hlt, if_neg (by simp [hsp]), if_neg hc] at hr3
          have HR3 := Nm.hide hr3
          have hle2 := fun k => letter_one g q n o s (wr.drewN k) hl hlt hs hc
          clear hr3 hR2 hc
          go_wp2
          go_quiet ((first | (go_at_call 22; exact hen _) | (go_at_call 40; exact hew _)))
          go_wp2_with (go_at_call 41; refine (hle2 _).mono ?_; rintro e w3 ⟨rfl, hl3, hg3⟩)
          go_roundw
          case rel => exact ⟨q + 1, by omega, by omega, HR3, hl3, gr_trans hgr (gr_trans (gr_drewN _ _ _) hg3)⟩
          case measure => rw [mzL_at hl, mzL_at hl3]; omega
      | true =>
        rw [barF, dif_pos hlt, if_pos hsp] at hr3
        exact absurd hr3.symm h00
    · have hr3 := hR2.out
      rw [barF, dif_neg hlt] at hr3
      exact absurd hr3.symm h00
end Go.Proofs.YtjbdfooppokonaaDoor
