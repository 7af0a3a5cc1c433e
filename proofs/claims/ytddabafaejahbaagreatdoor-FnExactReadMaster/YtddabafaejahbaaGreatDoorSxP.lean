import Derived.Test.YtddabafaejahbaaGreatDoorSxB
/- The model's lexer: a word in quotes. -/
namespace Go.Proofs.YtddabafaejahbaaGreatDoor
open Go.RowKit
set_option linter.unusedVariables false
set_option maxRecDepth 100000 in
set_option maxHeartbeats 3200000 in
theorem quot_bad (g : Nat) (s : ByteArray) (x : XB) (ws : List Wrd) (ps : List Lp) (w : World) (h : XS w g s x ws ps) (hp : x.p ≤ s.size) (hs : s.size ≤ 40000) (hco : x.co = 0) (h0 : (qutF s x.p).1 ≠ 0) :
 Calls Tryz.prog 135 #[.pointer (some ⟨g, 0, none⟩)] w fun e w' => e = .returned (.tuple #[]) ∧ (∃ q, XS w' g s { x with p := q, co := (qutF s x.p).1, pl := x.n } ws ps) ∧ w.grownBy w' (some g) := by
 obtain ⟨C, hC⟩ : ∃ C, Hid ((qutF s x.p).1 = C) := ⟨_, rfl⟩; have h00 : C ≠ 0 := by rw [← hC.out]; exact h0
 rw [hC.out]; clear h0; obtain ⟨c0, c1, c2, c3, c4, c5, c6, c7, c8, c9, c10, hf⟩ := h.cells; go_enter Tryz.func135, Tryz.ntmps135; go_wp2; clear c0 c1 c2 c3 c4 c5 c6 c7 c8 c9 c10 hf
 go_loopw [] (fun wr => ∃ q, q ≤ s.size ∧ Hid ((qutF s q).1 = C) ∧ XS wr g s { x with p := q } ws ps ∧ w.grownBy wr (some g)) (fun wr => mzL s.size g wr)
 case atStart => exact ⟨x.p, by omega, hC, h, gr_refl _ _⟩
 case round =>
  obtain ⟨q, hq, hR2, hx, hgr⟩ := hrel; clear hC h; obtain ⟨c0, c1, c2, c3, c4, c5, c6, c7, c8, c9, c10, hf⟩ := hx.cells; simp only at c1 c2
  have hx1 := fun k j => (XS.at (W := wr.drewN k) (hx.drewN k) (q + 1)).drewN j
  have hg1 := fun k j => gr_trans (gr_trans (gr_drewN wr g k) (gr_set _ g 1 (.int .i64 ((q + 1 : Nat) : Int)))) (gr_drewN _ g j)
  have hx2 := fun k j => XS.at (hx1 k j) (q + 2)
  have hg2 := fun k j => gr_trans (hg1 k j) (gr_set _ g 1 (.int .i64 ((q + 2 : Nat) : Int)))
  simp only [Int.natCast_add, Int.natCast_one] at hx1 hg1 hx2 hg2; have hr3 := hR2.out
  by_cases hlt : q < s.size
  · have i1 : (q : Int) < (s.size : Int) := by omega
    have i1' : ¬ (s.size : Int) ≤ (q : Int) := by omega
    by_cases h34 : s[q] = 34
    · rw [qutF, dif_pos hlt, if_pos h34] at hr3; exact absurd hr3.symm h00
    · have d34 : ((s[q].toNat : Int) == 34) = false := u8_lit (k := 34) (fun e => h34 e.symm) (by decide); rw [qutF, dif_pos hlt, if_neg h34] at hr3
      by_cases h10 : s[q] = 10
      · have d10 : (s[q].toNat : Int) = 10 := by rw [h10]; rfl
        rw [if_pos h10] at hr3; simp only at hr3
        subst hr3; have hfa := fun k => l05Fail_any g s _ ws ps 13 x.n _ (hx.drewN k) hco
        clear hR2 h34 h10 d34; go_wp2; go_quiet (fail)
        go_wp2; go_quiet (fail)
        go_wp2_with (go_at_call 73; refine (hfa _).mono ?_; rintro e w2 ⟨rfl, hxf, hgf⟩)
        refine bodyPost_ret (v := .tuple #[]) (by simp [results, go_sem]) rfl ⟨rfl, ⟨_, hxf⟩, gr_trans hgr (gr_trans (gr_drewN wr g _) hgf)⟩
      · have e10 : ((s[q].toNat : Int) == 10) = false := u8_lit (k := 10) (fun e => h10 e.symm) (by decide); rw [if_neg h10] at hr3
        by_cases hc : s[q] = 92
        · have d92 : (s[q].toNat : Int) = 92 := by rw [hc]; rfl
          rw [if_pos hc] at hr3
          by_cases hb : ∀ h : q + 1 < s.size, s[q + 1] = 10
          · have h4 : C = 4 := by
             by_cases hlt2 : q + 1 < s.size
             · rw [dif_pos hlt2, if_pos (hb hlt2)] at hr3; exact hr3.symm
             · rw [dif_neg hlt2] at hr3; exact hr3.symm
            subst h4; have hfa := fun k j => l05Fail_any g s _ ws ps 4 x.n _ (hx1 k j) hco
            clear hr3 hR2 hc h34 h10 d34 e10
            by_cases hlt2 : q + 1 < s.size
            · have d10 : (s[q + 1].toNat : Int) = 10 := by rw [hb hlt2]; rfl
              have i2 : (q : Int) + 1 < (s.size : Int) := by omega
              have i3 : 0 ≤ (q : Int) + 1 := by omega
              clear hb; go_wp2; go_quiet (fail)
              go_wp2; go_quiet (fail)
              go_wp2; go_quiet (fail)
              go_wp2_with (go_at_call 73; refine (hfa _ _).mono ?_; rintro e w2 ⟨rfl, hxf, hgf⟩)
              refine bodyPost_ret (v := .tuple #[]) (by simp [results, go_sem]) rfl ⟨rfl, ⟨_, hxf⟩, gr_trans hgr (gr_trans (hg1 _ _) hgf)⟩
            · have i2 : (s.size : Int) ≤ (q : Int) + 1 := by omega
              clear hb; go_wp2; go_quiet (fail)
              go_wp2; go_quiet (fail)
              go_wp2; go_quiet (fail)
              go_wp2_with (go_at_call 73; refine (hfa _ _).mono ?_; rintro e w2 ⟨rfl, hxf, hgf⟩)
              refine bodyPost_ret (v := .tuple #[]) (by simp [results, go_sem]) rfl ⟨rfl, ⟨_, hxf⟩, gr_trans hgr (gr_trans (hg1 _ _) hgf)⟩
          · obtain ⟨hlt2, hc2⟩ : ∃ h : q + 1 < s.size, s[q + 1] ≠ 10 := by
             by_cases hlt2 : q + 1 < s.size
             · exact ⟨hlt2, fun e => hb (fun _ => e)⟩
             · exact (hb (fun h' => (hlt2 h').elim)).elim
            rw [dif_pos hlt2, if_neg hc2] at hr3; have HR3 := Nm.hide hr3; clear hr3 hR2 hc hb h34 h10 d34 e10; have d10 : ((s[q + 1].toNat : Int) == 10) = false := u8_lit (k := 10) (fun e => hc2 e.symm) (by decide); have i2 : (q : Int) + 1 < (s.size : Int) := by omega
            have i3 : 0 ≤ (q : Int) + 1 := by omega
            clear hc2; go_wp2; go_quiet (fail)
            go_wp2; go_quiet (fail)
            go_wp2; go_quiet (fail)
            go_wp2; go_roundw
            case rel => exact ⟨q + 2, by omega, HR3, hx2 _ _, gr_trans hgr (hg2 _ _)⟩
            case measure => rw [mzX_at hx]; exact Nat.lt_of_le_of_lt (Nat.le_of_eq (mzX_at (hx2 _ _))) (by simp; omega)
        · rw [if_neg hc] at hr3; have HR3 := Nm.hide hr3; have d92 : ((s[q].toNat : Int) == 92) = false := u8_lit (k := 92) (fun e => hc e.symm) (by decide); clear hr3 hR2 hc h34 h10; have n34 : ((s[q].toNat : Int) != 34) = true := by rw [bne, d34]; rfl
          have n10 : ((s[q].toNat : Int) != 10) = true := by rw [bne, e10]; rfl
          go_wp2; go_quiet (fail)
          go_wp2; go_quiet (fail)
          go_wp2; go_roundw
          case rel => exact ⟨q + 1, by omega, HR3, hx1 _ 0, gr_trans hgr (hg1 _ 0)⟩
          case measure => rw [mzX_at hx]; exact Nat.lt_of_le_of_lt (Nat.le_of_eq (mzX_at (hx1 _ 0))) (by simp; omega)
  · have i1 : (s.size : Int) ≤ (q : Int) := by omega
    rw [qutF, dif_neg hlt] at hr3; simp only at hr3
    subst hr3; have hfa := fun k => l05Fail_any g s _ ws ps 13 x.n _ (hx.drewN k) hco
    clear hR2; go_wp2; go_quiet (fail)
    go_wp2; go_quiet (fail)
    go_wp2_with (go_at_call 73; refine (hfa _).mono ?_; rintro e w2 ⟨rfl, hxf, hgf⟩)
    refine bodyPost_ret (v := .tuple #[]) (by simp [results, go_sem]) rfl ⟨rfl, ⟨_, hxf⟩, gr_trans hgr (gr_trans (gr_drewN wr g _) hgf)⟩
end Go.Proofs.YtddabafaejahbaaGreatDoor
