import Derived.Test.YtljcckcdmehipaaEnC
import Derived.Test.YtljcckcdmehipaaJEnK
import Derived.Test.YtljcckcdmehipaaMgT
import Derived.Test.YtljcckcdmehipaaMgU
import Derived.Test.YtljcckcdmehipaaJEqH2
/- The law of Encode: its walk. -/
namespace Go.Proofs.Ytljcckcdmehipaa
open Go.RowKit
set_option linter.unusedVariables false

theorem msum_smallE {m : Mg} (h : msum m ≤ 1048576) : MSmall m := by
  unfold msum at h
  refine ⟨fun r hr => ?_, fun r hr => ?_, fun r hr => ?_, fun r hr => ?_, by omega, by omega, by omega, by omega⟩
  · have := qsum_mem m.qs r hr; omega
  · have := rsum_mem m.an r hr; omega
  · have := rsum_mem m.au r hr; omega
  · have := rsum_mem m.ex r hr; omega

set_option maxRecDepth 100000 in
set_option maxHeartbeats 3200000 in
theorem fnExactEncode_walk (m : Mg) (q a u x : Value) (w : World) (h : MRow w m q a u x) (hx : MFit m) :
    Calls Try.prog 3 #[.agg (mgV m.hd q a u x)] w fun e w' => e = .returned (.bool true) ∧ Below w.heap.size w w' := by
  have kb := blk_new w (mgV m.hd q a u x) 27
  have hB0 := (Below.refl w.heap.size w).alloc (Nat.le_refl _) (.cells (mgV m.hd q a u x) 27)
  have hsz := szMessage_any m q a u x 1048576 _ (h.below hB0) hx (by decide) (by decide)
  have hz1 : (w.alloc (.cells (mgV m.hd q a u x) 27)).heap.size = w.heap.size + 1 := by simp
  by_cases hb : (msum m : Int) ≤ 1048576
  · have e1 : szM m 1048576 = 1048576 - msum m := if_pos hb
    rw [e1] at hsz
    have hms : msum m ≤ 1048576 := by omega
    have hsm := msum_smallE hms
    obtain ⟨l1, l2, l3, l4, l5⟩ : m.qs.length ≤ 1100000 ∧ m.an.length ≤ 1100000 ∧ m.au.length ≤ 1100000 ∧ m.ex.length ≤ 1100000 ∧ m.qs.length + m.an.length + m.au.length + m.ex.length ≤ 1100000 := by
      unfold msum at hms
      exact ⟨by omega, by omega, by omega, by omega, by omega⟩
    have hnn : 0 ≤ 1048576 - (msum m : Int) := by omega
    generalize (1048576 - (msum m : Int)) = L at *
    have hto := fun (W : World) (hW : Below w.heap.size w W) => toMessage_any m q a u x W ⟨h.rq.below hW, h.ra.below hW, h.ru.below hW, h.rx.below hW⟩ hms
    have hsp := fun (q' a' u' x' : Value) (W : World) (hr : MRow W m q' a' u' x') => specEncode_any m q' a' u' x' W hr hsm
    have him := fun (q' a' u' x' : Value) (W : World) (hr : MRow W m q' a' u' x') => implEncode_any m q' a' u' x' W hr hsm
    have heq := fun (q1 a1 u1 x1 q2 a2 u2 x2 : Value) (W : World) (h1 : MRow W m q1 a1 u1 x1) (h2 : MRow W m q2 a2 u2 x2) => eqMessageG_any m q1 a1 u1 x1 q2 a2 u2 x2 W h1 h2
    have hsl := fun (W : World) (B : Nat) (q' a' u' x' : Value) (ho : MOwn W B m q' a' u' x') => (⟨own_sl ho.rq, own_sl ho.ra, own_sl ho.ru, own_sl ho.rx⟩ : (∃ b c, q' = .slice b m.qs.length c) ∧ (∃ b c, a' = .slice b m.an.length c) ∧ (∃ b c, u' = .slice b m.au.length c) ∧ (∃ b c, x' = .slice b m.ex.length c))
    obtain ⟨_, qa, qc, rfl, _⟩ := h.rq
    obtain ⟨_, aa, ac, rfl, _⟩ := h.ra
    obtain ⟨_, ua, uc, rfl, _⟩ := h.ru
    obtain ⟨_, xa, xc, rfl, _⟩ := h.rx
    clear hb hms hsm hx h e1
    have hmk := fun (q' a' u' x' : Value) (B : Nat) (W : World) (ho : MOwn W B m q' a' u' x') (hB : B ≤ W.heap.size) => markMsg_any m q' a' u' x' B W ho hB l1 l2 l3 l4 l5
    have hel := enB_len m
    generalize enB m = EB at *
    generalize (enC m : Int) = C at *
    have heb := fun (v u : Value) (W : World) (h1 : CRow W v EB.length 1 (Nm.bys EB)) (h2 : CRow W u EB.length 1 (Nm.bys EB)) => eqBy_any v u EB W h1 h2
    have hmb := fun (v : Value) (B : Nat) (W : World) (h1 : W.ownsRow B 5 1 v EB.length (Nm.bys EB)) => markBy_any v EB.length B _ W h1 (by omega)
    have hhb := fun (v : Value) (W : World) (h1 : CRow W v EB.length 1 (bmk EB.length)) => heldBy_any v EB.length W h1 (by omega)
    obtain ⟨K1, hK1⟩ : ∃ K : Int, K = 1 + (EB.length : Int) := ⟨_, rfl⟩
    have hK0 : 0 ≤ K1 := by omega
    have hKn : (K1 != K1) = false := by simp
    rw [← hK1] at hmb hhb
    clear hK1
    have hCn : (C != C) = false := by simp
    obtain ⟨⟨i0, b1, i2, b3, b4, b5, b6, b7, b8, b9, i10⟩, qs, an, au, ex⟩ := m
    simp only [mgV] at *
    go_enter Try.func3, Try.ntmps3
    go_wp2_with fail
    refine hsz.mono ?_
    rintro e w1 ⟨rfl, hb1⟩
    have z1 := blk_below kb hb1
    have c1 := Nm.below_two hB0 hb1
    have rr := fun i => blk_cell z1 i
    clear hsz kb hb1
    go_wp2_with fail
    refine (hto _ c1).mono ?_
    rintro e w2 ⟨q2, a2, u2, x2, rfl, ho2, hb2⟩
    have z2 := blk_below z1 hb2
    have c2 := Nm.below_two c1 hb2
    clear rr z1
    go_wp2_with fail
    refine (hsp _ _ _ _ _ ho2.read).mono ?_
    rintro e w3 ⟨v3, rfl, hr3, hb3⟩
    obtain ⟨ra3, rc3, hv3⟩ := own_sl hr3
    subst hv3
    have z3 := blk_below z2 hb3
    have c3 := Nm.below_two c2 hb3
    have hl3 : ∀ g, (Value.slice ra3 EB.length rc3).ownBlock = some g → g < w3.heap.size := fun g hg => (hr3.lt g hg).2
    have rr := fun i => blk_cell z3 i
    clear z2 ho2
    go_wp2_with fail
    refine (hto _ c3).mono ?_
    rintro e w4 ⟨q4, a4, u4, x4, rfl, ho4, hb4⟩
    have z4 := blk_below z3 hb4
    have c4 := Nm.below_two c3 hb4
    have hr4 := own_below hr3 hb4
    have hs34 := hb4.size
    obtain ⟨⟨s1, t1, rfl⟩, ⟨s2, t2, rfl⟩, ⟨s3, t3, rfl⟩, ⟨s4, t4, rfl⟩⟩ := hsl _ _ _ _ _ _ ho4
    have hbA := (Below.refl w4.heap.size w4).alloc (Nat.le_refl _) (.cells #[.int .i64 i0, .bool b1, .int .i64 i2, .bool b3, .bool b4, .bool b5, .bool b6, .bool b7, .bool b8, .bool b9, .int .i64 i10, .slice s1 qs.length t1, .slice s2 an.length t2, .slice s3 au.length t3, .slice s4 ex.length t4] 36)
    have x4 := blk_new w4 #[.int .i64 i0, .bool b1, .int .i64 i2, .bool b3, .bool b4, .bool b5, .bool b6, .bool b7, .bool b8, .bool b9, .int .i64 i10, .slice s1 qs.length t1, .slice s2 an.length t2, .slice s3 au.length t3, .slice s4 ex.length t4] 36
    have hszA : (w4.alloc (.cells #[.int .i64 i0, .bool b1, .int .i64 i2, .bool b3, .bool b4, .bool b5, .bool b6, .bool b7, .bool b8, .bool b9, .int .i64 i10, .slice s1 qs.length t1, .slice s2 an.length t2, .slice s3 au.length t3, .slice s4 ex.length t4] 36)).heap.size = w4.heap.size + 1 := by simp
    clear rr z3 hr3
    go_wp2_with fail
    refine (him _ _ _ _ _ (ho4.below hbA).read).mono ?_
    rintro e w5 ⟨v5, rfl, hr5, hb5⟩
    obtain ⟨ra5, rc5, hv5⟩ := own_sl hr5
    subst hv5
    rw [hszA] at hr5
    have hl5 : ∀ g, (Value.slice ra5 EB.length rc5).ownBlock = some g → w4.heap.size + 1 ≤ g := fun g hg => (hr5.lt g hg).1
    have hbA5 := Nm.below_two hbA hb5
    have z5 := blk_below z4 hbA5
    have x5 := blk_below x4 hb5
    have c5 := Nm.below_two c4 hbA5
    have ho5 := ho4.below hbA5
    have hr35 := own_below hr4 hbA5
    clear z4 x4 c4 hbA hb5 ho4 hr4 hbA5 hszA
    as_aux_lemma =>
      go_wp2_with fail
      refine (heb _ _ _ (CRow.of_owns hr5) (CRow.of_owns hr35)).mono ?_
      rintro e w6 ⟨rfl, hb6⟩
      have z6 := blk_below z5 hb6
      have x6 := blk_below x5 hb6
      have c6 := Nm.below_two c5 hb6
      have ho6 := ho5.below hb6
      have hr36 := own_below hr35 hb6
      have hr56 := own_below hr5 hb6
      clear z5 x5 c5 ho5 hr35 hr5 hb6
      as_aux_lemma =>
        go_wp2
        refine wp_region_held_drew (S := fun W => Blk W w.heap.size #[.int .i64 i0, .bool b1, .int .i64 i2, .bool b3, .bool b4, .bool b5, .bool b6, .bool b7, .bool b8, .bool b9, .int .i64 i10, .slice qa qs.length qc, .slice aa an.length ac, .slice ua au.length uc, .slice xa ex.length xc] 27 ∧ Blk W w4.heap.size #[.int .i64 i0, .bool b1, .int .i64 i2, .bool b3, .bool b4, .bool b5, .bool b6, .bool b7, .bool b8, .bool b9, .int .i64 i10, .slice s1 qs.length t1, .slice s2 an.length t2, .slice s3 au.length t3, .slice s4 ex.length t4] 36) (by kernel_rfl) ⟨blk_below z6 (Below.refl _ _).drew, blk_below x6 (Below.refl _ _).drew⟩ (fun hHeld => ?_)
        refine wpAnyH_take (i := 0) (v := .agg #[.int .i64 i0, .bool b1, .int .i64 i2, .bool b3, .bool b4, .bool b5, .bool b6, .bool b7, .bool b8, .bool b9, .int .i64 i10, .slice s1 qs.length t1, .slice s2 an.length t2, .slice s3 au.length t3, .slice s4 ex.length t4]) rfl (by kernel_rfl) (by kernel_rfl) (by kernel_rfl) (fun _ _ _ h => h) (Or.inl ⟨by rfl, ?_⟩) (by assumption) ?_
        · rintro W ⟨k1, k2⟩
          have rr := fun i => blk_cell k2 i
          go_simp
        refine wpAnyH_take (i := 1) (v := .agg #[.int .i64 i0, .bool b1, .int .i64 i2, .bool b3, .bool b4, .bool b5, .bool b6, .bool b7, .bool b8, .bool b9, .int .i64 i10, .slice qa qs.length qc, .slice aa an.length ac, .slice ua au.length uc, .slice xa ex.length xc]) rfl (by kernel_rfl) (by kernel_rfl) (by kernel_rfl) (fun _ _ _ h => h) (Or.inl ⟨by rfl, ?_⟩) (by assumption) ?_
        · rintro W ⟨k1, k2⟩
          have rr := fun i => blk_cell k1 i
          go_simp
        refine wpAnyH_ready (rs := [2]) (by kernel_rfl) (by simp) ?_
        refine AllReadyH.cons rfl (fun K hK => ?_) AllReadyH.nil
        go_simp
        refine (hto _ (Nm.below_two c6 (Below.refl _ _).drew)).mono ?_
        rintro e w7 ⟨q7, a7, u7, x7, rfl, ho7, hb7⟩
        go_wp2_with fail
        have hb67 : Below w6.heap.size w6 w7 := Nm.below_two (Below.refl _ _).drew hb7
        refine hK.out _ _ ⟨blk_below z6 hb67, blk_below x6 hb67⟩ (fun _ => ?_)
        clear hK K
        refine wpAnyH_ready (rs := [3]) (by kernel_rfl) (by simp) ?_
        refine AllReadyH.cons rfl (fun K hK => ?_) AllReadyH.nil
        go_simp
        refine (heq _ _ _ _ _ _ _ _ _ (ho6.below hb67).read ho7.read).mono ?_
        rintro e w8 ⟨rfl, hb8⟩
        go_wp2_with fail
        have hb68 := Nm.below_two hb67 hb8
        have z8 := blk_below z6 hb68
        have x8 := blk_below x6 hb68
        refine hK.out _ _ ⟨z8, x8⟩ (fun _ => ?_)
        clear hK K
        refine wpAnyH_take (i := 4) (v := .bool false) rfl (by kernel_rfl) (by kernel_rfl) (by kernel_rfl) (fun _ _ _ h => h) (Or.inl ⟨by rfl, ?_⟩) (by assumption) ?_
        · rintro W ⟨k1, k2⟩
          go_simp
        refine wpAnyH_done (by kernel_rfl) ?_ _
        have c8 := Nm.below_two c6 hb68
        have ho8 := ho6.below hb68
        have hr38 := own_below hr36 hb68
        have hr58 := own_below hr56 hb68
        have hs48 : w4.heap.size < w8.heap.size := blk_lt x8
        have rr := fun i => blk_cell x8 i
        clear hHeld z6 x6 c6 ho6 hr36 hr56 ho7 hb7 hb67 hb8 hb68 heq
        as_aux_lemma =>
          go_wp2_with fail
          refine (hmk _ _ _ _ w3.heap.size _ ho8 (by omega)).mono ?_
          rintro e w9 ⟨k9, rfl, m9⟩
          have hk9 : (0 : Int) ≤ (k9 : Int) := by omega
          have z9 := m9.blk z8 (by decide) (by decide)
          have hr39 := m9.row hr38 (by decide) (by decide)
          have hr59 := m9.row hr58 (by decide) (by decide)
          have c9 : Below w.heap.size w w9 := c8.trans (m9.be.mono c3.size)
          have hs49 : w4.heap.size < w9.heap.size := by have := m9.be.size; omega
          clear rr z8 x8 c8 ho8 hr38 hr58 m9 hmk
          as_aux_lemma =>
            go_wp2_with fail
            refine (heb _ _ _ (CRow.of_owns hr59) (CRow.of_owns hr39)).mono ?_
            rintro e w10 ⟨rfl, hb10⟩
            have z10 := blk_below z9 hb10
            have hr310 := own_below hr39 hb10
            have hr510 := own_below hr59 hb10
            have c10 := Nm.below_two c9 hb10
            clear z9 hr39 hr59 c9 hb10
            go_wp2_with fail
            refine (hmb _ _ _ hr510).mono ?_
            rintro e w11 ⟨rfl, ho11, hg11⟩
            have z11 := blk_grown z10 hg11 (fun e => by have h1 := hl5 _ e; have h2 := c3.size; omega)
            have hr311 := own_beside hr310 hg11 (fun g hg hg' => by have h1 := hl5 g hg; have h2 := hl3 g hg'; omega)
            have c11 : Below w.heap.size w w11 := c10.grown hg11 c10.size (fun g hg => by have h1 := hl5 g hg; have h2 := c3.size; omega)
            clear z10 hr310 hr510 c10 hg11 hmb
            as_aux_lemma =>
              go_wp2_with fail
              refine (hhb _ _ (CRow.of_owns ho11)).mono ?_
              rintro e w12 ⟨rfl, hb12⟩
              have z12 := blk_below z11 hb12
              have hr312 := own_below hr311 hb12
              have ho12 := own_below ho11 hb12
              have c12 := Nm.below_two c11 hb12
              have rr := fun i => blk_cell z12 i
              clear z11 hr311 ho11 c11 hb12
              as_aux_lemma =>
                go_wp2_with fail
                refine (hto _ c12).mono ?_
                rintro e w13 ⟨q13, a13, u13, x13, rfl, ho13, hb13⟩
                go_wp2_with fail
                refine (him _ _ _ _ _ ho13.read).mono ?_
                rintro e w14 ⟨v14, rfl, hr14, hb14⟩
                obtain ⟨ra14, rc14, hv14⟩ := own_sl hr14
                subst hv14
                have hr314 := own_below (own_below hr312 hb13) hb14
                have ho14 := own_below (own_below ho12 hb13) hb14
                have c14 := Nm.below_two (Nm.below_two c12 hb13) hb14
                clear rr z12 hr312 ho12
                go_wp2_with fail
                refine (heb _ _ _ (CRow.of_owns hr14) (CRow.of_owns hr314)).mono ?_
                rintro e w15 ⟨rfl, hb15⟩
                have ho15 := own_below ho14 hb15
                go_wp2_with fail
                refine (hhb _ _ (CRow.of_owns ho15)).mono ?_
                rintro e w16 ⟨rfl, hb16⟩
                have c16 := Nm.below_two (Nm.below_two c14 hb15) hb16
                go_wp2
                go_ret
                exact ⟨rfl, c16⟩
  · have e1 : szM m 1048576 = -1 := if_neg hb
    rw [e1] at hsz
    obtain ⟨_, qa, qc, rfl, _⟩ := h.rq
    obtain ⟨_, aa, ac, rfl, _⟩ := h.ra
    obtain ⟨_, ua, uc, rfl, _⟩ := h.ru
    obtain ⟨_, xa, xc, rfl, _⟩ := h.rx
    clear hb e1 hx h
    obtain ⟨⟨i0, b1, i2, b3, b4, b5, b6, b7, b8, b9, i10⟩, qs, an, au, ex⟩ := m
    simp only [mgV] at *
    go_enter Try.func3, Try.ntmps3
    go_wp2_with fail
    refine hsz.mono ?_
    rintro e w1 ⟨rfl, b1⟩
    go_wp2
    go_ret
    exact ⟨rfl, Nm.below_two hB0 b1⟩
end Go.Proofs.Ytljcckcdmehipaa
