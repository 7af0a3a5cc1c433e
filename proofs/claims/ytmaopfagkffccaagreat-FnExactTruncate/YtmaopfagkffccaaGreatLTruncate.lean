import Derived.Test.YtmaopfagkffccaaGreatJSTr
import Derived.Test.YtmaopfagkffccaaGreatJMkG
import Derived.Test.YtmaopfagkffccaaGreatJMkX
import Derived.Test.YtmaopfagkffccaaGreatMgT
import Derived.Test.YtmaopfagkffccaaGreatMgU
import Derived.Test.YtmaopfagkffccaaGreatEqH2
import Derived.Test.YtmaopfagkffccaaGreatJRrO
/- The law of Truncate: its walk. -/
namespace Go.Proofs.YtmaopfagkffccaaGreat
open Go.RowKit
set_option linter.unusedVariables false

theorem msum_smallT {m : Mg} (h : msum m ≤ 1048576) : MSmall m := by
  unfold msum at h
  refine ⟨fun r hr => ?_, fun r hr => ?_, fun r hr => ?_, fun r hr => ?_, by omega, by omega, by omega, by omega⟩
  · have := qsum_mem m.qs r hr; omega
  · have := rsum_mem m.an r hr; omega
  · have := rsum_mem m.au r hr; omega
  · have := rsum_mem m.ex r hr; omega

theorem cutM_ok (b : Int) : ∀ (k : Nat) (m : Mg), mgOK m = true → mgOK (cutM b k m) = true
  | 0, m, h => h
  | k + 1, m, h => by
    rw [cutM]
    split
    · exact h
    · cases hs : shM m with
      | none => exact h
      | some m' => exact cutM_ok b k m' (shM_ok h hs)

theorem trR_few (b : Int) (m : Mg) : (trR b m).1.qs.length ≤ 400 ∧ (trR b m).1.an.length ≤ 400 ∧ (trR b m).1.au.length ≤ 400 ∧ (trR b m).1.ex.length ≤ 400 := by
  unfold trR
  split
  · rename_i h
    have := cutM_ok b (cntM m) m h
    simp only [trM]
    simp only [mgOK, Bool.and_eq_true, decide_eq_true_eq] at this
    obtain ⟨⟨⟨⟨⟨h1, _⟩, _⟩, _⟩, _⟩, _⟩ := this
    omega
  · exact ⟨by decide, by decide, by decide, by decide⟩

theorem own_sameT {w w' : World} {B e s n : Nat} {v : Value} {xs : List Value} (h : w.ownsRow B e s v n xs) (hs : ∀ k, B ≤ k → k < w.heap.size → w'.heap[k]? = w.heap[k]?) : w'.ownsRow B e s v n xs := by
  have hl := h.lt
  refine ⟨h.1, ?_⟩
  rcases h.2 with h0 | ⟨g, cap, cur, rfl, hb, hh, r⟩
  · exact .inl h0
  · exact .inr ⟨g, cap, cur, rfl, hb, (hs g (hl g rfl).1 (hl g rfl).2).trans hh, r⟩
theorem mown_same {w w' : World} {N : Nat} {m : Mg} {q a u x : Value} (h : MOwn w N m q a u x) (hk : ∀ k, N ≤ k → k < w.heap.size → w'.heap[k]? = w.heap[k]?) : MOwn w' N m q a u x :=
  ⟨own_sameT h.rq hk, own_sameT h.ra hk, own_sameT h.ru hk, own_sameT h.rx hk⟩

set_option maxRecDepth 100000 in
set_option maxHeartbeats 6400000 in
theorem fnExactTruncate_walk (m : Mg) (q a u x : Value) (N : Int) (w : World) (h : MRow w m q a u x) (hx : MFit m) :
    Calls Tryz.prog 3 #[.agg (mgV m.hd q a u x), .int .i64 N] w fun e w' => e = .returned (.bool true) ∧ Below w.heap.size w w' := by
  have kb := blk_new w (mgV m.hd q a u x) 27
  have hB0 := (Below.refl w.heap.size w).alloc (Nat.le_refl _) (.cells (mgV m.hd q a u x) 27)
  have hsz := szMessage_any m q a u x 1048576 _ (h.below hB0) hx (by decide) (by decide)
  by_cases hb : (msum m : Int) ≤ 1048576
  · have e1 : szM m 1048576 = 1048576 - msum m := if_pos hb
    rw [e1] at hsz
    have hms : msum m ≤ 1048576 := by omega
    have hsm := msum_smallT hms
    obtain ⟨l1, l2, l3, l4, l5⟩ : m.qs.length ≤ 1100000 ∧ m.an.length ≤ 1100000 ∧ m.au.length ≤ 1100000 ∧ m.ex.length ≤ 1100000 ∧ m.qs.length + m.an.length + m.au.length + m.ex.length ≤ 1100000 := by
      unfold msum at hms
      exact ⟨by omega, by omega, by omega, by omega, by omega⟩
    have hnn : 0 ≤ 1048576 - (msum m : Int) := by omega
    generalize (1048576 - (msum m : Int)) = L at *
    have hto := fun (W : World) (hW : Below w.heap.size w W) => toMessage_any m q a u x W ⟨h.rq.below hW, h.ra.below hW, h.ru.below hW, h.rx.below hW⟩ hms
    have hsp := fun (q' a' u' x' : Value) (W : World) (hr : MRow W m q' a' u' x') => specTruncate_any m q' a' u' x' N W hr hsm
    have him := fun (q' a' u' x' : Value) (W : World) (hr : MRow W m q' a' u' x') => implTruncate_any m q' a' u' x' N W hr hsm
    have heq := fun (q1 a1 u1 x1 q2 a2 u2 x2 : Value) (W : World) (h1 : MRow W m q1 a1 u1 x1) (h2 : MRow W m q2 a2 u2 x2) => eqMessageG_any m q1 a1 u1 x1 q2 a2 u2 x2 W h1 h2
    have hsl := fun (W : World) (B : Nat) (q' a' u' x' : Value) (ho : MOwn W B m q' a' u' x') => (⟨own_sl ho.rq, own_sl ho.ra, own_sl ho.ru, own_sl ho.rx⟩ : (∃ b c, q' = .slice b m.qs.length c) ∧ (∃ b c, a' = .slice b m.an.length c) ∧ (∃ b c, u' = .slice b m.au.length c) ∧ (∃ b c, x' = .slice b m.ex.length c))
    have hmk := fun (q' a' u' x' : Value) (B T : Nat) (W : World) (ho : MOwn W B m q' a' u' x') (hB : B ≤ W.heap.size) => markMsgX_any m q' a' u' x' B W ho hB l1 l2 l3 l4 l5 T
    obtain ⟨_, qa, qc, rfl, _⟩ := h.rq
    obtain ⟨_, aa, ac, rfl, _⟩ := h.ra
    obtain ⟨_, ua, uc, rfl, _⟩ := h.ru
    obtain ⟨_, xa, xc, rfl, _⟩ := h.rx
    clear hb hms hsm hx h e1
    obtain ⟨f1, f2, f3, f4⟩ := trR_few N m
    generalize trR N m = R at *
    obtain ⟨M, C⟩ := R
    simp only at f1 f2 f3 f4
    unfold SkPost at hsp
    unfold TkPost at him
    simp only at hsp him
    have heM := fun (q1 a1 u1 x1 q2 a2 u2 x2 : Value) (W : World) (h1 : MRow W M q1 a1 u1 x1) (h2 : MRow W M q2 a2 u2 x2) => eqMessageG_any M q1 a1 u1 x1 q2 a2 u2 x2 W h1 h2
    have hsM := fun (W : World) (B : Nat) (q' a' u' x' : Value) (ho : MOwn W B M q' a' u' x') => (⟨own_sl ho.rq, own_sl ho.ra, own_sl ho.ru, own_sl ho.rx⟩ : (∃ b c, q' = .slice b M.qs.length c) ∧ (∃ b c, a' = .slice b M.an.length c) ∧ (∃ b c, u' = .slice b M.au.length c) ∧ (∃ b c, x' = .slice b M.ex.length c))
    obtain ⟨⟨j0, c1, j2, c3, c4, c5, c6, c7, c8, c9, j10⟩, qs2, an2, au2, ex2⟩ := M
    simp only [mgV] at hsp him heM hsM f1 f2 f3 f4
    have hmM := fun (q' a' u' x' : Value) (B : Nat) (W : World) (ho : MOwn W B ⟨⟨j0, c1, j2, c3, c4, c5, c6, c7, c8, c9, j10⟩, qs2, an2, au2, ex2⟩ q' a' u' x') (hp : Apa a' u' x') (hB : B ≤ W.heap.size) => markMsgT_any j0 j2 j10 c1 c3 c4 c5 c6 c7 c8 c9 qs2.length an2.length au2.length ex2.length _ _ _ _ q' a' u' x' B W ho.rq ho.ra ho.ru ho.rx hp hB (by omega) (by omega) (by omega) (by omega)
    have hhM := fun (q' a' u' x' : Value) (B : Nat) (W : World) (ho : MarkT W B qs2.length an2.length au2.length ex2.length q' a' u' x') => heldMsgT_any j0 j2 j10 c1 c3 c4 c5 c6 c7 c8 c9 qs2.length an2.length au2.length ex2.length B q' a' u' x' W ho (by omega) (by omega) (by omega) (by omega)
    obtain ⟨K, hK⟩ : ∃ K, K = markT qs2.length an2.length au2.length ex2.length := ⟨_, rfl⟩
    rw [← hK] at hmM hhM
    clear hK
    have hK0 : (0 : Int) ≤ (K : Int) := by omega
    have hKn : ((K : Int) != (K : Int)) = false := by simp
    have hCn : (C != C) = false := by simp
    obtain ⟨⟨i0, b1, i2, b3, b4, b5, b6, b7, b8, b9, i10⟩, qs, an, au, ex⟩ := m
    simp only [mgV] at *
    go_enter Tryz.func3, Tryz.ntmps3
    go_wp2_with (first | (refine wpList_load_blk (.tmp 2) 27 rfl rfl w.heap.size _ _ kb rfl Tryz.underlying27 rfl (by kernel_rfl) ?_))
    refine hsz.mono ?_
    rintro e w1 ⟨rfl, hb1⟩
    have z1 := blk_below kb hb1
    have d1 := Nm.below_two hB0 hb1
    clear hsz kb hb1
    go_wp2_with (first | (refine wpList_load_blk (.tmp 2) 27 rfl rfl w.heap.size _ _ z1 rfl Tryz.underlying27 rfl (by kernel_rfl) ?_))
    refine (hto _ d1).mono ?_
    rintro e w2 ⟨q2, a2, u2, x2, rfl, ho2, hb2⟩
    have z2 := blk_below z1 hb2
    have d2 := Nm.below_two d1 hb2
    clear z1
    go_wp2_with fail
    refine (hsp _ _ _ _ _ ho2.read).mono ?_
    rintro e w3 ⟨q3, a3, u3, x3, rfl, ho3, hb3⟩
    have z3 := blk_below z2 hb3
    have d3 := Nm.below_two d2 hb3
    obtain ⟨⟨qs1, qt1, rfl⟩, ⟨as1, at1, rfl⟩, ⟨us1, ut1, rfl⟩, ⟨xs1, xt1, rfl⟩⟩ := hsM _ _ _ _ _ _ ho3
    clear z2 ho2 d1 d2 hb2 hb3
    have kwS := blk_new w3 #[.int .i64 j0, .bool c1, .int .i64 j2, .bool c3, .bool c4, .bool c5, .bool c6, .bool c7, .bool c8, .bool c9, .int .i64 j10, .slice qs1 qs2.length qt1, .slice as1 an2.length at1, .slice us1 au2.length ut1, .slice xs1 ex2.length xt1] 33
    have ewS := (Below.refl w3.heap.size w3).alloc (Nat.le_refl _) (.cells #[.int .i64 j0, .bool c1, .int .i64 j2, .bool c3, .bool c4, .bool c5, .bool c6, .bool c7, .bool c8, .bool c9, .int .i64 j10, .slice qs1 qs2.length qt1, .slice as1 an2.length at1, .slice us1 au2.length ut1, .slice xs1 ex2.length xt1] 33)
    have zS := blk_below z3 ewS
    go_wp2_with (first | (refine wpList_load_blk (.tmp 2) 27 rfl rfl w.heap.size _ _ zS rfl Tryz.underlying27 rfl (by kernel_rfl) ?_))
    have rS := ho3.read.below ewS
    have dS := Nm.below_two d3 ewS
    clear z3 d3 ewS ho3
    generalize w3.alloc (.cells #[.int .i64 j0, .bool c1, .int .i64 j2, .bool c3, .bool c4, .bool c5, .bool c6, .bool c7, .bool c8, .bool c9, .int .i64 j10, .slice qs1 qs2.length qt1, .slice as1 an2.length at1, .slice us1 au2.length ut1, .slice xs1 ex2.length xt1] 33) = wS at *
    generalize w3.heap.size = gS at *
    as_aux_lemma =>
      refine (hto _ dS).mono ?_
      rintro e w4 ⟨q4, a4, u4, x4, rfl, ho4, hb4⟩
      obtain ⟨⟨s1, t1, rfl⟩, ⟨s2, t2, rfl⟩, ⟨s3, t3, rfl⟩, ⟨s4, t4, rfl⟩⟩ := hsl _ _ _ _ _ _ ho4
      have kwX := blk_new w4 #[.int .i64 i0, .bool b1, .int .i64 i2, .bool b3, .bool b4, .bool b5, .bool b6, .bool b7, .bool b8, .bool b9, .int .i64 i10, .slice s1 qs.length t1, .slice s2 an.length t2, .slice s3 au.length t3, .slice s4 ex.length t4] 33
      have ewX := (Below.refl w4.heap.size w4).alloc (Nat.le_refl _) (.cells #[.int .i64 i0, .bool b1, .int .i64 i2, .bool b3, .bool b4, .bool b5, .bool b6, .bool b7, .bool b8, .bool b9, .int .i64 i10, .slice s1 qs.length t1, .slice s2 an.length t2, .slice s3 au.length t3, .slice s4 ex.length t4] 33)
      go_wp2_with (first | (refine wpList_load_blk (.tmp 8) 33 rfl rfl w4.heap.size _ _ kwX rfl Tryz.underlying33 rfl (by kernel_rfl) ?_))
      have oX := ho4.below ewX
      have eX := Nm.below_two hb4 ewX
      have hSX : wS.heap.size ≤ w4.heap.size := hb4.size
      have HXW : Hid (wS.heap.size ≤ (w4.alloc (.cells #[.int .i64 i0, .bool b1, .int .i64 i2, .bool b3, .bool b4, .bool b5, .bool b6, .bool b7, .bool b8, .bool b9, .int .i64 i10, .slice s1 qs.length t1, .slice s2 an.length t2, .slice s3 au.length t3, .slice s4 ex.length t4] 33)).heap.size) := by show _ ≤ _; simp; omega
      clear ho4 hb4 ewX
      generalize w4.alloc (.cells #[.int .i64 i0, .bool b1, .int .i64 i2, .bool b3, .bool b4, .bool b5, .bool b6, .bool b7, .bool b8, .bool b9, .int .i64 i10, .slice s1 qs.length t1, .slice s2 an.length t2, .slice s3 au.length t3, .slice s4 ex.length t4] 33) = wX at *
      generalize w4.heap.size = gX at *
      as_aux_lemma =>
        have nq : ∀ g, (Value.slice s1 qs.length t1).ownBlock = some g → g < wX.heap.size := fun g hg => (oX.rq.lt g hg).2
        have na : ∀ g, (Value.slice s2 an.length t2).ownBlock = some g → g < wX.heap.size := fun g hg => (oX.ra.lt g hg).2
        have nu : ∀ g, (Value.slice s3 au.length t3).ownBlock = some g → g < wX.heap.size := fun g hg => (oX.ru.lt g hg).2
        have nx : ∀ g, (Value.slice s4 ex.length t4).ownBlock = some g → g < wX.heap.size := fun g hg => (oX.rx.lt g hg).2
        refine (him _ _ _ _ _ oX.read).mono ?_
        rintro e w5 ⟨q5, a5, u5, x5, rfl, ho5, hp5, hb5⟩
        obtain ⟨⟨p1, r1, rfl⟩, ⟨p2, r2, rfl⟩, ⟨p3, r3, rfl⟩, ⟨p4, r4, rfl⟩⟩ := hsM _ _ _ _ _ _ ho5
        have eX5 := eX.trans (hb5.mono eX.size)
        have kwG := blk_new w5 #[.int .i64 j0, .bool c1, .int .i64 j2, .bool c3, .bool c4, .bool c5, .bool c6, .bool c7, .bool c8, .bool c9, .int .i64 j10, .slice p1 qs2.length r1, .slice p2 an2.length r2, .slice p3 au2.length r3, .slice p4 ex2.length r4] 33
        have ewG := (Below.refl w5.heap.size w5).alloc (Nat.le_refl _) (.cells #[.int .i64 j0, .bool c1, .int .i64 j2, .bool c3, .bool c4, .bool c5, .bool c6, .bool c7, .bool c8, .bool c9, .int .i64 j10, .slice p1 qs2.length r1, .slice p2 an2.length r2, .slice p3 au2.length r3, .slice p4 ex2.length r4] 33)
        have kwSG := blk_below kwS (Nm.below_two eX5 ewG)
        go_wp2_with (first | (refine wpList_load_blk (.tmp 9) 33 rfl rfl w5.heap.size _ _ kwG rfl Tryz.underlying33 rfl (by kernel_rfl) ?_) | (refine wpList_load_blk (.tmp 6) 33 rfl rfl gS _ _ kwSG rfl Tryz.underlying33 rfl (by kernel_rfl) ?_))
        have oG := ho5.below ewG
        have xG := Nm.below_two hb5 ewG
        have hXG : wX.heap.size ≤ w5.heap.size := hb5.size
        have eG := Nm.below_two eX5 ewG
        have kXG := blk_below kwX xG
        have oXG := oX.below xG
        clear ho5 hb5 ewG kwX oX xG eX5 eX kwSG
        generalize w5.alloc (.cells #[.int .i64 j0, .bool c1, .int .i64 j2, .bool c3, .bool c4, .bool c5, .bool c6, .bool c7, .bool c8, .bool c9, .int .i64 j10, .slice p1 qs2.length r1, .slice p2 an2.length r2, .slice p3 au2.length r3, .slice p4 ex2.length r4] 33) = wG at *
        generalize w5.heap.size = gG at *
        as_aux_lemma =>
          refine (heM _ _ _ _ _ _ _ _ _ oG.read (rS.below eG)).mono ?_
          rintro e w6 ⟨rfl, hb6⟩
          have e6 := Nm.below_two eG hb6
          have z6 := blk_below zS e6
          have x6 := blk_below kXG hb6
          have kG6 := blk_below kwG hb6
          have oG6 := oG.below hb6
          have oX6 := oXG.below hb6
          have d6 := Nm.below_two dS e6
          have hs6 : wG.heap.size ≤ w6.heap.size := hb6.size
          clear kwG oG oXG kXG eG hb6
          as_aux_lemma =>
            go_wp2
            refine wp_region_held_drew (S := fun W => Blk W w.heap.size #[.int .i64 i0, .bool b1, .int .i64 i2, .bool b3, .bool b4, .bool b5, .bool b6, .bool b7, .bool b8, .bool b9, .int .i64 i10, .slice qa qs.length qc, .slice aa an.length ac, .slice ua au.length uc, .slice xa ex.length xc] 27 ∧ Blk W gX #[.int .i64 i0, .bool b1, .int .i64 i2, .bool b3, .bool b4, .bool b5, .bool b6, .bool b7, .bool b8, .bool b9, .int .i64 i10, .slice s1 qs.length t1, .slice s2 an.length t2, .slice s3 au.length t3, .slice s4 ex.length t4] 33) (by kernel_rfl) ⟨blk_below z6 (Below.refl _ _).drew, blk_below x6 (Below.refl _ _).drew⟩ (fun hHeld => ?_)
            refine wpAnyH_take (i := 0) (v := .agg #[.int .i64 i0, .bool b1, .int .i64 i2, .bool b3, .bool b4, .bool b5, .bool b6, .bool b7, .bool b8, .bool b9, .int .i64 i10, .slice s1 qs.length t1, .slice s2 an.length t2, .slice s3 au.length t3, .slice s4 ex.length t4]) rfl (by kernel_rfl) (by kernel_rfl) (by kernel_rfl) (fun _ _ _ h => h) (Or.inl ⟨by rfl, ?_⟩) (by assumption) ?_
            · rintro W ⟨k1, k2⟩
              have rr := fun i => blk_cell k2 i
              go_simp
            refine wpAnyH_take (i := 1) (v := .agg #[.int .i64 i0, .bool b1, .int .i64 i2, .bool b3, .bool b4, .bool b5, .bool b6, .bool b7, .bool b8, .bool b9, .int .i64 i10, .slice qa qs.length qc, .slice aa an.length ac, .slice ua au.length uc, .slice xa ex.length xc]) rfl (by kernel_rfl) (by kernel_rfl) (by kernel_rfl) (fun _ _ _ h => h) (Or.inl ⟨by rfl, ?_⟩) (by assumption) ?_
            · rintro W ⟨k1, k2⟩
              have rr := fun i => blk_cell k1 i
              go_simp
            refine wpAnyH_ready (rs := [2]) (by kernel_rfl) (by simp) ?_
            refine AllReadyH.cons rfl (fun K hK => ?_) AllReadyH.nil
            go_simp
            refine (hto _ (Nm.below_two d6 (Below.refl _ _).drew)).mono ?_
            rintro e w7 ⟨q7, a7, u7, x7, rfl, ho7, hb7⟩
            go_wp2_with fail
            have hb67 : Below w6.heap.size w6 w7 := Nm.below_two (Below.refl _ _).drew hb7
            refine hK.out _ _ ⟨blk_below z6 hb67, blk_below x6 hb67⟩ (fun _ => ?_)
            clear hK K
            refine wpAnyH_ready (rs := [3]) (by kernel_rfl) (by simp) ?_
            refine AllReadyH.cons rfl (fun K hK => ?_) AllReadyH.nil
            go_simp
            refine (heq _ _ _ _ _ _ _ _ _ (oX6.below hb67).read ho7.read).mono ?_
            rintro e w8 ⟨rfl, hb8⟩
            go_wp2_with fail
            have hb68 := Nm.below_two hb67 hb8
            have z8 := blk_below z6 hb68
            have x8 := blk_below x6 hb68
            refine hK.out _ _ ⟨z8, x8⟩ (fun _ => ?_)
            clear hK K
            refine wpAnyH_take (i := 4) (v := .bool false) rfl (by kernel_rfl) (by kernel_rfl) (by kernel_rfl) (fun _ _ _ h => h) (Or.inl ⟨by rfl, ?_⟩) (by assumption) ?_
            · rintro W ⟨k1, k2⟩
              go_simp
            refine wpAnyH_done (by kernel_rfl) ?_ _
            have d8 := Nm.below_two d6 hb68
            have e8 := Nm.below_two e6 hb68
            have oX8 := oX6.below hb68
            have oG8 := oG6.below hb68
            have kG8 := blk_below kG6 hb68
            have hs8 : w6.heap.size ≤ w8.heap.size := hb68.size
            clear hHeld z6 x6 d6 e6 oX6 oG6 kG6 ho7 hb7 hb67 hb8 hb68 heq
            as_aux_lemma =>
              go_wp2_with (first | (refine wpList_load_blk (.tmp 8) 33 rfl rfl gX _ _ x8 rfl Tryz.underlying33 rfl (by kernel_rfl) ?_))
              have hWS : wS.heap.size ≤ wX.heap.size := HXW.out
              refine (hmk _ _ _ _ wS.heap.size wX.heap.size _ oX8 e8.size nq na nu nx).mono ?_
              rintro e w9 ⟨k9, rfl, m9, keep9⟩
              have hk9 : (0 : Int) ≤ (k9 : Int) := by omega
              have e9 : Below wS.heap.size wS w9 := e8.trans m9.be
              have oG9 := mown_same oG8 keep9
              have kG9 := m9.blk kG8 (by decide) (by decide)
              have hs9 : w8.heap.size ≤ w9.heap.size := m9.be.size
              clear x8 oX8 e8 oG8 kG8 m9 keep9 hmk d8 z8
              as_aux_lemma =>
                have kS9 := blk_below kwS e9
                have rr := fun i => blk_cell kG9 i
                have rr2 := fun i => blk_cell kS9 i
                go_wp2_with fail
                refine (heM _ _ _ _ _ _ _ _ _ oG9.read (rS.below e9)).mono ?_
                rintro e w10 ⟨rfl, hb10⟩
                have e10 := Nm.below_two e9 hb10
                have oG10 := oG9.below hb10
                have kG10 := blk_below kG9 hb10
                have hs10 : w9.heap.size ≤ w10.heap.size := hb10.size
                clear rr rr2 kS9 e9 oG9 kG9 hb10
                as_aux_lemma =>
                  go_wp2_with (first | (refine wpList_load_blk (.tmp 9) 33 rfl rfl gG _ _ kG10 rfl Tryz.underlying33 rfl (by kernel_rfl) ?_))
                  refine (hmM _ _ _ _ wX.heap.size _ oG10 hp5 (by have := blk_lt kG10; omega)).mono ?_
                  rintro e w11 ⟨rfl, mk11, be11, K11⟩
                  have kG11 := K11 _ _ _ (by decide) (by decide) kG10
                  have e11 : Below wS.heap.size wS w11 := e10.trans (be11.mono hWS)
                  clear K11 be11 kG10 e10 oG10 hmM
                  as_aux_lemma =>
                    go_wp2_with (first | (refine wpList_load_blk (.tmp 9) 33 rfl rfl gG _ _ kG11 rfl Tryz.underlying33 rfl (by kernel_rfl) ?_))
                    refine (hhM _ _ _ _ _ _ mk11).mono ?_
                    rintro e w12 ⟨rfl, hb12⟩
                    have e12 := Nm.below_two e11 hb12
                    have kG12 := blk_below kG11 hb12
                    have mk12 := mk11.below hb12
                    have z12 := blk_below zS e12
                    have d12 := Nm.below_two dS e12
                    clear kG11 e11 mk11 hb12
                    as_aux_lemma =>
                      go_wp2_with (first | (refine wpList_load_blk (.tmp 2) 27 rfl rfl w.heap.size _ _ z12 rfl Tryz.underlying27 rfl (by kernel_rfl) ?_))
                      refine (hto _ d12).mono ?_
                      rintro e w13 ⟨q13, a13, u13, x13, rfl, ho13, hb13⟩
                      go_wp2_with fail
                      refine (him _ _ _ _ _ ho13.read).mono ?_
                      rintro e w14 ⟨q14, a14, u14, x14, rfl, ho14, _, hb14⟩
                      obtain ⟨⟨y1, v1, rfl⟩, ⟨y2, v2, rfl⟩, ⟨y3, v3, rfl⟩, ⟨y4, v4, rfl⟩⟩ := hsM _ _ _ _ _ _ ho14
                      have kH := blk_new w14 #[.int .i64 j0, .bool c1, .int .i64 j2, .bool c3, .bool c4, .bool c5, .bool c6, .bool c7, .bool c8, .bool c9, .int .i64 j10, .slice y1 qs2.length v1, .slice y2 an2.length v2, .slice y3 au2.length v3, .slice y4 ex2.length v4] 33
                      have bH := (Below.refl w14.heap.size w14).alloc (Nat.le_refl _) (.cells #[.int .i64 j0, .bool c1, .int .i64 j2, .bool c3, .bool c4, .bool c5, .bool c6, .bool c7, .bool c8, .bool c9, .int .i64 j10, .slice y1 qs2.length v1, .slice y2 an2.length v2, .slice y3 au2.length v3, .slice y4 ex2.length v4] 33)
                      have b1H := Nm.below_two (Nm.below_two hb13 hb14) bH
                      have eH := Nm.below_two e12 b1H
                      have kGH := blk_below kG12 b1H
                      have mkH := mk12.below b1H
                      have kSH := blk_below kwS eH
                      have oH := ho14.below bH
                      have dH := Nm.below_two dS eH
                      clear z12 d12 ho13 ho14 hb13 hb14 bH b1H e12 kG12 mk12
                      go_wp2_with (first | (refine wpList_load_blk (.tmp 14) 33 rfl rfl w14.heap.size _ _ kH rfl Tryz.underlying33 rfl (by kernel_rfl) ?_) | (refine wpList_load_blk (.tmp 6) 33 rfl rfl gS _ _ kSH rfl Tryz.underlying33 rfl (by kernel_rfl) ?_))
                      generalize w14.alloc (.cells #[.int .i64 j0, .bool c1, .int .i64 j2, .bool c3, .bool c4, .bool c5, .bool c6, .bool c7, .bool c8, .bool c9, .int .i64 j10, .slice y1 qs2.length v1, .slice y2 an2.length v2, .slice y3 au2.length v3, .slice y4 ex2.length v4] 33) = wH at *
                      as_aux_lemma =>
                        refine (heM _ _ _ _ _ _ _ _ _ oH.read (rS.below eH)).mono ?_
                        rintro e w15 ⟨rfl, hb15⟩
                        have kG15 := blk_below kGH hb15
                        have mk15 := mkH.below hb15
                        have d15 := Nm.below_two dH hb15
                        clear kGH mkH kH kSH oH eH dH hb15
                        go_wp2_with (first | (refine wpList_load_blk (.tmp 9) 33 rfl rfl gG _ _ kG15 rfl Tryz.underlying33 rfl (by kernel_rfl) ?_))
                        refine (hhM _ _ _ _ _ _ mk15).mono ?_
                        rintro e w16 ⟨rfl, hb16⟩
                        have d16 := Nm.below_two d15 hb16
                        go_wp2
                        go_ret
                        exact ⟨rfl, d16⟩
  · have e1 : szM m 1048576 = -1 := if_neg hb
    rw [e1] at hsz
    obtain ⟨_, qa, qc, rfl, _⟩ := h.rq
    obtain ⟨_, aa, ac, rfl, _⟩ := h.ra
    obtain ⟨_, ua, uc, rfl, _⟩ := h.ru
    obtain ⟨_, xa, xc, rfl, _⟩ := h.rx
    clear hb e1 hx h
    obtain ⟨⟨i0, b1, i2, b3, b4, b5, b6, b7, b8, b9, i10⟩, qs, an, au, ex⟩ := m
    simp only [mgV] at *
    go_enter Tryz.func3, Tryz.ntmps3
    go_wp2_with fail
    refine hsz.mono ?_
    rintro e w1 ⟨rfl, d1⟩
    go_wp2
    go_ret
    exact ⟨rfl, Nm.below_two hB0 d1⟩
end Go.Proofs.YtmaopfagkffccaaGreat
