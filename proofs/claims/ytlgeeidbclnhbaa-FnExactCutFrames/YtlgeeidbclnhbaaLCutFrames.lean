/- The law of CutFrames: its walk. -/
import Derived.Test.YtlgeeidbclnhbaaCfI
import Derived.Test.YtlgeeidbclnhbaaByO
import Derived.Test.YtlgeeidbclnhbaaByT
namespace Go.Proofs.Ytlgeeidbclnhbaa
open Go.RowKit
set_option linter.unusedVariables false

theorem BsOwn.other {w w' : World} {B N : Nat} {v : Value} {us : List Value} {ls : List (List Value)} {B' n : Nat} {u : Value} {xs : List Value} (h : BsOwn w B N v us ls) (hu : w.ownsRow B' 5 1 u n xs) (hg : w.grownBy w' u.ownBlock) (ha : ∀ (i : Nat) (x : Value), us[i]? = some x → ∀ g, u.ownBlock = some g → x.ownBlock ≠ some g) : BsOwn w' B N v us ls :=
  ⟨own_besideC h.outer hg (own_kindsC h.outer hu (by decide)), h.otop, h.len, fun i x l h1 h2 => own_besideC (h.inner i x l h1 h2) hg (ha i x h1), h.itop, h.apart⟩

theorem own_same {w w' : World} {B e s n : Nat} {v : Value} {xs : List Value} (h : w.ownsRow B e s v n xs) (hs : ∀ g, v.ownBlock = some g → w'.heap[g]? = w.heap[g]?) : w'.ownsRow B e s v n xs := by
  refine ⟨h.1, ?_⟩
  rcases h.2 with h0 | ⟨g, cap, cur, rfl, hb, hh, r⟩
  · exact .inl h0
  · exact .inr ⟨g, cap, cur, rfl, hb, (hs g rfl).trans hh, r⟩

set_option maxRecDepth 100000 in
set_option maxHeartbeats 3200000 in
theorem fnExactCutFrames_walk (a0 : Option Addr) (len0 cap0 : Nat) (z0 : List Int) (a1 : Option Addr) (len1 cap1 : Nat) (z1 : List Int) (w : World) (w0 : RowB w a0 len0 cap0 z0) (w1 : RowB w a1 len1 cap1 z1) :
    Calls Try.prog 3 #[.slice a0 len0 cap0, .slice a1 len1 cap1] w fun e w' => e = .returned (.bool true) ∧ Below w.heap.size w w' := by
  obtain ⟨l, hlen, hrow⟩ := rowB w0
  obtain ⟨m, hlenm, hrowm⟩ := rowB w1
  clear w0 w1
  by_cases hl : 1048576 < len0
  · have hl' : (1048576 : Int) < (len0 : Int) := by omega
    go_enter Try.func3, Try.ntmps3
    go_wp2
    go_ret
    exact ⟨rfl, Below.refl _ _⟩
  · have hl' : (len0 : Int) ≤ 1048576 := by omega
    by_cases hm : 1048576 < len1
    · have hm' : (1048576 : Int) < (len1 : Int) := by omega
      go_enter Try.func3, Try.ntmps3
      go_wp2
      go_ret
      exact ⟨rfl, Below.refl _ _⟩
    · have hm' : (len1 : Int) ≤ 1048576 := by omega
      subst hlen
      subst hlenm
      have ht0 := fun (W : World) (hb : Below w.heap.size w W) => toByteS_own _ l W (hrow.below hb) (by omega)
      have ht1 := fun (W : World) (hb : Below w.heap.size w W) => toByteS_own _ m W (hrowm.below hb) (by omega)
      have he0 := fun V U W (h : BySl W V l) (h' : BySl W U l) => eqBy_any V U l W h h'
      have he1 := fun V U W (h : BySl W V m) (h' : BySl W U m) => eqBy_any V U m W h h'
      have hm0 := fun V W (B k : Nat) (h : W.ownsRow B 5 1 V l.length (Nm.bys l)) (hk : k ≤ 4000000) => markByK_any V l.length B k _ W h (by omega) hk
      have hm1 := fun V W (B k : Nat) (h : W.ownsRow B 5 1 V m.length (Nm.bys m)) (hk : k ≤ 4000000) => markByK_any V m.length B k _ W h (by omega) hk
      have hsp := fun V U W (h : BySl W V l) (h' : BySl W U m) => specCutFrames_any V U l m W h h' (by omega) (by omega)
      have him := fun V U W (h : BySl W V l) (h' : BySl W U m) => implCutFrames_any V U l m W h h' (by omega) (by omega)
      obtain ⟨hsm1, hsm2⟩ := cfR_small l m
      have hfl := len_tot hsm1
      generalize cfR l m = R at *
      obtain ⟨fs, T, b⟩ := R
      simp only at *
      unfold CfSpec at hsp
      unfold CfImpl at him
      simp only at hsp him
      have heb := fun V U (us us' : List Value) W (h : BsR W V us fs) (h' : BsR W U us' fs) => eqBs_any V U us us' fs W h h' (by omega)
      have heT := fun V U W (h : BySl W V T) (h' : BySl W U T) => eqBy_any V U T W h h'
      have hmb := fun V (us : List Value) (B N : Nat) W (h : BsOwn W B N V us (fs.map Nm.bys)) (hB : B ≤ W.heap.size) => markBs_any V us fs B N 1 W h (by omega) (by omega) (by omega) hB
      have hmT := fun V W (B : Nat) (h : W.ownsRow B 5 1 V T.length (Nm.bys T)) => markByK_any V T.length B (1 + tot fs) _ W h (by omega) (by omega)
      have hhb := fun V (us : List Value) (B N : Nat) W (h : BsOwn W B N V us (bmS 1 fs)) => heldBs_any V us fs B N 1 W h (by omega) (by omega) (by omega)
      have hhT := fun V W (h : CRow W V T.length 1 (bmK (1 + tot fs) T.length)) => heldByK_any V T.length (1 + tot fs) W h (by omega) (by omega)
      have hbb : (b != b) = false := by simp
      obtain ⟨K1, hK1⟩ : ∃ K, K = 1 + tot fs := ⟨_, rfl⟩
      obtain ⟨K2, hK2⟩ : ∃ K, K = K1 + T.length := ⟨_, rfl⟩
      obtain ⟨J1, hJ1⟩ : ∃ J, J = 1 + l.length := ⟨_, rfl⟩
      obtain ⟨J2, hJ2⟩ : ∃ J, J = J1 + m.length := ⟨_, rfl⟩
      have hj1 : J1 ≤ 4000000 := by omega
      have k0 : (0 : Int) ≤ (J2 : Int) := by omega
      have k1 : (0 : Int) ≤ (K1 : Int) := by omega
      have k2 : (0 : Int) ≤ (K2 : Int) := by omega
      have kn : ((K2 : Int) != (K2 : Int)) = false := by simp
      rw [← hK1] at hmb hmT hhb hhT
      rw [← hK2] at hmT hhT
      have hm0 := fun V W (B : Nat) (h : W.ownsRow B 5 1 V l.length (Nm.bys l)) => hm0 V W B 1 h (by omega)
      have hm1 := fun V W (B : Nat) (h : W.ownsRow B 5 1 V m.length (Nm.bys m)) => hm1 V W B J1 h hj1
      rw [← hJ1] at hm0
      rw [← hJ2] at hm1
      clear hK1 hK2 hJ1 hJ2 hsm1 hsm2 hfl
      go_enter Try.func3, Try.ntmps3
      go_wp2_with fail
      refine (ht0 _ (Below.refl _ _)).mono ?_
      rintro e w1 ⟨v1, rfl, o1, b1⟩
      obtain ⟨p1, q1, rfl⟩ := own_sl o1
      go_wp2_with fail
      refine (ht1 _ b1).mono ?_
      rintro e w2 ⟨v2, rfl, o2, b2⟩
      obtain ⟨p2, q2, rfl⟩ := own_sl o2
      have c2 := Nm.below_two b1 b2
      go_wp2_with fail
      refine (hsp _ _ _ (CRow.of_owns (own_below o1 b2)) (CRow.of_owns o2)).mono ?_
      rintro e w3 ⟨vS, usS, uS, rfl, rS, rT, b3⟩
      have c3 := Nm.below_two c2 b3
      have HS03 := Nm.hide c3.size
      clear o1 o2 b1 b2 b3 c2 hsp
      obtain ⟨p3, n3, q3, rfl⟩ : ∃ a n c, vS = .slice a n c := by obtain ⟨_, a, c, e, _⟩ := rS.outer; exact ⟨a, _, c, e⟩
      obtain ⟨p4, q4, rfl⟩ : ∃ a c, uS = .slice a T.length c := by obtain ⟨_, a, c, e, _⟩ := rT; exact ⟨a, c, e⟩
      go_wp2_with fail
      refine (ht0 _ c3).mono ?_
      rintro e w4 ⟨x0, rfl, o4, b4⟩
      obtain ⟨p5, q5, rfl⟩ := own_sl o4
      have c4 := Nm.below_two c3 b4
      go_wp2_with fail
      refine (ht1 _ c4).mono ?_
      rintro e w5 ⟨x1, rfl, o5, b5⟩
      obtain ⟨p6, q6, rfl⟩ := own_sl o5
      have c5 := Nm.below_two c4 b5
      have o45 := own_below o4 b5
      have d5 := Nm.below_two b4 b5
      have x0l : ∀ g, (Value.slice p5 l.length q5).ownBlock = some g → w3.heap.size ≤ g ∧ g < w5.heap.size := fun g hg => ⟨(o4.lt g hg).1, (o45.lt g hg).2⟩
      have x1l : ∀ g, (Value.slice p6 m.length q6).ownBlock = some g → w4.heap.size ≤ g ∧ g < w5.heap.size := fun g hg => o5.lt g hg
      have x01 : ∀ g, (Value.slice p5 l.length q5).ownBlock = some g → (Value.slice p6 m.length q6).ownBlock ≠ some g := fun g hg hg' => by have := (o4.lt g hg).2; have := (o5.lt g hg').1; omega
      have s34 := b4.size
      clear o4 b4 b5 c3 c4
      go_wp2_with fail
      refine (him _ _ _ (CRow.of_owns o45) (CRow.of_owns o5)).mono ?_
      rintro e w6 ⟨vI, us, uI, rfl, oI, oT, aI, b6⟩
      have c6 := Nm.below_two c5 b6
      have d6 := Nm.below_two d5 b6
      have o46 := own_below o45 b6
      have o56 := own_below o5 b6
      have s35 := d5.size
      have s56 := b6.size
      clear o45 o5 c5 d5 b6
      obtain ⟨p7, q7, hv7⟩ := own_sl oI.outer
      subst hv7
      obtain ⟨p8, q8, rfl⟩ := own_sl oT
      generalize us.length = n7 at *
      as_aux_lemma =>
        go_wp2_with fail
        refine (heb _ _ _ _ _ oI.read (rS.below d6)).mono ?_
        rintro e w7 ⟨rfl, b7⟩
        have d7 := Nm.below_two d6 b7
        have oT7 := own_below oT b7
        go_wp2_with fail
        refine (heT _ _ _ (CRow.of_owns oT7) (rT.below d7)).mono ?_
        rintro e w8 ⟨rfl, b8⟩
        have b68 := Nm.below_two b7 b8
        have c8 := Nm.below_two c6 b68
        have d8 := Nm.below_two d6 b68
        have oI8 := oI.below b68
        have oT8 := own_below oT7 b8
        have o48 := own_below o46 b68
        have o58 := own_below o56 b68
        have s8 := b68.size
        have oTl : ∀ g, (Value.slice p8 T.length q8).ownBlock = some g → w5.heap.size ≤ g := fun g hg => (oT8.lt g hg).1
        have s03 : w.heap.size ≤ w3.heap.size := HS03.out
        clear b7 b8 b68 c6 d6 d7 oI oT oT7 o46 o56
        as_aux_lemma =>
          go_wp2_with fail
          refine (ht0 _ c8).mono ?_
          rintro e w9 ⟨y9, rfl, o9, b9⟩
          obtain ⟨p9, q9, rfl⟩ := own_sl o9
          go_wp2_with fail
          refine (he0 _ _ _ (CRow.of_owns (own_below o48 b9)) (CRow.of_owns o9)).mono ?_
          rintro e w10 ⟨rfl, b10⟩
          have b810 := Nm.below_two b9 b10
          have c10 := Nm.below_two c8 b810
          clear o9 b9 b10
          go_wp2_with fail
          refine (ht1 _ c10).mono ?_
          rintro e w11 ⟨y11, rfl, o11, b11⟩
          obtain ⟨p11, q11, rfl⟩ := own_sl o11
          have b811 := Nm.below_two b810 b11
          go_wp2_with fail
          refine (he1 _ _ _ (CRow.of_owns (own_below o58 b811)) (CRow.of_owns o11)).mono ?_
          rintro e w12 ⟨rfl, b12⟩
          have b812 := Nm.below_two b811 b12
          have c12 := Nm.below_two c8 b812
          have d12 := Nm.below_two d8 b812
          have oI12 := oI8.below b812
          have oT12 := own_below oT8 b812
          have o412 := own_below o48 b812
          have o512 := own_below o58 b812
          have s12 := b812.size
          clear o11 b11 b811 b12 b812 b810 c10 c8 d8 oI8 oT8 o48 o58
          as_aux_lemma =>
            go_wp2_with fail
            refine (hm0 _ _ _ o412).mono ?_
            rintro e w13 ⟨rfl, om13, g13⟩
            have oI13 := oI12.beside g13 (fun g hg => .inl (x0l g hg).2)
            have oT13 := own_besideC oT12 g13 (fun g hg hg' => by have h1 := x0l g hg; have h2 := oTl g hg'; omega)
            have o513 := own_besideC o512 g13 x01
            have c13 : Below w.heap.size w w13 := c12.grown g13 c12.size (fun g hg => by have h1 := (x0l g hg).1; omega)
            have d13 : Below w3.heap.size w3 w13 := d12.grown g13 d12.size (fun g hg => (x0l g hg).1)
            have s13 := g13.size
            clear om13 g13 oI12 oT12 o412 o512 c12 d12
            go_wp2_with fail
            refine (hm1 _ _ _ o513).mono ?_
            rintro e w14 ⟨rfl, om14, g14⟩
            have oI14 := oI13.beside g14 (fun g hg => .inl (x1l g hg).2)
            have oT14 := own_besideC oT13 g14 (fun g hg hg' => by have h1 := x1l g hg; have h2 := oTl g hg'; omega)
            have c14 : Below w.heap.size w w14 := c13.grown g14 c13.size (fun g hg => by have h1 := (x1l g hg).1; omega)
            have d14 : Below w3.heap.size w3 w14 := d13.grown g14 d13.size (fun g hg => by have h1 := (x1l g hg).1; omega)
            have s14 := g14.size
            clear om14 g14 oI13 oT13 o513 c13 d13
            as_aux_lemma =>
              go_wp2_with fail
              refine (heb _ _ _ _ _ oI14.read (rS.below d14)).mono ?_
              rintro e w15 ⟨rfl, b15⟩
              have d15 := Nm.below_two d14 b15
              go_wp2_with fail
              refine (heT _ _ _ (CRow.of_owns (own_below oT14 b15)) (rT.below d15)).mono ?_
              rintro e w16 ⟨rfl, b16⟩
              have b1416 := Nm.below_two b15 b16
              have c16 := Nm.below_two c14 b1416
              have d16 := Nm.below_two d14 b1416
              have oI16 := oI14.below b1416
              have oT16 := own_below oT14 b1416
              have s16 := b1416.size
              clear b15 b16 b1416 d15 c14 d14 oI14 oT14
              as_aux_lemma =>
                go_wp2_with fail
                refine (hmb _ _ _ _ _ oI16 (by omega)).mono ?_
                rintro e w17 ⟨rfl, oM17, bM, hst⟩
                have oT17 := own_same oT16 (fun g hg => hst g (oT16.lt g hg).2 (fun i x hx => aI i x hx g hg))
                have c17 : Below w.heap.size w w17 := c16.trans (bM.mono (by omega))
                have d17 : Below w3.heap.size w3 w17 := d16.trans (bM.mono (by omega))
                clear oI16 oT16 c16 d16 bM hst
                go_wp2_with fail
                refine (hmT _ _ _ oT17).mono ?_
                rintro e w18 ⟨rfl, oT18, g18⟩
                have oM18 := oM17.other oT17 g18 aI
                have c18 : Below w.heap.size w w18 := c17.grown g18 c17.size (fun g hg => by have h1 := oTl g hg; omega)
                have d18 : Below w3.heap.size w3 w18 := d17.grown g18 d17.size (fun g hg => by have h1 := oTl g hg; omega)
                clear oM17 oT17 g18 c17 d17
                as_aux_lemma =>
                  go_wp2_with fail
                  refine (hhb _ _ _ _ _ oM18).mono ?_
                  rintro e w19 ⟨rfl, b19⟩
                  go_wp2_with fail
                  refine (hhT _ _ (CRow.of_owns (own_below oT18 b19))).mono ?_
                  rintro e w20 ⟨rfl, b20⟩
                  have b1820 := Nm.below_two b19 b20
                  have c20 := Nm.below_two c18 b1820
                  have d20 := Nm.below_two d18 b1820
                  have oM20 := oM18.below b1820
                  have oT20 := own_below oT18 b1820
                  clear b19 b20 b1820 c18 d18 oM18 oT18
                  as_aux_lemma =>
                    go_wp2_with fail
                    refine (ht0 _ c20).mono ?_
                    rintro e w21 ⟨v21, rfl, o21, b21⟩
                    obtain ⟨p21, q21, rfl⟩ := own_sl o21
                    go_wp2_with fail
                    refine (ht1 _ (Nm.below_two c20 b21)).mono ?_
                    rintro e w22 ⟨v22, rfl, o22, b22⟩
                    obtain ⟨p22, q22, rfl⟩ := own_sl o22
                    go_wp2_with fail
                    refine (him _ _ _ (CRow.of_owns (own_below o21 b22)) (CRow.of_owns o22)).mono ?_
                    rintro e w23 ⟨v23, us23, u23, rfl, oI23, oT23, _, b23⟩
                    obtain ⟨p23, q23, hv23⟩ := own_sl oI23.outer
                    subst hv23
                    obtain ⟨p24, q24, rfl⟩ := own_sl oT23
                    generalize us23.length = n23 at *
                    have b2023 := Nm.below_two (Nm.below_two b21 b22) b23
                    have d23 := Nm.below_two d20 b2023
                    go_wp2_with fail
                    refine (heb _ _ _ _ _ oI23.read (rS.below d23)).mono ?_
                    rintro e w24 ⟨rfl, b24⟩
                    go_wp2_with fail
                    refine (heT _ _ _ (CRow.of_owns (own_below oT23 b24)) (rT.below (Nm.below_two d23 b24))).mono ?_
                    rintro e w25 ⟨rfl, b25⟩
                    have b2025 := Nm.below_two (Nm.below_two b2023 b24) b25
                    go_wp2_with fail
                    refine (hhb _ _ _ _ _ (oM20.below b2025)).mono ?_
                    rintro e w26 ⟨rfl, b26⟩
                    go_wp2_with fail
                    refine (hhT _ _ (CRow.of_owns (own_below (own_below oT20 b2025) b26))).mono ?_
                    rintro e w27 ⟨rfl, b27⟩
                    have c27 := Nm.below_two (Nm.below_two (Nm.below_two c20 b2025) b26) b27
                    go_wp2
                    go_ret
                    exact ⟨rfl, c27⟩
end Go.Proofs.Ytlgeeidbclnhbaa
