import Derived.Test.YtcamccoaoiobdaaGreatJBzE
import Derived.Test.YtcamccoaoiobdaaGreatJZkH
import Derived.Test.YtcamccoaoiobdaaGreatJEqV
/- The law of BuildZone: its walk. -/
namespace Go.Proofs.YtcamccoaoiobdaaGreat
open Go.RowKit
set_option linter.unusedVariables false

def bzO (list : List Rr) (apex : ByteArray) : ByteArray := if (bldE list apex).1 = 0 then apex else ByteArray.empty
def bzZ (list : List Rr) (apex : ByteArray) : List Sz := if (bldE list apex).1 = 0 then bldZ list else []
def bzI (list : List Rr) (apex : ByteArray) : Int := if (bldE list apex).1 = 0 then 0 else (bldE list apex).2
theorem bz_uni {list : List Rr} {apex : ByteArray} {w w' : World} {e : Ending} (h : BzPost list apex w e w') : ∃ a c ps, e = .returned (.tuple #[.agg #[.string (bzO list apex), .slice a ps.length c], .int .i64 (bldE list apex).1, .int .i64 (bzI list apex)]) ∧ ps.map (·.1) = bzZ list apex ∧ ZOwn w' w.heap.size (.slice a ps.length c) ps ∧ Below w.heap.size w w' := by
  obtain ⟨hb, h0, h1⟩ := h
  by_cases hc : (bldE list apex).1 = 0
  · obtain ⟨v, ps, rfl, hp, hz⟩ := h0 hc
    obtain ⟨a, c, rfl⟩ := own_sl hz.outer
    exact ⟨a, c, ps, by rw [bzO, bzI, if_pos hc, if_pos hc, hc], by rw [bzZ, if_pos hc]; exact hp, hz, hb⟩
  · exact ⟨none, 0, [], by rw [h1 hc, bzO, bzI, if_neg hc, if_neg hc]; rfl, by rw [bzZ, if_neg hc]; rfl, ZOwn.nil _ _, hb⟩
theorem zl_bound : ∀ (ps : List Zp) (N M : Nat), (∀ p ∈ ps, p.1.da.length ≤ N) → ps.length ≤ M → zl ps ≤ M * (N + 3) := by
  intro ps
  induction ps with
  | nil => intro N M _ _; simp [zl]
  | cons p ps ih =>
    intro N M h hl
    obtain ⟨m, rfl⟩ : ∃ m, M = m + 1 := ⟨M - 1, by simp at hl; omega⟩
    have h1 := ih N m (fun q hq => h q (by simp [hq])) (by simp at hl; omega)
    have h2 := h p (by simp)
    have h3 : (m + 1) * (N + 3) = m * (N + 3) + (N + 3) := by rw [Nat.add_mul]; simp
    rw [zl, h3]
    omega
theorem bz_zl {list : List Rr} {apex : ByteArray} {ps : List Zp} (h : ps.map (·.1) = bzZ list apex) : zl ps ≤ 400000 ∧ ∀ q ∈ ps, q.1.da.length ≤ 1000000000 := by
  have key : (∀ p ∈ ps, p.1.da.length ≤ 500) ∧ ps.length ≤ 500 := by
    by_cases hc : (bldE list apex).1 = 0
    · rw [bzZ, if_pos hc] at h
      have hl : list.length ≤ 500 := by
        rcases Nat.lt_or_ge 500 list.length with h9 | h9
        · exfalso
          by_cases hq : (Nm.split apex).isSome = false
          · rw [bldE, if_pos hq] at hc; cases hc
          · rw [bldE, if_neg hq, if_pos h9] at hc; cases hc
        · exact h9
      have hs : (srtOf list).length ≤ 500 := by
        rw [srtOf, sortI, (sortF_perm _ _).length_eq, restOf]
        refine Nat.le_trans (List.length_filter_le _ _) ?_
        rw [itsOf, twI_len, List.length_map]
        exact hl
      have hg := grpK_len (l := itsOf list) (srt := srtOf list) (srtOf list).length (Nat.le_refl _)
      have hlen := congrArg List.length h
      rw [List.length_map, bldZ] at hlen
      refine ⟨fun p hp => ?_, by have := hg.1; omega⟩
      have hm : p.1 ∈ ps.map (·.1) := List.mem_map.2 ⟨p, hp, rfl⟩
      rw [h, bldZ] at hm
      have := hg.2 _ hm
      omega
    · rw [bzZ, if_neg hc] at h
      have : ps = [] := List.map_eq_nil_iff.1 h
      subst this
      exact ⟨by simp, by simp⟩
  have := zl_bound ps 500 500 key.1 key.2
  exact ⟨by omega, fun q hq => by have := key.1 q hq; omega⟩
theorem outs_base {fp : List Nat} {B : Nat} {w w' : World} (h : Outs fp w w') (hB : B ≤ w.heap.size) (hf : ∀ b ∈ fp, B ≤ b) : Below B w w' :=
  ⟨h.os, h.tape, h.output, h.size, fun k hk => h.block k (by omega) (fun hm => by have := hf k hm; omega)⟩
theorem zfp_ge {w : World} {B : Nat} {v : Value} {ps : List Zp} (h : ZOwn w B v ps) : ∀ b ∈ zfp v ps, B ≤ b := by
  intro b hb
  simp only [zfp, List.mem_append, List.mem_flatMap] at hb
  rcases hb with hb | ⟨p, hp, hb⟩
  · cases hv : v.ownBlock with
    | none => rw [hv] at hb; simp at hb
    | some q => rw [hv] at hb; simp at hb; subst hb; exact (h.outer.lt _ hv).1
  · obtain ⟨i, hi⟩ := List.getElem?_of_mem hp
    cases hv : p.2.ownBlock with
    | none => rw [hv] at hb; simp at hb
    | some q => rw [hv] at hb; simp at hb; subst hb; exact ((h.inner i p hi).lt _ hv).1
theorem zfp_out {w : World} {B b : Nat} {v : Value} {ps : List Zp} {cs : Array Value} (h : ZOwn w B v ps) (hb : Blk w b cs 26) : b ∉ zfp v ps := by
  intro hm
  simp only [zfp, List.mem_append, List.mem_flatMap] at hm
  rcases hm with hm | ⟨p, hp, hm⟩
  · exact own_nb h.outer hb (by decide) (by simpa using hm)
  · obtain ⟨i, hi⟩ := List.getElem?_of_mem hp
    exact own_nb (h.inner i p hi) hb (by decide) (by simpa using hm)

set_option maxRecDepth 100000 in
set_option maxHeartbeats 3200000 in
theorem fnExactBuildZone_walk (v : Value) (xs : List Rr) (apex : ByteArray) (w : World) (h : CRow w v xs.length 5 (rvVs xs)) (hx : ∀ r ∈ xs, r.own.size ≤ maxLen ∧ r.da.size ≤ maxLen) (hap : apex.size ≤ maxLen) :
    Calls Tryz.prog 3 #[v, .string apex] w fun e w' => e = .returned (.bool true) ∧ Below w.heap.size w w' := by
  by_cases ha : 1048576 < apex.size
  · have i1 : (1048576 : Int) < (apex.size : Int) := by omega
    obtain ⟨_, a, cap, rfl, _⟩ := h
    clear hx
    unfold maxLen at hap
    go_enter Tryz.func3, Tryz.ntmps3
    go_wp2
    go_ret
    exact ⟨rfl, Below.refl _ _⟩
  · have i1 : ¬ (1048576 : Int) < (apex.size : Int) := by omega
    have hsz := szRRS_any v xs 1048576 w h hx (by decide) (by decide)
    by_cases hb : (xs.length : Int) + (rsum xs : Int) ≤ 1048576
    · have e1 : szRS xs 1048576 = 1048576 - xs.length - rsum xs := if_pos hb
      rw [e1] at hsz
      have hlen : xs.length ≤ 1048576 := by omega
      have hxs : ∀ r ∈ xs, r.own.size ≤ 1048576 ∧ r.da.size ≤ 1048576 := by
        intro r hr
        have := rsum_mem xs r hr
        omega
      have hto := Nm.hide (fun W hq => toRRS_any v xs W hq hlen)
      have hsp := Nm.hide (fun V W hV => (specBuildZone_any V xs apex W hV hlen hap (fun r hr => (hx r hr).1)).mono (fun _ _ hp => bz_uni hp))
      have him := Nm.hide (fun V W hV => (implBuildZone_any V xs apex W hV (by omega) (fun r hr => by have := hxs r hr; exact ⟨by omega, by omega⟩)).mono (fun _ _ hp => bz_uni hp))
      have heq := Nm.hide (fun V U W => eqRVS_any V U xs W)
      have hzl := Nm.hide (fun (ps : List Zp) (hp : ps.map (·.1) = bzZ xs apex) => bz_zl hp)
      have hezq := Nm.hide (fun v u qs rs W h1 h2 h3 h4 => eqZone_any (bzO xs apex) v u qs rs W h1 h2 h3 h4)
      have hmz : Hid (∀ (v : Value) (qs : List Zp) (B : Nat) (W : World) (K : Int), K = ((1 + zl qs : Nat) : Int) → ZOwn W B v qs → zl qs ≤ 400000 → Calls Tryz.prog 11 #[.agg #[.string (bzO xs apex), v], .int .i64 1] W fun e w' => e = .returned (.int .i64 K) ∧ ZOwn w' B v (mkZ 1 qs) ∧ Outs (zfp v qs) W w') := by
        intro v qs B W K hK h1 h2
        rw [hK]
        exact markZone_own (bzO xs apex) v qs B 1 W h1 h2 (by decide)
      have hhz : Hid (∀ (v : Value) (qs : List Zp) (W : World) (K : Int), K = ((1 + zl qs : Nat) : Int) → ZRow W v (mkZ 1 qs) → zl qs ≤ 400000 → Calls Tryz.prog 12 #[.agg #[.string (bzO xs apex), v], .int .i64 1] W fun e w' => e = .returned (.int .i64 K) ∧ Below W.heap.size W w') := by
        intro v qs W K hK h1 h2
        rw [hK]
        exact heldZone_any (bzO xs apex) v qs 1 W h1 h2 (by decide)
      obtain ⟨M, hM, hmr⟩ : ∃ M : Int, ¬ M < 0 ∧ Hid (∀ (V : Value) (B : Nat) (ys : List Value) (W : World), W.ownsRow B 42 5 V xs.length ys → B ≤ W.heap.size → Calls Tryz.prog 10 #[V, .int .i64 1] W fun e w' => e = .returned (.int .i64 M) ∧ W.grownBy w' V.ownBlock) := by
        refine ⟨((1 + xs.length * 5 : Nat) : Int), by omega, ?_⟩
        intro V B ys W h1 h2
        refine (markRRS_any V xs.length B 1 ys W h1 h2 (by omega) (by decide)).mono ?_
        rintro e w' ⟨he, _, hg⟩
        exact ⟨he, hg⟩
      have hv1 : ((bldE xs apex).1 != (bldE xs apex).1) = false := by simp
      have hv2 : (bzI xs apex != bzI xs apex) = false := by simp
      generalize (bldE xs apex).1 = C at *
      generalize bzI xs apex = I at *
      generalize bzO xs apex = O at *
      generalize bzZ xs apex = Z at *
      have hnn : 0 ≤ 1048576 - (xs.length : Int) - (rsum xs : Int) := by omega
      generalize (1048576 - (xs.length : Int) - (rsum xs : Int)) = L at *
      have HC := Nm.hide h
      obtain ⟨_, va, vc, rfl, _⟩ := h
      clear e1 hxs hx hb ha
      unfold maxLen at hap
      go_enter Tryz.func3, Tryz.ntmps3
      go_wp2_with fail
      refine hsz.mono ?_
      rintro e w1 ⟨rfl, b1⟩
      clear hsz
      go_wp2_with fail
      refine (hto.out _ (HC.out.below b1)).mono ?_
      rintro e w2 ⟨u2, rfl, own2, c2⟩
      have b2 := Nm.below_two b1 c2
      obtain ⟨ua2, uc2, rfl⟩ := own_sl own2
      go_wp2_with fail
      refine (hsp.out _ _ (CRow.of_owns own2)).mono ?_
      rintro e w3 ⟨a3, c3, ps3, rfl, hp3, z3, d3⟩
      have b3 := Nm.below_two b2 d3
      have zA := z3.below ((Below.refl _ w3).alloc (Nat.le_refl _) (.cells #[.string O, .slice a3 ps3.length c3] 26))
      have kA := blk_new w3 #[.string O, .slice a3 ps3.length c3] 26
      have bA := b3.alloc b3.size (.cells #[.string O, .slice a3 ps3.length c3] 26)
      have hsA : (w3.alloc (.cells #[.string O, .slice a3 ps3.length c3] 26)).heap.size = w3.heap.size + 1 := by simp
      have HA := Nm.hide (And.intro zA.zrow (And.intro kA (And.intro bA (And.intro hp3 hsA))))
      clear own2 z3 d3 zA kA bA hsA c2 b1 b2 b3 hp3 hsp
      go_wp2_with fail
      refine (hto.out _ (HC.out.below HA.out.2.2.1)).mono ?_
      rintro e w4 ⟨u4, rfl, own4, c4⟩
      obtain ⟨ua4, uc4, rfl⟩ := own_sl own4
      go_wp2_with fail
      refine (him.out _ _ (CRow.of_owns own4)).mono ?_
      rintro e w5 ⟨a5, c5, ps5, rfl, hp5, z5, d5⟩
      have a5' : Below _ _ w5 := Nm.below_two c4 d5
      have own5 := own_below own4 d5
      have zC := z5.below ((Below.refl _ w5).alloc (Nat.le_refl _) (.cells #[.string O, .slice a5 ps5.length c5] 26))
      have kC := blk_new w5 #[.string O, .slice a5 ps5.length c5] 26
      have aC := a5'.alloc a5'.size (.cells #[.string O, .slice a5 ps5.length c5] 26)
      have ownC := own_below own5 ((Below.refl _ w5).alloc (Nat.le_refl _) (.cells #[.string O, .slice a5 ps5.length c5] 26))
      have hs4 : (w3.alloc (.cells #[.string O, .slice a3 ps3.length c3] 26)).heap.size ≤ w4.heap.size := c4.size
      have kA6 := blk_below HA.out.2.1 aC
      have rA6 := fun i => blk_cell kA6 i
      have rC := fun i => blk_cell kC i
      clear own4 own5 c4 d5 z5 a5'
      go_wp2_with fail
      refine (hezq.out _ _ ps5 ps3 _ zC.zrow (HA.out.1.below aC) (hp5.trans HA.out.2.2.2.1.symm) (hzl.out ps5 hp5).2).mono ?_
      rintro e w6 ⟨rfl, b6⟩
      have a6 := Nm.below_two aC b6
      have z6 := zC.below b6
      have k6 := blk_below kC b6
      have own6 := own_below ownC b6
      clear aC zC kC ownC b6 rA6 rC kA6
      go_wp2_with fail
      refine (hto.out _ (HC.out.below (Nm.below_two HA.out.2.2.1 a6))).mono ?_
      rintro e w7 ⟨u7, rfl, own7, c7⟩
      obtain ⟨ua7, uc7, rfl⟩ := own_sl own7
      go_wp2_with fail
      refine (heq.out _ _ _ (CRow.of_owns (own_below own6 c7)) (CRow.of_owns own7)).mono ?_
      rintro e w8 ⟨rfl, c8⟩
      have c78 := Nm.below_two c7 c8
      have a8 := Nm.below_two a6 c78
      have z8 := z6.below c78
      have k8 := blk_below k6 c78
      have own8 := own_below own6 c78
      clear c7 c8 c78 own7 own6 k6 z6 a6
      go_wp2_with fail
      refine (hmr.out _ _ _ _ own8 a8.size).mono ?_
      rintro e w9 ⟨rfl, hg9⟩
      have a9 := a8.grown hg9 a8.size (fun g e => (own8.lt g e).1)
      have z9 := z8.beside hg9 (fun g e => own_kindsZ z8.outer own8 (by decide) g e) (fun g e p hp => by
        obtain ⟨i, hi⟩ := List.getElem?_of_mem hp
        exact own_kindsZ (z8.inner i p hi) own8 (by decide) g e)
      have k9 := blk_grown k8 hg9 (own_nb own8 k8 (by decide))
      have kA9 := blk_below HA.out.2.1 a9
      have rA9 := fun i => blk_cell kA9 i
      have r9 := fun i => blk_cell k9 i
      clear own8 k8 z8 a8 hg9
      go_wp2_with fail
      refine (hezq.out _ _ ps5 ps3 _ z9.zrow (HA.out.1.below a9) (hp5.trans HA.out.2.2.2.1.symm) (hzl.out ps5 hp5).2).mono ?_
      rintro e w10 ⟨rfl, b10⟩
      have a10 := Nm.below_two a9 b10
      have z10 := z9.below b10
      have k10 := blk_below k9 b10
      have r10 := fun i => blk_cell k10 i
      clear a9 z9 k9 b10 rA9 r9 kA9
      obtain ⟨KZ, hKZ⟩ : ∃ KZ : Int, KZ = ((1 + zl ps5 : Nat) : Int) := ⟨_, rfl⟩
      have hK0 : ¬ KZ < 0 := by omega
      have hK1 : (KZ != KZ) = false := by simp
      have HKZ := Nm.hide hKZ
      clear hKZ
      go_wp2_with fail
      refine (hmz.out _ ps5 _ _ KZ HKZ.out z10 (hzl.out ps5 hp5).1).mono ?_
      rintro e w11 ⟨rfl, z11, o11⟩
      have a11 : Below _ _ w11 := a10.trans (outs_base o11 a10.size (fun b hb => Nat.le_trans hs4 (zfp_ge z10 b hb)))
      have k11 := blk_outs k10 o11 (zfp_out z10 k10)
      have r11 := fun i => blk_cell k11 i
      clear z10 k10 r10 o11 a10
      go_wp2_with fail
      refine (hhz.out _ ps5 _ KZ HKZ.out z11.zrow (hzl.out ps5 hp5).1).mono ?_
      rintro e w12 ⟨rfl, b12⟩
      have a12 := Nm.below_two a11 b12
      have z12 := z11.below b12
      have k12 := blk_below k11 b12
      clear a11 z11 k11 r11 b12
      go_wp2_with fail
      refine (hto.out _ (HC.out.below (Nm.below_two HA.out.2.2.1 a12))).mono ?_
      rintro e w13 ⟨u13, rfl, own13, c13⟩
      obtain ⟨ua13, uc13, rfl⟩ := own_sl own13
      go_wp2_with fail
      refine (him.out _ _ (CRow.of_owns own13)).mono ?_
      rintro e w14 ⟨a14, c14, ps14, rfl, hp14, z14, d14⟩
      have b14 := (Nm.below_two c13 d14)
      have b15 := b14.alloc b14.size (.cells #[.string O, .slice a14 ps14.length c14] 26)
      have a15 := Nm.below_two a12 b15
      have z15 := z12.below b15
      have k15 := blk_below k12 b15
      have zN := z14.below ((Below.refl _ w14).alloc (Nat.le_refl _) (.cells #[.string O, .slice a14 ps14.length c14] 26))
      have kN := blk_new w14 #[.string O, .slice a14 ps14.length c14] 26
      have kA15 := blk_below HA.out.2.1 a15
      have rA15 := fun i => blk_cell kA15 i
      have rN := fun i => blk_cell kN i
      clear c13 d14 b14 own13 z14 a12 z12 k12 b15
      go_wp2_with fail
      refine (hezq.out _ _ ps14 ps3 _ zN.zrow (HA.out.1.below a15) (hp14.trans HA.out.2.2.2.1.symm) (hzl.out ps14 hp14).2).mono ?_
      rintro e w16 ⟨rfl, b16⟩
      have a16 := Nm.below_two a15 b16
      have z16 := z15.below b16
      have k16 := blk_below k15 b16
      have r16 := fun i => blk_cell k16 i
      clear a15 z15 k15 zN kN kA15 rA15 rN b16
      go_wp2_with fail
      refine (hhz.out _ ps5 _ KZ HKZ.out z16.zrow (hzl.out ps5 hp5).1).mono ?_
      rintro e w17 ⟨rfl, b17⟩
      have a17 := Nm.below_two a16 b17
      clear a16 z16 k16 r16 b17
      go_wp2
      go_ret
      exact ⟨rfl, Nm.below_two HA.out.2.2.1 a17⟩
    · have e1 : szRS xs 1048576 = -1 := if_neg hb
      rw [e1] at hsz
      obtain ⟨_, va, vc, rfl, _⟩ := h
      clear hx hb e1
      unfold maxLen at hap
      go_enter Tryz.func3, Tryz.ntmps3
      go_wp2_with fail
      refine hsz.mono ?_
      rintro e w1 ⟨rfl, b1⟩
      go_wp2
      go_ret
      exact ⟨rfl, b1⟩
end Go.Proofs.YtcamccoaoiobdaaGreat
