import Derived.Test.YtmclegfejkoaoaaDoorJMath
import Derived.Test.YtmclegfejkoaoaaDoorSgL
import Derived.Test.YtmclegfejkoaoaaDoorLaidM
/- The law of Sign: its walk. -/
namespace Go.Proofs.YtmclegfejkoaoaaDoor
open Go.RowKit
set_option linter.unusedVariables false

theorem KL_tab {H : Type} : (Rows.laid_loop_example_s01858_impl_roundWords : DataW H) = Lib.tabData .u32 (KL.map fun n => ((n : Nat) : Int)) := rfl
theorem H0_tab {H : Type} : (Rows.laid_loop_example_s01858_impl_firstState : DataW H) = Lib.tabData .u32 [1779033703, 3144134277, 1013904242, 2773480762, 1359893119, 2600822924, 528734635, 1541459225] := rfl

theorem first_of {W : World} (hL : laidMet Tryd.prog Rows.fnExactSignRow.laid W) : ∃ t fr, W.heap[0]? = some (.cells (hvA H0) t fr) := by
  have h := tab_of_laid (g := 0) (t := 73) (e := 66) (n := 8) (k := .u32) (zs := [1779033703, 3144134277, 1013904242, 2773480762, 1359893119, 2600822924, 528734635, 1541459225]) hL (by exact List.Mem.head _) (by kernel_rfl) (by kernel_rfl) Tryd.underlying73 Tryd.underlying66 (by kernel_rfl) (by kernel_rfl)
  exact var_block (by kernel_rfl) h
theorem round_of {W : World} (hL : laidMet Tryd.prog Rows.fnExactSignRow.laid W) : KAt W 1 := by
  have h := tab_of_laid (g := 1) (t := 68) (e := 66) (n := 64) (k := .u32) (zs := KL.map fun n => ((n : Nat) : Int)) hL (by exact List.Mem.tail _ (List.Mem.head _)) (by kernel_rfl) (by kernel_rfl) Tryd.underlying68 Tryd.underlying66 (by kernel_rfl) (by kernel_rfl)
  obtain ⟨t, fr, hh⟩ := var_block (g := 1) (by kernel_rfl) h
  intro i hi
  rw [cell_of_row _ _ _ _ _ _ hh, List.map_map]
  exact KW_at hi

theorem own_kept {W W1 : World} {B B' e s m n : Nat} {v u : Value} {xs ys : List Value} (h : W.ownsRow B e s v m xs) (hu : W.ownsRow B' e s u n ys) (hlt : ∀ q, u.ownBlock = some q → q < B) (hg : W.grownBy W1 u.ownBlock) : W1.ownsRow B e s v m xs := by
  refine h.kept hg ?_
  cases hv : v.ownBlock with
  | none => exact .inl rfl
  | some k =>
    right
    intro e2
    have h1 := (h.lt k hv).1
    have h2 := hlt k e2.symm
    omega

set_option maxRecDepth 100000 in
set_option maxHeartbeats 3200000 in
theorem fnExactSign_walk (a0 : Option Addr) (len0 cap0 : Nat) (z0 : List Int) (kn sc rq : ByteArray) (now : Int) (w : World) (w0 : RowB w a0 len0 cap0 z0) (hkn : kn.size ≤ maxLen) (hsc : sc.size ≤ maxLen) (hL : laidMet Tryd.prog Rows.fnExactSignRow.laid w) :
    Calls Tryd.prog 3 #[.slice a0 len0 cap0, .agg #[.string kn, .string sc], .int .i64 now, .string rq] w fun e w' => e = .returned (.bool true) ∧ Below w.heap.size w w' := by
  obtain ⟨m, hlen, hrow⟩ := rowB w0
  have hF := first_of hL
  have hK := round_of hL
  have k0 := blk_new w #[.string kn, .string sc] 24
  have q0 := (blk_cell k0 0).trans rfl
  have q1 := (blk_cell k0 1).trans rfl
  have hB0 := (Below.refl w.heap.size w).alloc (Nat.le_refl _) (.cells #[.string kn, .string sc] 24)
  have hsz := szKey_any kn sc (w.alloc (.cells #[.string kn, .string sc] 24)) hkn hsc
  clear hL w0
  by_cases hl : 1048576 < len0
  · have hl' : (1048576 : Int) < (len0 : Int) := by omega
    go_enter Tryd.func3, Tryd.ntmps3
    go_wp2
    go_ret
    exact ⟨rfl, hB0⟩
  have hl' : ¬ (1048576 : Int) < (len0 : Int) := by omega
  by_cases hr : 1048576 < rq.size
  · have hr' : (1048576 : Int) < (rq.size : Int) := by omega
    go_enter Tryd.func3, Tryd.ntmps3
    go_wp2
    go_ret
    exact ⟨rfl, hB0⟩
  have hr' : ¬ (1048576 : Int) < (rq.size : Int) := by omega
  subst hlen
  have hto := fun V W (h : BySl W V m) => toByteS_own V m W h (by omega)
  have htk := fun W => toKey_any kn sc W
  have heq := fun V U W (h : BySl W V m) (h' : BySl W U m) => eqBy_any V U m W h h'
  have hmx := fun V B W (h : W.ownsRow B 5 1 V m.length (Nm.bys m)) => markBy_any V m.length B _ W h (by omega)
  clear hr hkn hsc
  go_enter Tryd.func3, Tryd.ntmps3
  go_wp2_with fail
  refine hsz.mono ?_
  rintro e w1 ⟨⟨i, rfl, hi⟩, b1⟩
  have hB1 := Nm.below_two hB0 b1
  have k1 := blk_below k0 b1
  clear hsz q0 q1 k0 hB0 b1
  rcases hi with ⟨hi0, hkz, hsz⟩ | rfl
  · have hi' : ¬ i < 0 := by omega
    have hsp := fun V W (h : BySl W V m) => specSign_any V m kn sc rq now W h (by omega) hkz
    have him := fun V W (h : BySl W V m) (hb : Below w.heap.size w W) => implSign_any V m kn sc rq now W h (by omega) hkz (by
      obtain ⟨t, fr, hh⟩ := hF
      exact ⟨t, fr, (hb.block _ (Array.getElem?_eq_some_iff.1 hh).1).trans hh⟩) (hK.below hb)
    have hrl := sgRes_len (m := m) (kn := kn) (sc := sc) (rq := rq) (now := now) (by omega)
    generalize sgRes m kn sc rq now = R at *
    generalize sgCode m kn sc rq now = C at *
    have hcc : (C != C) = false := by simp
    have heR := fun V U W (h : BySl W V R) (h' : BySl W U R) => eqBy_any V U R W h h'
    have hmR := fun V B W (h : W.ownsRow B 5 1 V R.length (Nm.bys R)) => markBy_any V R.length B _ W h (by omega)
    have hhR := fun V W (h : CRow W V R.length 1 (bmk R.length)) => heldBy_any V R.length W h (by omega)
    have hS : ∀ W, Below w1.heap.size w1 W → (W.cell? ⟨w.heap.size, 0, none⟩ = some (.string kn) ∧ W.cell? ⟨w.heap.size, 1, none⟩ = some (.string sc)) ∧ True := fun W hW => ⟨⟨(blk_cell (blk_below k1 hW) 0).trans rfl, (blk_cell (blk_below k1 hW) 1).trans rfl⟩, trivial⟩
    have hS0 := hS w1.drew (Below.refl _ _).drew
    have hbl := (Below.refl w1.heap.size w1).drew
    clear hF hK hi0 hkz hsz
    go_wp2
    refine wp_region_last (S := fun W => (W.cell? ⟨w.heap.size, 0, none⟩ = some (.string kn) ∧ W.cell? ⟨w.heap.size, 1, none⟩ = some (.string sc)) ∧ True) (L := 1000) (by kernel_rfl) hS0 (fun hH => ?_)
    clear hS0
    refine wpAnyL_take (i := 0) (v := ?_) rfl (by kernel_rfl) (by kernel_rfl) (by kernel_rfl) (by kernel_rfl) (fun _ _ _ h => h) (Or.inl ⟨by rfl, ?_⟩) (by assumption) ?_
    rotate_left 1
    · (intro w hSw; go_simp; try (with_reducible rfl))
    refine wpAnyL_take (i := 2) (v := ?_) rfl (by kernel_rfl) (by kernel_rfl) (by kernel_rfl) (by kernel_rfl) (fun _ _ _ h => h) (Or.inl ⟨by rfl, ?_⟩) (by assumption) ?_
    rotate_left 1
    · (intro w hSw; go_simp; try (with_reducible rfl))
    refine wpAnyL_take (i := 4) (v := ?_) rfl (by kernel_rfl) (by kernel_rfl) (by kernel_rfl) (by kernel_rfl) (fun _ _ _ h => h) (Or.inl ⟨by rfl, ?_⟩) (by assumption) ?_
    rotate_left 1
    · (intro w hSw; go_simp; try (with_reducible rfl))
    refine wpAnyL_take (i := 5) (v := ?_) rfl (by kernel_rfl) (by kernel_rfl) (by kernel_rfl) (by kernel_rfl) (fun _ _ _ h => h) (Or.inl ⟨by rfl, ?_⟩) (by assumption) ?_
    rotate_left 1
    · (intro w hSw; go_simp; try (with_reducible rfl))
    refine wpAnyL_one (i := 1) (by kernel_rfl) rfl (fun K hK' => ?_)
    go_simp
    refine (hto _ _ (hrow.below (Nm.below_two hB1 hbl))).mono ?_
    rintro e w2 ⟨v2, rfl, o2, b2⟩
    have hb2 := Nm.below_two hbl b2
    clear hbl b2
    go_wp2_with fail
    refine hK'.out _ _ (hS _ hb2) (fun hH => ?_)
    clear hK' K
    refine wpAnyL_one (i := 3) (by kernel_rfl) rfl (fun K hK' => ?_)
    go_simp
    refine (htk _).mono ?_
    rintro e w3 ⟨rfl, b3⟩
    have hb3 := Nm.below_two hb2 b3
    have c3 := (CRow.of_owns o2).below b3
    clear hb2 b3 o2
    go_wp2_with fail
    refine hK'.out _ _ (hS _ hb3) (fun hH => ?_)
    clear hK' K
    refine wpAnyL_one (i := 6) (by kernel_rfl) rfl (fun K hK' => ?_)
    go_simp
    refine (hsp _ _ c3).mono ?_
    rintro e w4 ⟨⟨u4, rfl, c4⟩, b4⟩
    have hb4 := Nm.below_two hb3 b4
    clear hb3 b4 c3
    go_wp2_with fail
    refine hK'.out _ _ (hS _ hb4) (fun hH => ?_)
    clear hK' K
    refine wpAnyL_take (i := 7) (v := ?_) rfl (by kernel_rfl) (by kernel_rfl) (by kernel_rfl) (by kernel_rfl) (fun _ _ _ h => h) (Or.inl ⟨by rfl, ?_⟩) (by assumption) ?_
    rotate_left 1
    · (intro w hSw; go_simp; try (with_reducible rfl))
    refine wpAnyL_take (i := 8) (v := ?_) rfl (by kernel_rfl) (by kernel_rfl) (by kernel_rfl) (by kernel_rfl) (fun _ _ _ h => h) (Or.inl ⟨by rfl, ?_⟩) (by assumption) ?_
    rotate_left 1
    · (intro w hSw; go_simp; try (with_reducible rfl))
    refine wpAnyL_take (i := 9) (v := ?_) rfl (by kernel_rfl) (by kernel_rfl) (by kernel_rfl) (by kernel_rfl) (fun _ _ _ h => h) (Or.inl ⟨by rfl, ?_⟩) (by assumption) ?_
    rotate_left 1
    · (intro w hSw; go_simp; try (with_reducible rfl))
    refine wpAnyL_take (i := 10) (v := ?_) rfl (by kernel_rfl) (by kernel_rfl) (by kernel_rfl) (by kernel_rfl) (fun _ _ _ h => h) (Or.inl ⟨by rfl, ?_⟩) (by assumption) ?_
    rotate_left 1
    · (intro w hSw; go_simp; try (with_reducible rfl))
    refine wpAnyL_take (i := 11) (v := ?_) rfl (by kernel_rfl) (by kernel_rfl) (by kernel_rfl) (by kernel_rfl) (fun _ _ _ h => h) (Or.inl ⟨by rfl, ?_⟩) (by assumption) ?_
    rotate_left 1
    · (intro w hSw; go_simp; try (with_reducible rfl))
    refine wpAnyL_done (by kernel_rfl) ?_
    have hB4 := Nm.below_two hB1 hb4
    clear hH hsp
    go_wp2_with fail
    refine (hto _ _ (hrow.below hB4)).mono ?_
    rintro e w5 ⟨v5, rfl, o5, b5⟩
    have hB5 := Nm.below_two hB4 b5
    have s5 := hS _ (Nm.below_two hb4 b5)
    obtain ⟨⟨s50, s51⟩, _⟩ := s5
    go_wp2_with fail
    refine (htk _).mono ?_
    rintro e w6 ⟨rfl, b6⟩
    have hB6 := Nm.below_two hB5 b6
    have o6 := own_below o5 b6
    have hlt6 : ∀ q, v5.ownBlock = some q → q < w6.heap.size := fun q hq => (o6.lt q hq).2
    clear s50 s51
    go_wp2_with fail
    refine (him _ _ (CRow.of_owns o6) hB6).mono ?_
    rintro e w7 ⟨⟨u7, rfl, o7⟩, b7⟩
    have hB7 := Nm.below_two hB6 b7
    have x7 := own_below o6 b7
    have b47 := Nm.below_two (Nm.below_two b5 b6) b7
    have c7 := c4.below b47
    clear o5 o6 hB4 hB5
    go_wp2_with fail
    refine (heR _ _ _ (CRow.of_owns o7) c7).mono ?_
    rintro e w8 ⟨rfl, b8⟩
    have hB8 := Nm.below_two hB7 b8
    have o8 := own_below o7 b8
    have x8 := own_below x7 b8
    have b48 := Nm.below_two b47 b8
    clear o7 x7 b47 c7 b8 hB7 b7
    go_wp2_with fail
    refine (hto _ _ (hrow.below hB8)).mono ?_
    rintro e w9 ⟨v9, rfl, o9, b9⟩
    have hB9 := Nm.below_two hB8 b9
    go_wp2_with fail
    refine (heq _ _ _ (CRow.of_owns (own_below x8 b9)) (CRow.of_owns o9)).mono ?_
    rintro e w10 ⟨rfl, b10⟩
    have hB10 := Nm.below_two hB9 b10
    have b410 := Nm.below_two (Nm.below_two b48 b9) b10
    have o10 := own_below (own_below o8 b9) b10
    have x10 := own_below (own_below x8 b9) b10
    clear o8 x8 o9 b9 b10 hB8 hB9 b48
    go_wp2_with fail
    refine (hmx _ _ _ x10).mono ?_
    rintro e w11 ⟨rfl, x11, g11⟩
    have o11 := own_kept o10 x10 hlt6 g11
    have b411 := b410.grown g11 b410.size (fun q hq => (x10.lt q hq).1)
    have hB11 := hB10.grown g11 hB10.size (fun q hq => by have h1 := (x10.lt q hq).1; have h2 := (Nm.below_two hB1 hb4).size; omega)
    have nk : ¬ (1 + (m.length : Int)) < 0 := by omega
    clear o10 x10 g11 b410 hB10 x11
    go_wp2_with fail
    refine (heR _ _ _ (CRow.of_owns o11) (c4.below b411)).mono ?_
    rintro e w12 ⟨rfl, b12⟩
    have hB12 := Nm.below_two hB11 b12
    have o12 := own_below o11 b12
    have b412 := Nm.below_two b411 b12
    clear o11 hB11 b411 b12
    go_wp2_with fail
    refine (hmR _ _ _ o12).mono ?_
    rintro e w13 ⟨rfl, o13, g13⟩
    have hs6 := (Nm.below_two b5 b6).size
    have b413 := b412.grown g13 b412.size (fun q hq => by have h1 := (o12.lt q hq).1; omega)
    have hB13 := hB12.grown g13 hB12.size (fun q hq => by have h1 := (o12.lt q hq).1; have h2 := (Nm.below_two hB1 hb4).size; omega)
    clear o12 g13 b412 hB12
    go_wp2_with fail
    refine (hhR _ _ (CRow.of_owns o13)).mono ?_
    rintro e w14 ⟨rfl, b14⟩
    have hB14 := Nm.below_two hB13 b14
    have o14 := own_below o13 b14
    have b414 := Nm.below_two b413 b14
    have nq : ¬ (1 + (R.length : Int)) < 0 := by omega
    have nq2 : ((1 + (R.length : Int)) != (1 + (R.length : Int))) = false := by simp
    clear o13 b413 hB13 b14
    have hb14 := Nm.below_two hb4 b414
    have hS0 := hS w14.drew hb14.drew
    go_wp2
    have hbl := hb14.drew
    refine wp_region_last (S := fun W => (W.cell? ⟨w.heap.size, 0, none⟩ = some (.string kn) ∧ W.cell? ⟨w.heap.size, 1, none⟩ = some (.string sc)) ∧ True) (L := 1000) (by kernel_rfl) hS0 (fun hH => ?_)
    clear hS0
    refine wpAnyL_take (i := 0) (v := ?_) rfl (by kernel_rfl) (by kernel_rfl) (by kernel_rfl) (by kernel_rfl) (fun _ _ _ h => h) (Or.inl ⟨by rfl, ?_⟩) (by assumption) ?_
    rotate_left 1
    · (intro w hSw; go_simp; try (with_reducible rfl))
    refine wpAnyL_take (i := 2) (v := ?_) rfl (by kernel_rfl) (by kernel_rfl) (by kernel_rfl) (by kernel_rfl) (fun _ _ _ h => h) (Or.inl ⟨by rfl, ?_⟩) (by assumption) ?_
    rotate_left 1
    · (intro w hSw; go_simp; try (with_reducible rfl))
    refine wpAnyL_take (i := 4) (v := ?_) rfl (by kernel_rfl) (by kernel_rfl) (by kernel_rfl) (by kernel_rfl) (fun _ _ _ h => h) (Or.inl ⟨by rfl, ?_⟩) (by assumption) ?_
    rotate_left 1
    · (intro w hSw; go_simp; try (with_reducible rfl))
    refine wpAnyL_take (i := 5) (v := ?_) rfl (by kernel_rfl) (by kernel_rfl) (by kernel_rfl) (by kernel_rfl) (fun _ _ _ h => h) (Or.inl ⟨by rfl, ?_⟩) (by assumption) ?_
    rotate_left 1
    · (intro w hSw; go_simp; try (with_reducible rfl))
    refine wpAnyL_one (i := 1) (by kernel_rfl) rfl (fun K hK' => ?_)
    go_simp
    refine (hto _ _ (hrow.below hB14.drew)).mono ?_
    rintro e w15 ⟨v15, rfl, o15, b15⟩
    have hb15 := Nm.below_two hbl b15
    have bx15 : Below w14.heap.size w14 w15 := (Below.refl _ w14).drew.trans b15
    clear hbl b15
    go_wp2_with fail
    refine hK'.out _ _ (hS _ hb15) (fun hH => ?_)
    clear hK' K
    refine wpAnyL_one (i := 3) (by kernel_rfl) rfl (fun K hK' => ?_)
    go_simp
    refine (htk _).mono ?_
    rintro e w16 ⟨rfl, b16⟩
    have hb16 := Nm.below_two hb15 b16
    have bx16 := Nm.below_two bx15 b16
    have c16 := (CRow.of_owns o15).below b16
    clear hb15 b16 o15 bx15
    go_wp2_with fail
    refine hK'.out _ _ (hS _ hb16) (fun hH => ?_)
    clear hK' K
    refine wpAnyL_one (i := 6) (by kernel_rfl) rfl (fun K hK' => ?_)
    go_simp
    refine (him _ _ c16 (Nm.below_two hB14 bx16)).mono ?_
    rintro e w17 ⟨⟨u17, rfl, o17⟩, b17⟩
    have hb17 := Nm.below_two hb16 b17
    have bx17 := Nm.below_two bx16 b17
    clear hb16 b17 c16 bx16
    go_wp2_with fail
    refine hK'.out _ _ (hS _ hb17) (fun hH => ?_)
    clear hK' K
    refine wpAnyL_take (i := 7) (v := ?_) rfl (by kernel_rfl) (by kernel_rfl) (by kernel_rfl) (by kernel_rfl) (fun _ _ _ h => h) (Or.inl ⟨by rfl, ?_⟩) (by assumption) ?_
    rotate_left 1
    · (intro w hSw; go_simp; try (with_reducible rfl))
    refine wpAnyL_take (i := 8) (v := ?_) rfl (by kernel_rfl) (by kernel_rfl) (by kernel_rfl) (by kernel_rfl) (fun _ _ _ h => h) (Or.inl ⟨by rfl, ?_⟩) (by assumption) ?_
    rotate_left 1
    · (intro w hSw; go_simp; try (with_reducible rfl))
    refine wpAnyL_take (i := 9) (v := ?_) rfl (by kernel_rfl) (by kernel_rfl) (by kernel_rfl) (by kernel_rfl) (fun _ _ _ h => h) (Or.inl ⟨by rfl, ?_⟩) (by assumption) ?_
    rotate_left 1
    · (intro w hSw; go_simp; try (with_reducible rfl))
    refine wpAnyL_take (i := 10) (v := ?_) rfl (by kernel_rfl) (by kernel_rfl) (by kernel_rfl) (by kernel_rfl) (fun _ _ _ h => h) (Or.inl ⟨by rfl, ?_⟩) (by assumption) ?_
    rotate_left 1
    · (intro w hSw; go_simp; try (with_reducible rfl))
    refine wpAnyL_take (i := 11) (v := ?_) rfl (by kernel_rfl) (by kernel_rfl) (by kernel_rfl) (by kernel_rfl) (fun _ _ _ h => h) (Or.inl ⟨by rfl, ?_⟩) (by assumption) ?_
    rotate_left 1
    · (intro w hSw; go_simp; try (with_reducible rfl))
    refine wpAnyL_done (by kernel_rfl) ?_
    have hB17 := Nm.below_two hB14 bx17
    have b417 := Nm.below_two b414 bx17
    have o18 := own_below o14 bx17
    clear hH him hS hb17 bx17 o14 hto htk
    go_wp2_with fail
    refine (heR _ _ _ (CRow.of_owns o17) (c4.below b417)).mono ?_
    rintro e w18 ⟨rfl, b18⟩
    have hB18 := Nm.below_two hB17 b18
    have o19 := own_below o18 b18
    go_wp2_with fail
    refine (hhR _ _ (CRow.of_owns o19)).mono ?_
    rintro e w19 ⟨rfl, b19⟩
    go_wp2
    go_ret
    exact ⟨rfl, Nm.below_two hB18 b19⟩
  · go_wp2
    go_ret
    exact ⟨rfl, hB1⟩
end Go.Proofs.YtmclegfejkoaoaaDoor
