import Derived.Test.YtfficbpalibmoaaGreatDoorJMath
import Derived.Test.YtfficbpalibmoaaGreatDoorJVfW
import Derived.Test.YtfficbpalibmoaaGreatDoorJKyS
/- The law of Verify: its walk. -/
namespace Go.Proofs.YtfficbpalibmoaaGreatDoor
open Go.RowKit
set_option linter.unusedVariables false

theorem KL_tab {H : Type} : (Rows.laid_loop_example_s01858_impl_roundWords : DataW H) = Lib.tabData .u32 (KL.map fun n => ((n : Nat) : Int)) := rfl
theorem H0_tab {H : Type} : (Rows.laid_loop_example_s01858_impl_firstState : DataW H) = Lib.tabData .u32 [1779033703, 3144134277, 1013904242, 2773480762, 1359893119, 2600822924, 528734635, 1541459225] := rfl

theorem first_of {W : World} (hL : laidMet Tryz.prog Rows.fnExactVerifyRow.laid W) : ∃ t fr, W.heap[0]? = some (.cells (hvA H0) t fr) := by
  have h := tab_of_laid (g := 0) (t := 138) (e := 124) (n := 8) (k := .u32) (zs := [1779033703, 3144134277, 1013904242, 2773480762, 1359893119, 2600822924, 528734635, 1541459225]) hL (by exact List.Mem.head _) (by kernel_rfl) (by kernel_rfl) Tryz.underlying138 Tryz.underlying124 (by kernel_rfl) (by kernel_rfl)
  exact var_block (by kernel_rfl) h
theorem round_of {W : World} (hL : laidMet Tryz.prog Rows.fnExactVerifyRow.laid W) : KAt W 1 := by
  have h := tab_of_laid (g := 1) (t := 126) (e := 124) (n := 64) (k := .u32) (zs := KL.map fun n => ((n : Nat) : Int)) hL (by exact List.Mem.tail _ (List.Mem.head _)) (by kernel_rfl) (by kernel_rfl) Tryz.underlying126 Tryz.underlying124 (by kernel_rfl) (by kernel_rfl)
  obtain ⟨t, fr, hh⟩ := var_block (g := 1) (by kernel_rfl) h
  intro i hi
  rw [cell_of_row _ _ _ _ _ _ hh, List.map_map]
  exact KW_at hi

theorem own_kept {W W1 : World} {B B' e s e' s' m n : Nat} {v u : Value} {xs ys : List Value} (h : W.ownsRow B e s v m xs) (hu : W.ownsRow B' e' s' u n ys) (hlt : ∀ q, u.ownBlock = some q → q < B) (hg : W.grownBy W1 u.ownBlock) : W1.ownsRow B e s v m xs := by
  refine h.kept hg ?_
  cases hv : v.ownBlock with
  | none => exact .inl rfl
  | some k =>
    right
    intro e2
    have h1 := (h.lt k hv).1
    have h2 := hlt k e2.symm
    omega

theorem verL_len {l : List UInt8} {ks : List (ByteArray × ByteArray)} {now : Int} {rq : ByteArray} (hl : l.length ≤ 1048576) : (verL l ks now rq).body.length ≤ 1048576 := by
  rw [verL]
  cases hm : msgS l using Rs.elim with
  | bad c => simp [vd0]
  | ok m p =>
    simp only
    split
    · rw [verM]
      split
      · simp [vd0]
      · split
        · exact hl
        · rename_i r hx
          split
          · split
            · have hpos : 0 < m.ex.length := List.length_pos_of_mem (List.mem_of_getLast? hx)
              have hla := (last_le hm).2 hpos
              have h5 := (msgS_lens hm).2.2.2.2.1
              have hb := bdy_len (r := r) (N := m.ex.length) hla.2 hla.1
              rw [vdS]
              split <;> (simp only; omega)
            · simp [vd0]
          · exact hl
    · simp [vd0]

set_option maxRecDepth 100000 in
set_option maxHeartbeats 3200000 in
theorem fnExactVerify_walk (a0 : Option Addr) (len0 cap0 : Nat) (z0 : List Int) (vk : Value) (ks : List (ByteArray × ByteArray)) (rq : ByteArray) (now : Int) (w : World) (w0 : RowB w a0 len0 cap0 z0) (hk : CRow w vk ks.length 2 (kyVs ks)) (hkx : ∀ r ∈ ks, r.1.size ≤ maxLen ∧ r.2.size ≤ maxLen) (hL : laidMet Tryz.prog Rows.fnExactVerifyRow.laid w) :
    Calls Tryz.prog 3 #[.slice a0 len0 cap0, vk, .int .i64 now, .string rq] w fun e w' => e = .returned (.bool true) ∧ Below w.heap.size w w' := by
  obtain ⟨m, hlen, hrow⟩ := rowB w0
  have hF := first_of hL
  have hK := round_of hL
  have hsz := szKeyS_any vk ks 1048576 w hk hkx (by decide) (by decide)
  obtain ⟨ak, ck, rfl⟩ : ∃ a c, vk = .slice a ks.length c := by obtain ⟨_, a, c, e, _⟩ := hk; exact ⟨a, c, e⟩
  clear hL w0
  by_cases hl : 1048576 < len0
  · have hl' : (1048576 : Int) < (len0 : Int) := by omega
    clear hsz hk hkx hF hK hrow
    go_enter Tryz.func3, Tryz.ntmps3
    go_wp2
    go_ret
    exact ⟨rfl, Below.refl _ _⟩
  have hl' : ¬ (1048576 : Int) < (len0 : Int) := by omega
  by_cases hr : 1048576 < rq.size
  · have hr' : (1048576 : Int) < (rq.size : Int) := by omega
    clear hsz hk hkx hF hK hrow
    go_enter Tryz.func3, Tryz.ntmps3
    go_wp2
    go_ret
    exact ⟨rfl, Below.refl _ _⟩
  have hr' : ¬ (1048576 : Int) < (rq.size : Int) := by omega
  subst hlen
  by_cases hfit : ¬ (ks.length : Int) + (ksum ks : Int) ≤ 1048576
  · have e : szKS ks 1048576 = -1 := if_neg hfit
    rw [e] at hsz
    clear hk hkx hF hK hrow e hfit
    go_enter Tryz.func3, Tryz.ntmps3
    go_wp2_with fail
    refine hsz.mono ?_
    rintro e w1 ⟨rfl, b1⟩
    clear hsz
    go_wp2
    go_ret
    exact ⟨rfl, b1⟩
  have hfit : (ks.length : Int) + (ksum ks : Int) ≤ 1048576 := by omega
  obtain ⟨L, hLs⟩ : ∃ L : Nat, szKS ks 1048576 = (L : Int) := ⟨1048576 - ks.length - ksum ks, by rw [szKS, if_pos hfit]; omega⟩
  rw [hLs] at hsz
  have hks : ks.length ≤ 1048576 := by omega
  have hL0 : ¬ (L : Int) < 0 := by omega
  have hkx1 : ∀ x ∈ ks, x.1.size ≤ maxLen := fun x hx => (hkx x hx).1
  have hto := fun V W (h : BySl W V m) => toByteS_own V m W h (by omega)
  have htk := fun V W (h : CRow W V ks.length 2 (kyVs ks)) => toKeyS_any V ks W h hks
  have heq := fun V U W (h : BySl W V m) (h' : BySl W U m) => eqBy_any V U m W h h'
  have hek := fun V U W (h : CRow W V ks.length 2 (kyVs ks)) (h' : CRow W U ks.length 2 (kyVs ks)) => eqKeyS_any V U ks W h h'
  have hmx := fun V B W (h : W.ownsRow B 5 1 V m.length (Nm.bys m)) => markBy_any V m.length B _ W h (by omega)
  have hmk := fun V B W (h : W.ownsRow B 52 2 V ks.length (kyVs ks)) (hB : B ≤ W.heap.size) => markKeyS_any V ks.length B (1 + m.length) _ W h hB (by omega) (by omega)
  rw [show ((1 + m.length : Nat) : Int) = 1 + (m.length : Int) by omega] at hmk
  have hsp := fun V U W (h : BySl W V m) (h' : CRow W U ks.length 2 (kyVs ks)) => specVerify_any V U m ks now rq W h (by omega) h' hkx1
  have him := fun V U W (h : BySl W V m) (h' : CRow W U ks.length 2 (kyVs ks)) (hb : Below w.heap.size w W) => implVerify_any V U m ks now rq W h (by omega) h' hkx1 (by
      obtain ⟨t, fr, hh⟩ := hF
      exact ⟨t, fr, (hb.block _ (Array.getElem?_eq_some_iff.1 hh).1).trans hh⟩) (hK.below hb)
  have hvl := verL_len (l := m) (ks := ks) (now := now) (rq := rq) (by omega)
  generalize verL m ks now rq = V at *
  have heV := fun u u' W h h' => eqVerdict_any V u u' W h h'
  have hmV := fun u B xs W h => markVerdict_any V u B xs W h hvl
  have hhV := fun u W h => heldVerdict_any V u W h hvl
  unfold SPost at hsp
  unfold VPost at him
  obtain ⟨c, sg, ky, sm, bo⟩ := V
  simp only [vdC] at hsp him heV hmV hhV hvl
  generalize (⟨sm.toArray⟩ : ByteArray) = SM at *
  have HVL := Nm.hide hvl
  clear hF hK hkx hkx1 hfit hLs hvl hr
  go_enter Tryz.func3, Tryz.ntmps3
  go_wp2_with fail
  refine hsz.mono ?_
  rintro e w1 ⟨rfl, b1⟩
  clear hsz
  go_wp2_with fail
  refine (hto _ _ (hrow.below b1)).mono ?_
  rintro e w2 ⟨v2, rfl, o2, b2⟩
  have hB2 := Nm.below_two b1 b2
  clear b1
  go_wp2_with fail
  refine (htk _ _ (hk.below hB2)).mono ?_
  rintro e w3 ⟨k3, rfl, o3, b3⟩
  have hB3 := Nm.below_two hB2 b3
  have c2 := (CRow.of_owns o2).below b3
  clear hB2 b2 o2
  go_wp2_with fail
  refine (hsp _ _ _ c2 (CRow.of_owns o3)).mono ?_
  rintro e w4 ⟨⟨u4, rfl, c4⟩, b4⟩
  have hB4 := Nm.below_two hB3 b4
  clear hsp c2 o3 b4 b3 hB3
  obtain ⟨x4, y4, rfl⟩ : ∃ a c, u4 = .slice a bo.length c := by obtain ⟨_, a, c, e, _⟩ := c4; exact ⟨a, c, e⟩
  have k10 := blk_new w4 #[.int .i64 c, .bool sg, .int .i64 ky, .string SM, .slice x4 bo.length y4] 26
  have bA := (Below.refl w4.heap.size w4).alloc (Nat.le_refl _) (.cells #[.int .i64 c, .bool sg, .int .i64 ky, .string SM, .slice x4 bo.length y4] 26)
  have hB4a := Nm.below_two hB4 bA
  have c4a := c4.below bA
  have h4s := hB4a.size
  have HK10 := Nm.hide k10
  clear bA c4 hB4 k10
  go_wp2_with fail
  refine (hto _ _ (hrow.below hB4a)).mono ?_
  rintro e w5 ⟨v5, rfl, o5, b5⟩
  have hB5 := Nm.below_two hB4a b5
  go_wp2_with fail
  refine (htk _ _ (hk.below hB5)).mono ?_
  rintro e w6 ⟨k6, rfl, o6, b6⟩
  have hB6 := Nm.below_two hB5 b6
  have b46 := Nm.below_two b5 b6
  have x6 := own_below o5 b6
  have hlt5 : ∀ q, v5.ownBlock = some q → q < w5.heap.size := fun q hq => (o5.lt q hq).2
  have hlt6 : ∀ q, k6.ownBlock = some q → q < w6.heap.size := fun q hq => (o6.lt q hq).2
  have h5s := b5.size
  have h6s := b6.size
  clear o5 b6 b5 hB5 hB4a
  go_wp2_with fail
  refine (him _ _ _ (CRow.of_owns x6) (CRow.of_owns o6) hB6).mono ?_
  rintro e w7 ⟨⟨u7, rfl, o7⟩, b7⟩
  obtain ⟨x7, y7, rfl⟩ := own_sl o7
  have h7s := b7.size
  have k13 := blk_new w7 #[.int .i64 c, .bool sg, .int .i64 ky, .string SM, .slice x7 bo.length y7] 26
  have bA := (Below.refl w7.heap.size w7).alloc (Nat.le_refl _) (.cells #[.int .i64 c, .bool sg, .int .i64 ky, .string SM, .slice x7 bo.length y7] 26)
  have hB7 := Nm.below_two (Nm.below_two hB6 b7) bA
  have b47 := Nm.below_two (Nm.below_two b46 b7) bA
  have x7a := own_below (own_below x6 b7) bA
  have q7a := own_below (own_below o6 b7) bA
  have o7a := own_below o7 bA
  have r10 := fun i => blk_cell (blk_below HK10.out b47) i
  clear bA b7 o7 o6 x6 b46 hB6
  go_wp2_with fail
  refine (heV _ _ _ (CRow.of_owns o7a) (c4a.below b47)).mono ?_
  rintro e w8 ⟨rfl, b8⟩
  have hB8 := Nm.below_two hB7 b8
  have b48 := Nm.below_two b47 b8
  have x8 := own_below x7a b8
  have q8 := own_below q7a b8
  have o8 := own_below o7a b8
  have k8 := blk_below k13 b8
  clear hB7 b47 x7a q7a o7a k13 r10 b8
  go_wp2_with fail
  refine (hto _ _ (hrow.below hB8)).mono ?_
  rintro e w9 ⟨v9, rfl, o9, b9⟩
  go_wp2_with fail
  refine (heq _ _ _ (CRow.of_owns (own_below x8 b9)) (CRow.of_owns o9)).mono ?_
  rintro e w10 ⟨rfl, b10⟩
  have bb := Nm.below_two b9 b10
  have hB10 := Nm.below_two hB8 bb
  have b410 := Nm.below_two b48 bb
  have x10 := own_below x8 bb
  have q10 := own_below q8 bb
  have o10 := own_below o8 bb
  have k10 := blk_below k8 bb
  clear bb b9 b10 o9 hB8 b48 x8 q8 o8 k8
  go_wp2_with fail
  refine (htk _ _ (hk.below hB10)).mono ?_
  rintro e w11 ⟨k11, rfl, o11, b11⟩
  go_wp2_with fail
  refine (hek _ _ _ (CRow.of_owns (own_below q10 b11)) (CRow.of_owns o11)).mono ?_
  rintro e w12 ⟨rfl, b12⟩
  have bb := Nm.below_two b11 b12
  have hB12 := Nm.below_two hB10 bb
  have b412 := Nm.below_two b410 bb
  have x12 := own_below x10 bb
  have q12 := own_below q10 bb
  have o12 := own_below o10 bb
  have k12 := blk_below k10 bb
  clear bb b11 b12 o11 hB10 b410 x10 q10 o10 k10
  go_wp2_with fail
  refine (hmx _ _ _ x12).mono ?_
  rintro e w13 ⟨rfl, x13, g13⟩
  have o13 := own_kept o12 x12 (fun q hq => Nat.lt_of_lt_of_le (hlt5 q hq) h6s) g13
  have q13 := own_kept q12 x12 hlt5 g13
  have k13 := blk_grown k12 g13 (fun e => by have := hlt5 _ e; omega)
  have b413 := b412.grown g13 b412.size (fun q hq => (x12.lt q hq).1)
  have hB13 := hB12.grown g13 hB12.size (fun q hq => by have h1 := (x12.lt q hq).1; omega)
  clear o12 q12 k12 b412 hB12 x12 x13 g13
  have hs13 := b413.size
  go_wp2_with fail
  refine (hmk _ _ _ q13 (by have := (o13.lt); have := blk_lt k13; omega)).mono ?_
  rintro e w14 ⟨rfl, q14, g14⟩
  have o14 := own_kept o13 q13 hlt6 g14
  have k14 := blk_grown k13 g14 (fun e => by have := hlt6 _ e; omega)
  have b414 := b413.grown g14 b413.size (fun q hq => by have h1 := (q13.lt q hq).1; omega)
  have hB14 := hB13.grown g14 hB13.size (fun q hq => by have h1 := (q13.lt q hq).1; omega)
  have n14 : ¬ (((1 + m.length + ks.length * 2 : Nat) : Int)) < 0 := by omega
  have n14b : ¬ (1 + (m.length : Int) + (ks.length : Int) * 2) < 0 := by omega
  have r10 := fun i => blk_cell (blk_below HK10.out b414) i
  have r13 := fun i => blk_cell k14 i
  clear o13 q13 k13 b413 hB13 q14 g14
  go_wp2_with fail
  refine (heV _ _ _ (CRow.of_owns o14) (c4a.below b414)).mono ?_
  rintro e w15 ⟨rfl, b15⟩
  have hB15 := Nm.below_two hB14 b15
  have b415 := Nm.below_two b414 b15
  have o15 := own_below o14 b15
  have k15 := blk_below k14 b15
  clear r10 r13
  have r13 := fun i => blk_cell k15 i
  clear hB14 b414 o14 k14 b15 n14 n14b
  go_wp2_with fail
  refine (hmV _ _ _ _ o15).mono ?_
  rintro e w16 ⟨rfl, o16, g16⟩
  have k16 := blk_grown k15 g16 (own_notblk o15 k15 (by decide))
  have b416 := b415.grown g16 b415.size (fun q hq => by have h1 := (o15.lt q hq).1; omega)
  have hB16 := hB15.grown g16 hB15.size (fun q hq => by have h1 := (o15.lt q hq).1; omega)
  clear r13
  have r13 := fun i => blk_cell k16 i
  clear o15 k15 b415 hB15 g16
  go_wp2_with fail
  refine (hhV _ _ (CRow.of_owns o16)).mono ?_
  rintro e w17 ⟨rfl, b17⟩
  have hB17 := Nm.below_two hB16 b17
  have b417 := Nm.below_two b416 b17
  have o17 := own_below o16 b17
  have k17 := blk_below k16 b17
  have nq : ¬ (1 + (bo.length : Int)) < 0 := by omega
  have nq2 : ((1 + (bo.length : Int)) != (1 + (bo.length : Int))) = false := by simp
  clear r13 o16 k16 b416 hB16 b17
  go_wp2_with fail
  refine (hto _ _ (hrow.below hB17)).mono ?_
  rintro e w18 ⟨v18, rfl, o18, b18⟩
  go_wp2_with fail
  refine (htk _ _ (hk.below (Nm.below_two hB17 b18))).mono ?_
  rintro e w19 ⟨k19, rfl, o19, b19⟩
  have bb := Nm.below_two b18 b19
  have hB19 := Nm.below_two hB17 bb
  go_wp2_with fail
  refine (him _ _ _ (CRow.of_owns (own_below o18 b19)) (CRow.of_owns o19) hB19).mono ?_
  rintro e w20 ⟨⟨u20, rfl, o20⟩, b20⟩
  obtain ⟨x20, y20, rfl⟩ := own_sl o20
  have bA := (Below.refl w20.heap.size w20).alloc (Nat.le_refl _) (.cells #[.int .i64 c, .bool sg, .int .i64 ky, .string SM, .slice x20 bo.length y20] 26)
  have bb2 := Nm.below_two (Nm.below_two bb b20) bA
  have hB20 := Nm.below_two hB17 bb2
  have b420 := Nm.below_two b417 bb2
  have o21 := own_below o17 bb2
  have k21 := blk_below k17 bb2
  have u21 := own_below o20 bA
  have r10 := fun i => blk_cell (blk_below HK10.out b420) i
  clear bA bb bb2 b20 b18 b19 o18 o19 o20 hB19 hB17 b417 o17 k17 hto htk him
  go_wp2_with fail
  refine (heV _ _ _ (CRow.of_owns u21) (c4a.below b420)).mono ?_
  rintro e w21 ⟨rfl, b21⟩
  have hB21 := Nm.below_two hB20 b21
  have o22 := own_below o21 b21
  have k22 := blk_below k21 b21
  clear r10
  have r13 := fun i => blk_cell k22 i
  clear o21 k21 b21 hB20 b420 u21
  go_wp2_with fail
  refine (hhV _ _ (CRow.of_owns o22)).mono ?_
  rintro e w22 ⟨rfl, b22⟩
  have hB22 := Nm.below_two hB21 b22
  clear r13 o22 k22 b22 hB21
  go_wp2
  go_ret
  exact ⟨rfl, hB22⟩
end Go.Proofs.YtfficbpalibmoaaGreatDoor
