import Derived.Test.YtnpegoclghfmpaaGreatJCzX
import Derived.Test.YtnpegoclghfmpaaGreatJCzO
import Derived.Test.YtnpegoclghfmpaaGreatJZnE
import Derived.Test.YtnpegoclghfmpaaGreatJZrS
/- The law of FindNode: its walk. -/
namespace Go.Proofs.YtnpegoclghfmpaaGreat
open Go.RowKit
set_option linter.unusedVariables false

theorem ndR_ty (ps : List Zp) (o name : ByteArray) : (ndR ps o name).1.ty.length ≤ 500 := by
  rw [ndR]
  split
  · next hz =>
    have h2 : ¬ (500 < ps.length ∨ 500 < dsum ps) := fun hc => by rw [zOK_big hc] at hz; cases hz.1
    rw [ndZ]
    split
    · have h1 := typZ_len (ps.map (·.1)) name
      rw [List.length_map] at h1
      simp only
      omega
    · simp [nd0]
  · simp [nd0]
theorem ndR_same {ps qs : List Zp} (h : qs.map (·.1) = ps.map (·.1)) (o name : ByteArray) : ndR qs o name = ndR ps o name := by
  have e : thZ qs o = thZ ps o := by
    funext x
    have hany : ∀ l : List Zp, (l.any fun p => isUnderS p.1.own x) = (l.map (·.1)).any fun s => isUnderS s.own x := fun l => by rw [List.any_map]; rfl
    rw [thZ, thZ, hany, hany, h]
  rw [ndR, ndR, zOK_same h, ndZ, ndZ, h, e]
theorem fs_grown {W W1 : World} {B e s m : Nat} {v u : Value} {xs : List Value} (h : W.ownsRow B e s v m xs) (hg : W.grownBy W1 u.ownBlock) (ha : ∀ g, u.ownBlock = some g → v.ownBlock ≠ some g) : W1.ownsRow B e s v m xs := by
  refine h.kept hg ?_
  cases hu : u.ownBlock with
  | none =>
    cases hv : v.ownBlock with
    | none => exact .inl rfl
    | some k => right; simp
  | some k => right; exact ha k hu

set_option maxRecDepth 100000 in
set_option maxHeartbeats 6400000 in
theorem fnExactFindNode_walk (o name : ByteArray) (v : Value) (ps : List Zp) (w : World) (h : ZRow w v ps) (hx : ZFit ps) (ho : o.size ≤ maxLen) (hn : name.size ≤ maxLen) :
    Calls Tryz.prog 6 #[.agg #[.string o, v], .string name] w fun e w' => e = .returned (.bool true) ∧ Below w.heap.size w w' := by
  have hBa := (Below.refl w.heap.size w).alloc (Nat.le_refl _) (.cells #[.string o, v] 24)
  have hz0 := blk_new w #[.string o, v] 24
  have Z0 := h.below hBa
  have hsz := szZone_any o v ps 1048576 _ Z0 hx ho (by decide) (by decide)
  obtain ⟨a, cap, hva⟩ : ∃ a c, v = .slice a ps.length c := by obtain ⟨⟨_, a, c, e, _⟩, _⟩ := h; exact ⟨a, c, e⟩
  subst hva
  by_cases hna : 1048576 < name.size
  · have i1 : (1048576 : Int) < (name.size : Int) := by omega
    clear hsz Z0 hx h hz0
    unfold maxLen at hn ho
    go_enter Tryz.func6, Tryz.ntmps6
    go_wp2
    go_ret
    exact ⟨rfl, hBa⟩
  have i1 : ¬ (1048576 : Int) < (name.size : Int) := by omega
  by_cases hb : (o.size : Int) + ps.length + (zsum ps : Int) ≤ 1048576
  · have e1 : szZ o ps 1048576 = 1048576 - o.size - ps.length - zsum ps := if_pos hb
    rw [e1] at hsz
    have hzs : zsum ps ≤ 1048576 := by omega
    have hpl : ps.length ≤ 1048576 := by omega
    have hol : o.size ≤ 1048576 := by omega
    have hfit := cz_fits hzs
    have hnn : 0 ≤ 1048576 - (o.size : Int) - (ps.length : Int) - (zsum ps : Int) := by omega
    generalize (1048576 - (o.size : Int) - (ps.length : Int) - (zsum ps : Int)) = L at *
    clear hb hx e1
    -- what each call does
    have hto : ∀ W, Below w.heap.size w W → Calls Tryz.prog 9 #[.agg #[.string o, .slice a ps.length cap]] W fun e w' => ∃ u qs, e = .returned (.agg #[.string o, u]) ∧ qs.map (·.1) = ps.map (·.1) ∧ OZ w' W.heap.size u qs ∧ Below W.heap.size W w' := fun W hW => toZone_any o _ ps W (h.below hW) hpl (fun p hp => (hfit p hp).2.1)
    have hfq : ∀ qs : List Zp, qs.map (·.1) = ps.map (·.1) → ∀ q ∈ qs, q.1.own.size ≤ 1048576 ∧ q.1.da.length ≤ 1048576 ∧ ∀ x ∈ q.1.da, x.size ≤ 1048576 := fun qs hq => cz_mem hq (P := fun s => s.own.size ≤ 1048576 ∧ s.da.length ≤ 1048576 ∧ ∀ x ∈ s.da, x.size ≤ 1048576) hfit
    have hsp : ∀ (u : Value) (qs : List Zp) (W : World), qs.map (·.1) = ps.map (·.1) → ZRow W u qs → Calls Tryz.prog 23 #[.agg #[.string o, u], .string name] W (NdP (ndR ps o name) W) := by
      intro u qs W hq hz
      have hl : qs.length = ps.length := by have := congrArg List.length hq; simpa using this
      have := specFindNode_any o name u qs W hz (by rw [zsum_same hq]; exact hzs) (by omega) (fun q hq' => ⟨(hfq qs hq q hq').1, (hfq qs hq q hq').2.2⟩) ho hn
      rwa [ndR_same hq] at this
    have him : ∀ (u : Value) (qs : List Zp) (W : World), qs.map (·.1) = ps.map (·.1) → ZRow W u qs → Calls Tryz.prog 24 #[.agg #[.string o, u], .string name] W (NdP (ndR ps o name) W) := by
      intro u qs W hq hz
      have := implFindNode_any o name u qs W hz (by rw [zsum_same hq]; exact hzs) (fun q hq' => ⟨(hfq qs hq q hq').1, (hfq qs hq q hq').2.2⟩) (by omega) (by omega)
      rwa [ndR_same hq] at this
    have hez : ∀ (u u' : Value) (qs rs : List Zp) (W : World), qs.map (·.1) = ps.map (·.1) → rs.map (·.1) = ps.map (·.1) → ZRow W u qs → ZRow W u' rs → Calls Tryz.prog 11 #[.agg #[.string o, u], .agg #[.string o, u']] W fun e w' => e = .returned (.bool true) ∧ Below W.heap.size W w' := fun u u' qs rs W h1 h2 h3 h4 => eqZone_any o u u' qs rs W h3 h4 (h1.trans h2.symm) (cz_mem h1 (P := fun s => s.da.length ≤ 1000000000) (fun p hp => by have := (hfit p hp).2.1; omega))
    have hmz : ∀ (u : Value) (qs : List Zp) (B C : Nat) (W : World), qs.map (·.1) = ps.map (·.1) → OZ W B u qs → (∀ g, u.ownBlock = some g → g < C) → (∀ q ∈ qs, ∀ g, q.2.ownBlock = some g → g < C) → Calls Tryz.prog 15 #[.agg #[.string o, u], .int .i64 1] W fun e w' => ∃ k : Nat, e = .returned (.int .i64 (k : Int)) ∧ Mj B C W w' := by
      intro u qs B C W hq h1 h2 h3
      have hl : qs.length = ps.length := by have := congrArg List.length hq; simpa using this
      refine (markZone_mk o u qs B C 1 W h1 h2 h3 (by have := zl_le qs; rw [zsum_same hq] at this; omega) (by decide)).mono ?_
      rintro e w' ⟨rfl, hm⟩
      exact ⟨_, rfl, hm⟩
    have hda := ndR_ty ps o name
    have heq := fun (r r' : Value) (W : World) h1 h2 => eqNode_any (ndR ps o name).1.kd (ndR ps o name).1.clo (ndR ps o name).1.cut (ndR ps o name).1.ty r r' W h1 h2 (by omega)
    have hFs : ∀ (R : Nd × Int) (W : World), NdP R W = fun e w' => ∃ u, e = .returned (.tuple #[.agg #[.int .i64 R.1.kd, .string R.1.clo, .string R.1.cut, u], .int .i64 R.2]) ∧ w'.ownsRow W.heap.size 2 1 u R.1.ty.length (intCells R.1.ty) ∧ Below W.heap.size W w' := fun _ _ => rfl
    simp only [hFs] at hsp him
    clear hFs
    generalize (ndR ps o name).2 = RB at *
    generalize (ndR ps o name).1 = Z at *
    obtain ⟨zx, zy, zt, ds⟩ := Z
    simp only at hsp him heq hda
    have hRn : (RB != RB) = false := by simp
    obtain ⟨N, hN⟩ : ∃ N : Int, N = ((1 + ds.length : Nat) : Int) := ⟨_, rfl⟩
    have hN0 : 0 ≤ N := by omega
    have hNn : (N != N) = false := by simp
    have hmr := fun (r : Value) (B : Nat) (W : World) (h1 : W.ownsRow B 2 1 r ds.length (intCells ds)) => markNode_own zx zy zt r ds.length B 1 _ W h1 (by omega) (by decide)
    have hhr := fun (r : Value) (W : World) hc => heldNode_any zx zy zt r ds.length 1 W hc (by omega) (by decide)
    rw [← hN] at hmr hhr
    have HS : Hid (∀ {W : World} {B : Nat} {r : Value}, W.ownsRow B 2 1 r ds.length (intCells ds) → CRow W r ds.length 1 (intCells ds)) := fun h => CRow.of_owns h
    have HM : Hid (∀ {W : World} {B : Nat} {r : Value}, W.ownsRow B 2 1 r ds.length (ints 1 ds.length) → CRow W r ds.length 1 (ints 1 ds.length)) := fun h => CRow.of_owns h
    clear hfit hzs hpl hN hfq ho hna
    unfold maxLen at hn
    go_enter Tryz.func6, Tryz.ntmps6
    go_wp2_with fail
    refine hsz.mono ?_
    rintro e w1 ⟨rfl, hb1⟩
    have z1 := blk_below hz0 hb1
    have b1 := Nm.below_two hBa hb1
    have q0 := (blk_cell z1 0).trans rfl
    have q1 := (blk_cell z1 1).trans rfl
    clear hsz hz0 hb1 Z0
    go_wp2_with fail
    refine (hto _ b1).mono ?_
    rintro e w2 ⟨u2, qs2, rfl, hq2, hoz2, hb2⟩
    have z2 := blk_below z1 hb2
    have b2 := Nm.below_two b1 hb2
    clear q0 q1 z1
    go_wp2_with fail
    refine (hsp u2 qs2 _ hq2 hoz2.read).mono ?_
    rintro e w3 ⟨r3, rfl, ho3, hb3⟩
    obtain ⟨ra3, rc3, hr3⟩ := own_sl ho3
    subst hr3
    have hbS := (Below.refl w3.heap.size w3).alloc (Nat.le_refl _) (.cells #[.int .i64 zx, .string zy, .string zt, .slice ra3 ds.length rc3] 48)
    have y3 := blk_new w3 #[.int .i64 zx, .string zy, .string zt, .slice ra3 ds.length rc3] 48
    have z3 := blk_below (blk_below z2 hb3) hbS
    have b3 := Nm.below_two (Nm.below_two b2 hb3) hbS
    have ho3S := own_below ho3 hbS
    have q0 := (blk_cell z3 0).trans rfl
    have q1 := (blk_cell z3 1).trans rfl
    have hlt3 : w.heap.size < w3.heap.size := Nat.lt_of_lt_of_le (blk_lt z2) hb3.size
    clear z2 hsp hoz2
    go_wp2_with fail
    refine (hto _ b3).mono ?_
    rintro e w4 ⟨u4, qs4, rfl, hq4, hoz4, hb4⟩
    obtain ⟨ua4, uc4, hu4⟩ := own_sl hoz4.1
    subst hu4
    have hszS : (w3.alloc (.cells #[.int .i64 zx, .string zy, .string zt, .slice ra3 ds.length rc3] 48)).heap.size = w3.heap.size + 1 := by simp
    have z4 := blk_below z3 hb4
    have y4 := blk_below y3 hb4
    have b4 := Nm.below_two b3 hb4
    have ho34 := own_below ho3S hb4
    have hs4 := hb4.size
    rw [hszS] at hoz4 hs4
    obtain ⟨hC4, hD4⟩ := hoz4.lt
    have hl3 : ∀ g, (Value.slice ra3 ds.length rc3).ownBlock = some g → g < w3.heap.size := fun g hg => (ho3.lt g hg).2
    have hbA := (Below.refl w4.heap.size w4).alloc (Nat.le_refl _) (.cells #[.string o, .slice ua4 qs4.length uc4] 29)
    have x4 := blk_new w4 #[.string o, .slice ua4 qs4.length uc4] 29
    have hszA : (w4.alloc (.cells #[.string o, .slice ua4 qs4.length uc4] 29)).heap.size = w4.heap.size + 1 := by simp
    have hozA := hoz4.below hbA
    have HLT := Nm.hide (And.intro hlt3 hs4)
    clear q0 q1 z3 y3 ho3 ho3S hszS hs4 hlt3
    go_wp2_with fail
    refine (him _ qs4 _ hq4 hozA.read).mono ?_
    rintro e w5 ⟨r5, rfl, ho5, hb5⟩
    obtain ⟨ra5, rc5, hr5⟩ := own_sl ho5
    subst hr5
    have hs5 := hb5.size
    rw [hszA] at ho5 hs5
    have HL5 := Nm.hide hs5
    have hbA5 := Nm.below_two hbA hb5
    have hbG := (Below.refl w5.heap.size w5).alloc (Nat.le_refl _) (.cells #[.int .i64 zx, .string zy, .string zt, .slice ra5 ds.length rc5] 48)
    have hbA6 := Nm.below_two hbA5 hbG
    have v6 := blk_new w5 #[.int .i64 zx, .string zy, .string zt, .slice ra5 ds.length rc5] 48
    have z6 := blk_below z4 hbA6
    have y6 := blk_below y4 hbA6
    have x6 := blk_below (blk_below x4 hb5) hbG
    have b6 := Nm.below_two b4 hbA6
    have hoz6 := hoz4.below hbA6
    have ho36 := own_below ho34 hbA6
    have ho56 := own_below ho5 hbG
    have hl5 : ∀ g, (Value.slice ra5 ds.length rc5).ownBlock = some g → w4.heap.size + 1 ≤ g := fun g hg => (ho5.lt g hg).1
    have ry := fun i => blk_cell y6 i
    have rv := fun i => blk_cell v6 i
    clear z4 y4 x4 hozA hoz4 ho34 ho5 hbA hbA5 hbA6 hb5 hszA hs5
    go_wp2_with fail
    refine (heq _ _ _ (HS.out ho56) (HS.out ho36)).mono ?_
    rintro e w7 ⟨rfl, hb7⟩
    have z7 := blk_below z6 hb7
    have y7 := blk_below y6 hb7
    have x7 := blk_below x6 hb7
    have v7 := blk_below v6 hb7
    have b7 := Nm.below_two b6 hb7
    have hoz7 := hoz6.below hb7
    have ho37 := own_below ho36 hb7
    have ho57 := own_below ho56 hb7
    clear z6 y6 x6 v6 b6 hoz6 ho36 ho56 hb7 hbG ry rv
    have hS : ∀ W, Below w7.heap.size w7 W → ((W.cell? ⟨w.heap.size, 0, none⟩ = some (.string o) ∧ W.cell? ⟨w.heap.size, 1, none⟩ = some (.slice a ps.length cap)) ∧ (W.cell? ⟨w4.heap.size, 0, none⟩ = some (.string o) ∧ W.cell? ⟨w4.heap.size, 1, none⟩ = some (.slice ua4 qs4.length uc4))) ∧ Below w7.heap.size w7 W := by
      intro W hW
      have y1 := blk_below z7 hW
      have y2 := blk_below x7 hW
      exact ⟨⟨⟨(blk_cell y1 0).trans rfl, (blk_cell y1 1).trans rfl⟩, (blk_cell y2 0).trans rfl, (blk_cell y2 1).trans rfl⟩, hW⟩
    have hS0 := hS w7.drew (Below.refl _ _).drew
    go_wp2
    go_region_held3 (fun W => ((W.cell? ⟨w.heap.size, 0, none⟩ = some (.string o) ∧ W.cell? ⟨w.heap.size, 1, none⟩ = some (.slice a ps.length cap)) ∧ (W.cell? ⟨w4.heap.size, 0, none⟩ = some (.string o) ∧ W.cell? ⟨w4.heap.size, 1, none⟩ = some (.slice ua4 qs4.length uc4))) ∧ Below w7.heap.size w7 W) (first | with_reducible assumption | with_reducible exact hS0) ((first | (go_at_call 9; refine (hto _ (Nm.below_two b7 hS0.2)).mono ?_; rintro e w8 ⟨u8, qs8, rfl, hq8, hoz8, hb8⟩; have hb78 : Below w7.heap.size w7 w8 := Nm.below_two (Below.refl _ _).drew hb8; have hS8 := hS _ hb78) | (go_at_call 11; refine (hez _ _ qs4 qs8 _ hq4 hq8 (hoz7.below hb78).read hoz8.read).mono ?_; rintro e w9 ⟨rfl, hb9⟩; have hb79 := Nm.below_two hb78 hb9; have hS9 := hS _ hb79)))
    have z9 := blk_below z7 hb79
    have y9 := blk_below y7 hb79
    have x9 := blk_below x7 hb79
    have v9 := blk_below v7 hb79
    have b9 := Nm.below_two b7 hb79
    have hoz9 := hoz7.below hb79
    have ho39 := own_below ho37 hb79
    have ho59 := own_below ho57 hb79
    have q0 := (blk_cell x9 0).trans rfl
    have q1 := (blk_cell x9 1).trans rfl
    clear hS hS0 hS9 z7 y7 x7 v7 hoz7 ho37 ho57 hez b7
    go_wp2_with fail
    refine (hmz _ qs4 (w3.heap.size + 1) w4.heap.size _ hq4 hoz9 hC4 hD4).mono ?_
    rintro e w10 ⟨k10, rfl, hm10⟩
    have hk10 : (0 : Int) ≤ (k10 : Int) := by omega
    have z10 : Blk w10 w.heap.size #[.string o, .slice a ps.length cap] 24 := (hm10.block _ (blk_lt z9) (.inl (by have := HLT.out.1; omega))).trans z9
    have y10 : Blk w10 w3.heap.size #[.int .i64 zx, .string zy, .string zt, .slice ra3 ds.length rc3] 48 := (hm10.block _ (blk_lt y9) (.inl (by omega))).trans y9
    have v10 : Blk w10 w5.heap.size #[.int .i64 zx, .string zy, .string zt, .slice ra5 ds.length rc5] 48 := (hm10.block _ (blk_lt v9) (.inr (by have := HL5.out; omega))).trans v9
    have ho310 := own_mj ho39 (fun g hg => .inl (by have := hl3 g hg; omega)) hm10
    have ho510 := own_mj ho59 (fun g hg => .inr (by have := hl5 g hg; omega)) hm10
    have b10 : Below w.heap.size w w10 := b9.trans (hm10.down (by have := HLT.out.1; omega) b9.size)
    have ry := fun i => blk_cell y10 i
    have rv := fun i => blk_cell v10 i
    clear q0 q1 z9 y9 x9 v9 hoz9 ho39 ho59 hmz hm10 b9
    go_wp2_with fail
    refine (heq _ _ _ (HS.out ho510) (HS.out ho310)).mono ?_
    rintro e w11 ⟨rfl, hb11⟩
    have z11 := blk_below z10 hb11
    have y11 := blk_below y10 hb11
    have v11 := blk_below v10 hb11
    have ho311 := own_below ho310 hb11
    have ho511 := own_below ho510 hb11
    have b11 := Nm.below_two b10 hb11
    clear z10 y10 v10 ho310 ho510 b10 ry rv
    have rv := fun i => blk_cell v11 i
    go_wp2_with fail
    refine (hmr _ _ _ ho511).mono ?_
    rintro e w12 ⟨rfl, ho12, wm, hbm, hg12⟩
    have hom := own_below ho511 hbm
    have z12 := blk_grown (blk_below z11 hbm) hg12 (own_nb hom (blk_below z11 hbm) (by decide))
    have y12 := blk_grown (blk_below y11 hbm) hg12 (own_nb hom (blk_below y11 hbm) (by decide))
    have v12 := blk_grown (blk_below v11 hbm) hg12 (own_nb hom (blk_below v11 hbm) (by decide))
    have ho312 := fs_grown (own_below ho311 hbm) hg12 (fun g hg hg' => by have h1 := hl5 g hg; have h2 := hl3 g hg'; have h3 := HLT.out.2; omega)
    have b12 : Below w.heap.size w w12 := (Nm.below_two b11 hbm).grown hg12 (Nm.below_two b11 hbm).size (fun g hg => by have := hl5 g hg; have h3 := HLT.out; omega)
    clear z11 y11 v11 ho311 ho511 b11 hom hbm hg12 hmr rv hb11
    have rv := fun i => blk_cell v12 i
    go_wp2_with fail
    refine (hhr _ _ (HM.out ho12)).mono ?_
    rintro e w13 ⟨rfl, hb13⟩
    have z13 := blk_below z12 hb13
    have y13 := blk_below y12 hb13
    have v13 := blk_below v12 hb13
    have ho313 := own_below ho312 hb13
    have ho513 := own_below ho12 hb13
    have b13 := Nm.below_two b12 hb13
    have q0 := (blk_cell z13 0).trans rfl
    have q1 := (blk_cell z13 1).trans rfl
    clear z12 y12 v12 ho312 ho12 b12 rv hb13
    go_wp2_with fail
    refine (hto _ b13).mono ?_
    rintro e w14 ⟨u14, qs14, rfl, hq14, hoz14, hb14⟩
    go_wp2_with fail
    refine (him _ qs14 _ hq14 hoz14.read).mono ?_
    rintro e w15 ⟨r15, rfl, ho15, hb15⟩
    obtain ⟨ra15, rc15, hr15⟩ := own_sl ho15
    subst hr15
    have hbH := (Below.refl w15.heap.size w15).alloc (Nat.le_refl _) (.cells #[.int .i64 zx, .string zy, .string zt, .slice ra15 ds.length rc15] 48)
    have k16 := blk_new w15 #[.int .i64 zx, .string zy, .string zt, .slice ra15 ds.length rc15] 48
    have hb16 := Nm.below_two (Nm.below_two hb14 hb15) hbH
    have y16 := blk_below y13 hb16
    have v16 := blk_below v13 hb16
    have ho316 := own_below ho313 hb16
    have ho516 := own_below ho513 hb16
    have b16 := Nm.below_two b13 hb16
    have ho16 := own_below ho15 hbH
    have rk := fun i => blk_cell k16 i
    have ry := fun i => blk_cell y16 i
    clear q0 q1 z13 y13 v13 ho313 ho513 ho15 hb14 hb15 hbH hb16 hoz14 hto him
    go_wp2_with fail
    refine (heq _ _ _ (HS.out ho16) (HS.out ho316)).mono ?_
    rintro e w17 ⟨rfl, hb17⟩
    have v17 := blk_below v16 hb17
    have ho517 := own_below ho516 hb17
    clear rk ry
    have rv := fun i => blk_cell v17 i
    go_wp2_with fail
    refine (hhr _ _ (HM.out ho517)).mono ?_
    rintro e w18 ⟨rfl, hb18⟩
    have b18 := Nm.below_two (Nm.below_two b16 hb17) hb18
    go_wp2
    go_ret
    exact ⟨rfl, b18⟩
  · have e1 : szZ o ps 1048576 = -1 := if_neg hb
    rw [e1] at hsz
    clear hb e1 hx Z0
    unfold maxLen at hn
    go_enter Tryz.func6, Tryz.ntmps6
    go_wp2_with fail
    refine hsz.mono ?_
    rintro e w1 ⟨rfl, b1⟩
    go_wp2
    go_ret
    exact ⟨rfl, Nm.below_two hBa b1⟩
end Go.Proofs.YtnpegoclghfmpaaGreat
