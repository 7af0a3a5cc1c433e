/- The law of ZoneRecords: its walk. -/
import Derived.Test.YtghapfpapjgbjaaZnS
import Derived.Test.YtghapfpapjgbjaaZnE
import Derived.Test.YtghapfpapjgbjaaZnK
import Derived.Test.YtghapfpapjgbjaaZrT
import Derived.Test.YtghapfpapjgbjaaZrJ
import Derived.Test.YtghapfpapjgbjaaEqV
import Derived.Test.YtghapfpapjgbjaaMkR
namespace Go.Proofs.Ytghapfpapjgbjaa
open Go.RowKit
set_option linter.unusedVariables false

theorem ssum_mem {ls : List ByteArray} {x : ByteArray} (h : x ∈ ls) : x.size ≤ ssum ls := by
  induction ls with
  | nil => simp at h
  | cons y ls ih =>
    rcases List.mem_cons.1 h with rfl | h
    · simp only [ssum]; omega
    · have := ih h; simp only [ssum]; omega

theorem zone_fits {ps : List Zp} (h : zsum ps ≤ 1048576) : ∀ p ∈ ps, p.1.da.length ≤ 1048576 ∧ ∀ x ∈ p.1.da, x.size ≤ 1048576 := by
  intro p hp
  have h1 := zsum_mem ps p hp
  unfold zs1 at h1
  exact ⟨by omega, fun x hx => by have := ssum_mem hx; omega⟩

theorem mem_same {ps qs : List Zp} (h : qs.map (·.1) = ps.map (·.1)) {P : Sz → Prop} (hp : ∀ p ∈ ps, P p.1) : ∀ q ∈ qs, P q.1 := by
  intro q hq
  have : q.1 ∈ qs.map (·.1) := List.mem_map.2 ⟨q, hq, rfl⟩
  rw [h] at this
  obtain ⟨p, hp1, hp2⟩ := List.mem_map.1 this
  rw [← hp2]
  exact hp p hp1

theorem own_grown {W W1 : World} {B e s m : Nat} {v u : Value} {xs : List Value} (h : W.ownsRow B e s v m xs) (hg : W.grownBy W1 u.ownBlock) (ha : ∀ g, u.ownBlock = some g → v.ownBlock ≠ some g) : W1.ownsRow B e s v m xs := by
  refine h.kept hg ?_
  cases hu : u.ownBlock with
  | none =>
    cases hv : v.ownBlock with
    | none => exact .inl rfl
    | some k => right; simp
  | some k => right; exact ha k hu

theorem zoneRecs_len (ps : List Zp) : (zoneRecs ps).length ≤ 500 := by
  unfold zoneRecs
  split
  · simp
  · rw [recsAll_len]; omega

set_option maxRecDepth 100000 in
set_option maxHeartbeats 6400000 in
theorem fnExactZoneRecords_walk (o : ByteArray) (v : Value) (ps : List Zp) (w : World) (h : ZRow w v ps) (hx : ZFit ps) (ho : o.size ≤ maxLen) :
    Calls Try.prog 3 #[.agg #[.string o, v]] w fun e w' => e = .returned (.bool true) ∧ Below w.heap.size w w' := by
  have hBa := (Below.refl w.heap.size w).alloc (Nat.le_refl _) (.cells #[.string o, v] 24)
  have hz0 := blk_new w #[.string o, v] 24
  have hsza : (w.alloc (.cells #[.string o, v] 24)).heap.size = w.heap.size + 1 := by simp
  have Z0 := h.below hBa
  have hsz := szZone_any o v ps 1048576 _ Z0 hx ho (by decide) (by decide)
  obtain ⟨a, cap, hva⟩ : ∃ a c, v = .slice a ps.length c := by obtain ⟨⟨_, a, c, e, _⟩, _⟩ := h; exact ⟨a, c, e⟩
  subst hva
  by_cases hb : (o.size : Int) + ps.length + (zsum ps : Int) ≤ 1048576
  · have e1 : szZ o ps 1048576 = 1048576 - o.size - ps.length - zsum ps := if_pos hb
    rw [e1] at hsz
    have hzs : zsum ps ≤ 1048576 := by omega
    have hpl : ps.length ≤ 1048576 := by omega
    have hfit := zone_fits hzs
    have hrl := zoneRecs_len ps
    have hnn : 0 ≤ 1048576 - (o.size : Int) - (ps.length : Int) - (zsum ps : Int) := by omega
    generalize (1048576 - (o.size : Int) - (ps.length : Int) - (zsum ps : Int)) = L at *
    clear hb hx ho e1
    -- what each call does
    have hto : ∀ W, Below w.heap.size w W → Calls Try.prog 6 #[.agg #[.string o, .slice a ps.length cap]] W fun e w' => ∃ u qs, e = .returned (.agg #[.string o, u]) ∧ qs.map (·.1) = ps.map (·.1) ∧ OZ w' W.heap.size u qs ∧ Below W.heap.size W w' := fun W hW => toZone_any o _ ps W (h.below hW) hpl (fun p hp => (hfit p hp).1)
    have hsp : ∀ (u : Value) (qs : List Zp) (W : World), qs.map (·.1) = ps.map (·.1) → ZRow W u qs → Calls Try.prog 5 #[.agg #[.string o, u]] W fun e w' => ∃ r, e = .returned r ∧ w'.ownsRow W.heap.size 49 5 r (zoneRecs ps).length (rvVs (zoneRecs ps)) ∧ Below W.heap.size W w' := by
      intro u qs W hq hz
      have hl : qs.length = ps.length := by have := congrArg List.length hq; simpa using this
      have := specZoneRecords_any o u qs W hz (by rw [zsum_same hq]; exact hzs) (by omega)
      rwa [zoneRecs_same hq] at this
    have him : ∀ (u : Value) (qs : List Zp) (W : World), qs.map (·.1) = ps.map (·.1) → ZRow W u qs → Calls Try.prog 7 #[.agg #[.string o, u]] W fun e w' => ∃ r, e = .returned r ∧ w'.ownsRow W.heap.size 49 5 r (zoneRecs ps).length (rvVs (zoneRecs ps)) ∧ Below W.heap.size W w' := by
      intro u qs W hq hz
      have := implZoneRecords_any o u qs W hz (by rw [zsum_same hq]; exact hzs) (mem_same hq (P := fun s => ∀ x ∈ s.da, x.size ≤ 1048576) (fun p hp => (hfit p hp).2))
      rwa [zoneRecs_same hq] at this
    have heq := fun (r r' : Value) (W : World) => eqRVS_any r r' (zoneRecs ps) W
    have hez : ∀ (u u' : Value) (qs rs : List Zp) (W : World), qs.map (·.1) = ps.map (·.1) → rs.map (·.1) = ps.map (·.1) → ZRow W u qs → ZRow W u' rs → Calls Try.prog 9 #[.agg #[.string o, u], .agg #[.string o, u']] W fun e w' => e = .returned (.bool true) ∧ Below W.heap.size W w' := fun u u' qs rs W h1 h2 h3 h4 => eqZone_any o u u' qs rs W h3 h4 (h1.trans h2.symm) (mem_same h1 (P := fun s => s.da.length ≤ 1000000000) (fun p hp => by have := (hfit p hp).1; omega))
    have hmz : ∀ (u : Value) (qs : List Zp) (B C : Nat) (W : World), qs.map (·.1) = ps.map (·.1) → OZ W B u qs → (∀ g, u.ownBlock = some g → g < C) → (∀ q ∈ qs, ∀ g, q.2.ownBlock = some g → g < C) → Calls Try.prog 10 #[.agg #[.string o, u], .int .i64 1] W fun e w' => ∃ k : Nat, e = .returned (.int .i64 (k : Int)) ∧ Mj B C W w' := by
      intro u qs B C W hq h1 h2 h3
      have hl : qs.length = ps.length := by have := congrArg List.length hq; simpa using this
      refine (markZone_mk o u qs B C 1 W h1 h2 h3 (by have := zl_le qs; rw [zsum_same hq] at this; omega) (by decide)).mono ?_
      rintro e w' ⟨rfl, hm⟩
      exact ⟨_, rfl, hm⟩
    generalize zoneRecs ps = RS at *
    obtain ⟨N, hN⟩ : ∃ N : Int, N = ((1 + RS.length * 5 : Nat) : Int) := ⟨_, rfl⟩
    have hN0 : 0 ≤ N := by omega
    have hNn : (N != N) = false := by simp
    have hmr := fun (r : Value) (B : Nat) (W : World) (h1 : W.ownsRow B 49 5 r RS.length (rvVs RS)) hB => markRRS_any r RS.length B 1 (rvVs RS) W h1 hB (by omega) (by decide)
    have hhr := fun (r : Value) (W : World) hc => heldRRS_any r RS.length 1 W hc (by omega) (by decide)
    rw [← hN] at hmr hhr
    clear hfit hzs hpl hN
    go_enter Try.func3, Try.ntmps3
    go_wp2_with fail
    refine hsz.mono ?_
    rintro e w1 ⟨rfl, hb1⟩
    have z1 := blk_below hz0 hb1
    have b1 := Nm.below_two hBa hb1
    have q0 := (blk_cell z1 0).trans rfl
    have q1 := (blk_cell z1 1).trans rfl
    clear hsz hz0 hb1 Z0
    go_wp2_with fail
    refine (hto _ b1).mono ?_
    rintro e w2 ⟨u2, qs2, rfl, hq2, hoz2, hb2⟩
    have z2 := blk_below z1 hb2
    have b2 := Nm.below_two b1 hb2
    clear q0 q1 z1
    go_wp2_with fail
    refine (hsp u2 qs2 _ hq2 hoz2.read).mono ?_
    rintro e w3 ⟨r3, rfl, ho3, hb3⟩
    have z3 := blk_below z2 hb3
    have b3 := Nm.below_two b2 hb3
    have q0 := (blk_cell z3 0).trans rfl
    have q1 := (blk_cell z3 1).trans rfl
    clear z2 hsp hoz2
    go_wp2_with fail
    refine (hto _ b3).mono ?_
    rintro e w4 ⟨u4, qs4, rfl, hq4, hoz4, hb4⟩
    obtain ⟨ua4, uc4, hu4⟩ := own_sl hoz4.1
    subst hu4
    obtain ⟨ra3, rc3, hr3⟩ := own_sl ho3
    subst hr3
    have z4 := blk_below z3 hb4
    have b4 := Nm.below_two b3 hb4
    obtain ⟨hC4, hD4⟩ := hoz4.lt
    have ho34 := own_below ho3 hb4
    have hl3 : ∀ g, (Value.slice ra3 RS.length rc3).ownBlock = some g → g < w3.heap.size := fun g hg => (ho3.lt g hg).2
    have hbA := (Below.refl w4.heap.size w4).alloc (Nat.le_refl _) (.cells #[.string o, .slice ua4 qs4.length uc4] 30)
    have x4 := blk_new w4 #[.string o, .slice ua4 qs4.length uc4] 30
    have hszA : (w4.alloc (.cells #[.string o, .slice ua4 qs4.length uc4] 30)).heap.size = w4.heap.size + 1 := by simp
    have hozA := hoz4.below hbA
    have hlt3 : w.heap.size < w3.heap.size := blk_lt z3
    clear q0 q1 z3 ho3
    go_wp2_with fail
    refine (him _ qs4 _ hq4 hozA.read).mono ?_
    rintro e w5 ⟨r5, rfl, ho5, hb5⟩
    obtain ⟨ra5, rc5, hr5⟩ := own_sl ho5
    subst hr5
    rw [hszA] at ho5
    have z5 := blk_below (blk_below z4 hbA) hb5
    have x5 := blk_below x4 hb5
    have hbA5 := Nm.below_two hbA hb5
    have b5 := Nm.below_two b4 hbA5
    have hoz5 := hoz4.below hbA5
    have ho35 := own_below ho34 hbA5
    have hl5 : ∀ g, (Value.slice ra5 RS.length rc5).ownBlock = some g → w4.heap.size + 1 ≤ g := fun g hg => (ho5.lt g hg).1
    clear z4 x4 hozA hoz4 ho34 hbA hbA5 hb5 hszA
    go_wp2_with fail
    refine (heq _ _ _ (CRow.of_owns ho5) (CRow.of_owns ho35)).mono ?_
    rintro e w6 ⟨rfl, hb6⟩
    have z6 := blk_below z5 hb6
    have x6 := blk_below x5 hb6
    have b6 := Nm.below_two b5 hb6
    have hoz6 := hoz5.below hb6
    have ho36 := own_below ho35 hb6
    have ho56 := own_below ho5 hb6
    have hw56 := x6
    clear z5 x5 b5 hoz5 ho35 ho5 hb6
    have hS : ∀ W, Below w6.heap.size w6 W → ((W.cell? ⟨w.heap.size, 0, none⟩ = some (.string o) ∧ W.cell? ⟨w.heap.size, 1, none⟩ = some (.slice a ps.length cap)) ∧ (W.cell? ⟨w4.heap.size, 0, none⟩ = some (.string o) ∧ W.cell? ⟨w4.heap.size, 1, none⟩ = some (.slice ua4 qs4.length uc4))) ∧ Below w6.heap.size w6 W := by
      intro W hW
      have y1 := blk_below z6 hW
      have y2 := blk_below x6 hW
      exact ⟨⟨⟨(blk_cell y1 0).trans rfl, (blk_cell y1 1).trans rfl⟩, (blk_cell y2 0).trans rfl, (blk_cell y2 1).trans rfl⟩, hW⟩
    have hS0 := hS w6.drew (Below.refl _ _).drew
    go_wp2
    go_region_held3 (fun W => ((W.cell? ⟨w.heap.size, 0, none⟩ = some (.string o) ∧ W.cell? ⟨w.heap.size, 1, none⟩ = some (.slice a ps.length cap)) ∧ (W.cell? ⟨w4.heap.size, 0, none⟩ = some (.string o) ∧ W.cell? ⟨w4.heap.size, 1, none⟩ = some (.slice ua4 qs4.length uc4))) ∧ Below w6.heap.size w6 W) (first | with_reducible assumption | with_reducible exact hS0) ((first | (go_at_call 6; refine (hto _ (Nm.below_two b6 hS0.2)).mono ?_; rintro e w7 ⟨u7, qs7, rfl, hq7, hoz7, hb7⟩; have hb67 : Below w6.heap.size w6 w7 := Nm.below_two (Below.refl _ _).drew hb7; have hS7 := hS _ hb67) | (go_at_call 9; refine (hez _ _ qs4 qs7 _ hq4 hq7 (hoz6.below hb67).read hoz7.read).mono ?_; rintro e w8 ⟨rfl, hb8⟩; have hb68 := Nm.below_two hb67 hb8; have hS8 := hS _ hb68)))
    have z8 := blk_below z6 hb68
    have x8 := blk_below x6 hb68
    have b8 := Nm.below_two b6 hb68
    have hoz8 := hoz6.below hb68
    have ho38 := own_below ho36 hb68
    have ho58 := own_below ho56 hb68
    have q0 := (blk_cell x8 0).trans rfl
    have q1 := (blk_cell x8 1).trans rfl
    have hsz48 : w4.heap.size < w8.heap.size := blk_lt x8
    clear hS hS0 hS8 z6 x6 hoz6 ho36 ho56 hez b6 hw56
    go_wp2_with fail
    refine (hmz _ qs4 w3.heap.size w4.heap.size _ hq4 hoz8 hC4 hD4).mono ?_
    rintro e w9 ⟨k9, rfl, hm9⟩
    have hk9 : (0 : Int) ≤ (k9 : Int) := by omega
    have z9 : Blk w9 w.heap.size #[.string o, .slice a ps.length cap] 24 := (hm9.block _ (blk_lt z8) (.inl hlt3)).trans z8
    have ho39 := own_mj ho38 (fun g hg => .inl (hl3 g hg)) hm9
    have ho59 := own_mj ho58 (fun g hg => .inr (by have := hl5 g hg; omega)) hm9
    have b9 : Below w.heap.size w w9 := b8.trans (hm9.down (by omega) b8.size)
    have hsz49 : w4.heap.size < w9.heap.size := by have := hm9.size; omega
    clear q0 q1 z8 x8 hoz8 ho38 ho58 hmz hm9 b8
    go_wp2_with fail
    refine (heq _ _ _ (CRow.of_owns ho59) (CRow.of_owns ho39)).mono ?_
    rintro e w10 ⟨rfl, hb10⟩
    have z10 := blk_below z9 hb10
    have ho310 := own_below ho39 hb10
    have ho510 := own_below ho59 hb10
    have b10 := Nm.below_two b9 hb10
    have hsz410 : w4.heap.size < w10.heap.size := by have := hb10.size; omega
    clear z9 ho39 ho59 b9
    go_wp2_with fail
    refine (hmr _ _ _ ho510 (by omega)).mono ?_
    rintro e w11 ⟨rfl, ho11, hg11⟩
    have z11 := blk_grown z10 hg11 (fun e => by have := hl5 _ e; have h3 := hb4.size; omega)
    have ho311 := own_grown ho310 hg11 (fun g hg hg' => by have h1 := hl5 g hg; have h2 := hl3 g hg'; have h3 := hb4.size; omega)
    have b11 : Below w.heap.size w w11 := b10.grown hg11 b10.size (fun g hg => by have := hl5 g hg; have h3 := hb4.size; omega)
    clear z10 ho310 ho510 b10 hg11 hmr
    go_wp2_with fail
    refine (hhr _ _ (CRow.of_owns ho11)).mono ?_
    rintro e w12 ⟨rfl, hb12⟩
    have z12 := blk_below z11 hb12
    have ho312 := own_below ho311 hb12
    have ho12 := own_below ho11 hb12
    have b12 := Nm.below_two b11 hb12
    have q0 := (blk_cell z12 0).trans rfl
    have q1 := (blk_cell z12 1).trans rfl
    clear z11 ho311 ho11 b11
    go_wp2_with fail
    refine (hto _ b12).mono ?_
    rintro e w13 ⟨u13, qs13, rfl, hq13, hoz13, hb13⟩
    go_wp2_with fail
    refine (him _ qs13 _ hq13 hoz13.read).mono ?_
    rintro e w14 ⟨r14, rfl, ho14, hb14⟩
    obtain ⟨ra14, rc14, hr14⟩ := own_sl ho14
    subst hr14
    have ho314 := own_below (own_below ho312 hb13) hb14
    have ho514 := own_below (own_below ho12 hb13) hb14
    have b14 := Nm.below_two (Nm.below_two b12 hb13) hb14
    clear q0 q1 z12 ho312 ho12
    go_wp2_with fail
    refine (heq _ _ _ (CRow.of_owns ho14) (CRow.of_owns ho314)).mono ?_
    rintro e w15 ⟨rfl, hb15⟩
    have ho515 := own_below ho514 hb15
    go_wp2_with fail
    refine (hhr _ _ (CRow.of_owns ho515)).mono ?_
    rintro e w16 ⟨rfl, hb16⟩
    have b16 := Nm.below_two (Nm.below_two b14 hb15) hb16
    go_wp2
    go_ret
    exact ⟨rfl, b16⟩
  · have e1 : szZ o ps 1048576 = -1 := if_neg hb
    rw [e1] at hsz
    clear hb e1 hx Z0
    go_enter Try.func3, Try.ntmps3
    go_wp2_with fail
    refine hsz.mono ?_
    rintro e w1 ⟨rfl, b1⟩
    go_wp2
    go_ret
    exact ⟨rfl, Nm.below_two hBa b1⟩
end Go.Proofs.Ytghapfpapjgbjaa
