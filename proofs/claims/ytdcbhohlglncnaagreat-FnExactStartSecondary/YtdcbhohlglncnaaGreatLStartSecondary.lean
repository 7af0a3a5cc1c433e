import Derived.Test.YtdcbhohlglncnaaGreatJStI
import Derived.Test.YtdcbhohlglncnaaGreatJCzO
import Derived.Test.YtdcbhohlglncnaaGreatJZrS
import Derived.Test.YtdcbhohlglncnaaGreatJZnE
/- The law of StartSecondary: its walk. -/
namespace Go.Proofs.YtdcbhohlglncnaaGreat
open Go.RowKit
set_option linter.unusedVariables false
theorem sn_outs {fp : List Nat} {B : Nat} {w w' : World} (h : Outs fp w w') (hB : B ≤ w.heap.size) (hf : ∀ b ∈ fp, B ≤ b) : Below B w w' :=
 ⟨h.os, h.tape, h.output, h.size, fun k hk => h.block k (by omega) (fun hm => by have := hf k hm; omega)⟩
theorem sn_ge {w : World} {B : Nat} {v : Value} {ps : List Zp} (h : ZOwn w B v ps) : ∀ b ∈ zfp v ps, B ≤ b := by
 intro b hb
 simp only [zfp, List.mem_append, List.mem_flatMap] at hb
 rcases hb with hb | ⟨p, hp, hb⟩
 · cases hv : v.ownBlock with
   | none => rw [hv] at hb; simp at hb
   | some q => rw [hv] at hb; simp at hb; subst hb; exact (h.outer.lt _ hv).1
 · obtain ⟨i, hi⟩ := List.getElem?_of_mem hp
   cases hv : p.2.ownBlock with
   | none => rw [hv] at hb; simp at hb
   | some q => rw [hv] at hb; simp at hb; subst hb; exact ((h.inner i p hi).lt _ hv).1
theorem sn_out {w : World} {B b : Nat} {v : Value} {ps : List Zp} {cs : Array Value} (h : ZOwn w B v ps) (hb : Blk w b cs 30) : b ∉ zfp v ps := by
 intro hm
 simp only [zfp, List.mem_append, List.mem_flatMap] at hm
 rcases hm with hm | ⟨p, hp, hm⟩
 · exact own_nb h.outer hb (by decide) (by simpa using hm)
 · obtain ⟨i, hi⟩ := List.getElem?_of_mem hp
   exact own_nb (h.inner i p hi) hb (by decide) (by simpa using hm)
theorem sn_mj {w w' : World} {B C D : Nat} {v : Value} {ps : List Zp} (h : ZOwn w D v ps) (hD : C ≤ D) (hm : Mj B C w w') : ZOwn w' D v ps :=
 ⟨own_mj h.outer (fun g hg => .inr (Nat.le_trans hD (h.outer.lt g hg).1)) hm, fun i p hp => own_mj (h.inner i p hp) (fun g hg => .inr (Nat.le_trans hD ((h.inner i p hp).lt g hg).1)) hm, h.apart⟩
theorem sn_same {ps qs : List Zp} (h : qs.map (·.1) = ps.map (·.1)) (o : ByteArray) (now : Int) : snR qs o now = snR ps o now := by
 rw [snR, snR, stOK, stOK, zOK_same h, h]
theorem sn_zl {ps qs : List Zp} {o : ByteArray} {now : Int} (h : qs.map (·.1) = (snR ps o now).ss) : zl qs ≤ 400000 ∧ ∀ q ∈ qs, q.1.da.length ≤ 1000000000 := by
 have hd : ∀ l : List Zp, dsum l = ((l.map (·.1)).map fun s => s.da.length).sum := by
  intro l
  induction l with
  | nil => rfl
  | cons p l ih => simp [dsum, ih]
 have hz : ∀ l : List Zp, zl l = dsum l + 3 * l.length := by
  intro l
  induction l with
  | nil => rfl
  | cons p l ih => rw [zl, dsum, ih, List.length_cons]; omega
 have hm : ∀ (l : List Zp) (p : Zp), p ∈ l → p.1.da.length ≤ dsum l := by
  intro l
  induction l with
  | nil => intro p hp; cases hp
  | cons q l ih =>
    intro p hp
    rcases List.mem_cons.1 hp with rfl | hp
    · rw [dsum]; omega
    · have := ih p hp; rw [dsum]; omega
 have key : qs.length ≤ 500 ∧ dsum qs ≤ 500 := by
  rw [snR] at h
  split at h
  · next hs =>
    have hl : qs.length = ps.length := by have := congrArg List.length h; simpa using this
    have hD : dsum qs = dsum ps := by rw [hd, hd, h]
    have h2 : ¬ (500 < ps.length ∨ 500 < dsum ps) := fun hc => by rw [stOK, zOK_big hc] at hs; cases hs
    omega
  · have : qs = [] := List.map_eq_nil_iff.1 h
    subst this
    exact ⟨by simp, by simp [dsum]⟩
 exact ⟨by rw [hz]; omega, fun q hq => by have := hm qs q hq; omega⟩
set_option maxRecDepth 100000 in
set_option maxHeartbeats 6400000 in
theorem fnExactStartSecondary_walk (o : ByteArray) (now : Int) (v : Value) (ps : List Zp) (w : World) (h : ZRow w v ps) (hx : ZFit ps) (ho : o.size ≤ maxLen) :
 Calls Tryz.prog 3 #[.agg #[.string o, v], .int .i64 now] w fun e w' => e = .returned (.bool true) ∧ Below w.heap.size w w' := by
 have hBa := (Below.refl w.heap.size w).alloc (Nat.le_refl _) (.cells #[.string o, v] 24)
 have hz0 := blk_new w #[.string o, v] 24
 have Z0 := h.below hBa
 have hsz := szZone_any o v ps 1048576 _ Z0 hx ho (by decide) (by decide)
 obtain ⟨a, cap, hva⟩ : ∃ a c, v = .slice a ps.length c := by obtain ⟨⟨_, a, c, e, _⟩, _⟩ := h; exact ⟨a, c, e⟩
 subst hva
 by_cases hb : (o.size : Int) + ps.length + (zsum ps : Int) ≤ 1048576
 · have e1 : szZ o ps 1048576 = 1048576 - o.size - ps.length - zsum ps := if_pos hb
   rw [e1] at hsz
   have hzs : zsum ps ≤ 1048576 := by omega
   have hpl : ps.length ≤ 1048576 := by omega
   have hol : o.size ≤ 1048576 := by omega
   have hfit := cz_fits hzs
   have hnn : 0 ≤ 1048576 - (o.size : Int) - (ps.length : Int) - (zsum ps : Int) := by omega
   generalize (1048576 - (o.size : Int) - (ps.length : Int) - (zsum ps : Int)) = L at *
   clear hb hx e1
   -- what each call does
   have hto : ∀ W, Below w.heap.size w W → Calls Tryz.prog 7 #[.agg #[.string o, .slice a ps.length cap]] W fun e w' => ∃ u qs, e = .returned (.agg #[.string o, u]) ∧ qs.map (·.1) = ps.map (·.1) ∧ OZ w' W.heap.size u qs ∧ Below W.heap.size W w' := fun W hW => toZone_any o _ ps W (h.below hW) hpl (fun p hp => (hfit p hp).2.1)
   have hfq : ∀ qs : List Zp, qs.map (·.1) = ps.map (·.1) → ∀ q ∈ qs, q.1.own.size ≤ 1048576 ∧ q.1.da.length ≤ 1048576 ∧ ∀ x ∈ q.1.da, x.size ≤ 1048576 := fun qs hq => cz_mem hq (P := fun s => s.own.size ≤ 1048576 ∧ s.da.length ≤ 1048576 ∧ ∀ x ∈ s.da, x.size ≤ 1048576) hfit
   have hsp : ∀ (u : Value) (qs : List Zp) (W : World), qs.map (·.1) = ps.map (·.1) → ZRow W u qs → Calls Tryz.prog 6 #[.agg #[.string o, u], .int .i64 now] W (SnP (snR ps o now) W) := by
    intro u qs W hq hz
    have hl : qs.length = ps.length := by have := congrArg List.length hq; simpa using this
    have := specStartSecondary_any o u qs now W hz (by rw [zsum_same hq]; exact hzs) (by omega) (hfq qs hq) ho
    rwa [sn_same hq] at this
   have him : ∀ (u : Value) (qs : List Zp) (W : World), qs.map (·.1) = ps.map (·.1) → ZRow W u qs → Calls Tryz.prog 8 #[.agg #[.string o, u], .int .i64 now] W (SnP (snR ps o now) W) := by
    intro u qs W hq hz
    have := implStartSecondary_any o u qs now W hz (by rw [zsum_same hq]; exact hzs) (fun q hq' => ⟨(hfq qs hq q hq').1, (hfq qs hq q hq').2.2⟩) (by omega)
    rwa [sn_same hq] at this
   have hez : ∀ (u u' : Value) (qs rs : List Zp) (W : World), qs.map (·.1) = ps.map (·.1) → rs.map (·.1) = ps.map (·.1) → ZRow W u qs → ZRow W u' rs → Calls Tryz.prog 10 #[.agg #[.string o, u], .agg #[.string o, u']] W fun e w' => e = .returned (.bool true) ∧ Below W.heap.size W w' := fun u u' qs rs W h1 h2 h3 h4 => eqZone_any o u u' qs rs W h3 h4 (h1.trans h2.symm) (cz_mem h1 (P := fun s => s.da.length ≤ 1000000000) (fun p hp => by have := (hfit p hp).2.1; omega))
   have hmz : ∀ (u : Value) (qs : List Zp) (B C : Nat) (W : World), qs.map (·.1) = ps.map (·.1) → OZ W B u qs → (∀ g, u.ownBlock = some g → g < C) → (∀ q ∈ qs, ∀ g, q.2.ownBlock = some g → g < C) → Calls Tryz.prog 11 #[.agg #[.string o, u], .int .i64 1] W fun e w' => ∃ k : Nat, e = .returned (.int .i64 (k : Int)) ∧ Mj B C W w' := by
    intro u qs B C W hq h1 h2 h3
    have hl : qs.length = ps.length := by have := congrArg List.length hq; simpa using this
    refine (markZone_mk o u qs B C 1 W h1 h2 h3 (by have := zl_le qs; rw [zsum_same hq] at this; omega) (by decide)).mono ?_
    rintro e w' ⟨rfl, hm⟩
    exact ⟨_, rfl, hm⟩
   have hzl := fun (qs : List Zp) (hq : qs.map (·.1) = (snR ps o now).ss) => sn_zl hq
   have hFs : ∀ (R : Sn) (W : World), SnP R W = fun e w' => ∃ v qs, e = .returned (.tuple #[SecV R.o v 0 0 R.nx R.un, .int .i64 R.co]) ∧ qs.map (·.1) = R.ss ∧ ZOwn w' W.heap.size v qs ∧ Below W.heap.size W w' := fun _ _ => rfl
   simp only [hFs, SecV] at hsp him
   clear hFs
   generalize snR ps o now = R at *
   obtain ⟨ao, ss, nx, un, co⟩ := R
   simp only at hsp him hzl
   have heq : Hid (∀ (u u' : Value) (qs rs : List Zp) (W : World), qs.map (·.1) = ss → rs.map (·.1) = ss → ZRow W u qs → ZRow W u' rs → Calls Tryz.prog 9 #[.agg #[.string ao, u, .int .i64 0, .int .i64 0, .int .i64 nx, .int .i64 un], .agg #[.string ao, u', .int .i64 0, .int .i64 0, .int .i64 nx, .int .i64 un]] W fun e w' => e = .returned (.bool true) ∧ Below W.heap.size W w') := fun u u' qs rs W h1 h2 h3 h4 => eqSecondary_any ao u u' 0 0 nx un qs rs W h3 h4 (h1.trans h2.symm) (hzl qs h1).2
   have hmr : Hid (∀ (u : Value) (qs : List Zp) (B : Nat) (W : World) (K : Int), K = ((1 + zl qs : Nat) : Int) → qs.map (·.1) = ss → ZOwn W B u qs → Calls Tryz.prog 12 #[.agg #[.string ao, u, .int .i64 0, .int .i64 0, .int .i64 nx, .int .i64 un], .int .i64 1] W fun e w' => e = .returned (.int .i64 K) ∧ ZOwn w' B u (mkZ 1 qs) ∧ Outs (zfp u qs) W w') := fun u qs B W K hK h1 h2 => by rw [hK]; exact markSecondary_own ao u 0 0 nx un qs B 1 W h2 (hzl qs h1).1 (by decide)
   have hhr : Hid (∀ (u : Value) (qs : List Zp) (W : World) (K : Int), K = ((1 + zl qs : Nat) : Int) → qs.map (·.1) = ss → ZRow W u (mkZ 1 qs) → Calls Tryz.prog 13 #[.agg #[.string ao, u, .int .i64 0, .int .i64 0, .int .i64 nx, .int .i64 un], .int .i64 1] W fun e w' => e = .returned (.int .i64 K) ∧ Below W.heap.size W w') := fun u qs W K hK h1 h2 => by rw [hK]; exact heldSecondary_any ao u 0 0 nx un qs 1 W h2 (hzl qs h1).1 (by decide)
   have hco : (co != co) = false := by simp
   clear hfit hzs hpl hfq ho hzl
   go_enter Tryz.func3, Tryz.ntmps3
   go_wp2_with fail
   refine hsz.mono ?_
   rintro e w1 ⟨rfl, hb1⟩
   have z1 := blk_below hz0 hb1
   have b1 := Nm.below_two hBa hb1
   have q0 := (blk_cell z1 0).trans rfl
   have q1 := (blk_cell z1 1).trans rfl
   clear hsz hz0 hb1 Z0
   go_wp2_with fail
   refine (hto _ b1).mono ?_
   rintro e w2 ⟨u2, qs2, rfl, hq2, hoz2, hb2⟩
   have z2 := blk_below z1 hb2
   have b2 := Nm.below_two b1 hb2
   clear q0 q1 z1
   go_wp2_with fail
   refine (hsp u2 qs2 _ hq2 hoz2.read).mono ?_
   rintro e w3 ⟨r3, rs3, rfl, hr3, ho3, hb3⟩
   obtain ⟨ra3, rc3, he3⟩ := own_sl ho3.outer
   subst he3
   have hbS := (Below.refl w3.heap.size w3).alloc (Nat.le_refl _) (.cells #[.string ao, .slice ra3 rs3.length rc3, .int .i64 0, .int .i64 0, .int .i64 nx, .int .i64 un] 30)
   have y3 := blk_new w3 #[.string ao, .slice ra3 rs3.length rc3, .int .i64 0, .int .i64 0, .int .i64 nx, .int .i64 un] 30
   have z3 := blk_below (blk_below z2 hb3) hbS
   have b3 := Nm.below_two (Nm.below_two b2 hb3) hbS
   have ho3S := (ho3.below hbS).zrow
   have q0 := (blk_cell z3 0).trans rfl
   have q1 := (blk_cell z3 1).trans rfl
   have hszS : (w3.alloc (.cells #[.string ao, .slice ra3 rs3.length rc3, .int .i64 0, .int .i64 0, .int .i64 nx, .int .i64 un] 30)).heap.size = w3.heap.size + 1 := by simp
   have HA := Nm.hide (And.intro ho3S (And.intro y3 (And.intro b3 (And.intro hr3 (And.intro z3 hszS)))))
   clear z2 hsp hoz2 ho3 ho3S y3 z3 hszS hb3 hbS b2 hb2 b1
   go_wp2_with fail
   refine (hto _ b3).mono ?_
   rintro e w4 ⟨u4, qs4, rfl, hq4, hoz4, hb4⟩
   obtain ⟨ua4, uc4, hu4⟩ := own_sl hoz4.1
   subst hu4
   have a4 := hb4
   have hs4 : w3.heap.size + 1 ≤ w4.heap.size := by have := hb4.size; rwa [HA.out.2.2.2.2.2] at this
   rw [HA.out.2.2.2.2.2] at hoz4
   obtain ⟨hC4, hD4⟩ := hoz4.lt
   have hbA := (Below.refl w4.heap.size w4).alloc (Nat.le_refl _) (.cells #[.string o, .slice ua4 qs4.length uc4] 28)
   have x4 := blk_new w4 #[.string o, .slice ua4 qs4.length uc4] 28
   have hszA : (w4.alloc (.cells #[.string o, .slice ua4 qs4.length uc4] 28)).heap.size = w4.heap.size + 1 := by simp
   have hozA := hoz4.below hbA
   have HS4 := Nm.hide hs4
   clear q0 q1 b3 hb4 hs4 hr3
   go_wp2_with fail
   refine (him _ qs4 _ hq4 hozA.read).mono ?_
   rintro e w5 ⟨r5, rs5, rfl, hr5, ho5, hb5⟩
   obtain ⟨ra5, rc5, he5⟩ := own_sl ho5.outer
   subst he5
   have hs5 := hb5.size
   rw [hszA] at ho5 hs5
   have HL5 := Nm.hide hs5
   have hbG := (Below.refl w5.heap.size w5).alloc (Nat.le_refl _) (.cells #[.string ao, .slice ra5 rs5.length rc5, .int .i64 0, .int .i64 0, .int .i64 nx, .int .i64 un] 30)
   have hbA6 := Nm.below_two (Nm.below_two hbA hb5) hbG
   have v6 := blk_new w5 #[.string ao, .slice ra5 rs5.length rc5, .int .i64 0, .int .i64 0, .int .i64 nx, .int .i64 un] 30
   have x6 := blk_below (blk_below x4 hb5) hbG
   have a6 := Nm.below_two a4 hbA6
   have y6 := blk_below HA.out.2.1 a6
   have hoz6 := hoz4.below hbA6
   have ho56 := ho5.below hbG
   have ry := fun i => blk_cell y6 i
   have rv := fun i => blk_cell v6 i
   clear x4 hozA hoz4 ho5 hbA hbA6 hb5 hszA hs5 a4
   go_wp2_with fail
   refine (heq.out _ _ rs5 rs3 _ hr5 HA.out.2.2.2.1 ho56.zrow (HA.out.1.below a6)).mono ?_
   rintro e w7 ⟨rfl, hb7⟩
   have x7 := blk_below x6 hb7
   have v7 := blk_below v6 hb7
   have a7 := Nm.below_two a6 hb7
   have z7 := blk_below HA.out.2.2.2.2.1 a7
   have b7 := Nm.below_two HA.out.2.2.1 a7
   have hoz7 := hoz6.below hb7
   have ho57 := ho56.below hb7
   clear x6 v6 a6 y6 hoz6 ho56 hb7 hbG ry rv
   have hS : ∀ W, Below w7.heap.size w7 W → ((W.cell? ⟨w.heap.size, 0, none⟩ = some (.string o) ∧ W.cell? ⟨w.heap.size, 1, none⟩ = some (.slice a ps.length cap)) ∧ (W.cell? ⟨w4.heap.size, 0, none⟩ = some (.string o) ∧ W.cell? ⟨w4.heap.size, 1, none⟩ = some (.slice ua4 qs4.length uc4))) ∧ Below w7.heap.size w7 W := by
    intro W hW
    have y1 := blk_below z7 hW
    have y2 := blk_below x7 hW
    exact ⟨⟨⟨(blk_cell y1 0).trans rfl, (blk_cell y1 1).trans rfl⟩, (blk_cell y2 0).trans rfl, (blk_cell y2 1).trans rfl⟩, hW⟩
   have hS0 := hS w7.drew (Below.refl _ _).drew
   go_wp2
   go_region_held3 (fun W => ((W.cell? ⟨w.heap.size, 0, none⟩ = some (.string o) ∧ W.cell? ⟨w.heap.size, 1, none⟩ = some (.slice a ps.length cap)) ∧ (W.cell? ⟨w4.heap.size, 0, none⟩ = some (.string o) ∧ W.cell? ⟨w4.heap.size, 1, none⟩ = some (.slice ua4 qs4.length uc4))) ∧ Below w7.heap.size w7 W) (first | with_reducible assumption | with_reducible exact hS0) ((first | (go_at_call 7; refine (hto _ (Nm.below_two b7 hS0.2)).mono ?_; rintro e w8 ⟨u8, qs8, rfl, hq8, hoz8, hb8⟩; have hb78 : Below w7.heap.size w7 w8 := Nm.below_two (Below.refl _ _).drew hb8; have hS8 := hS _ hb78) | (go_at_call 10; refine (hez _ _ qs4 qs8 _ hq4 hq8 (hoz7.below hb78).read hoz8.read).mono ?_; rintro e w9 ⟨rfl, hb9⟩; have hb79 := Nm.below_two hb78 hb9; have hS9 := hS _ hb79)))
   have x9 := blk_below x7 hb79
   have v9 := blk_below v7 hb79
   have a9 := Nm.below_two a7 hb79
   have hoz9 := hoz7.below hb79
   have ho59 := ho57.below hb79
   have q0 := (blk_cell x9 0).trans rfl
   have q1 := (blk_cell x9 1).trans rfl
   clear hS hS0 hS9 z7 x7 v7 hoz7 ho57 hez b7 a7
   go_wp2_with fail
   refine (hmz _ qs4 (w3.heap.size + 1) w4.heap.size _ hq4 hoz9 hC4 hD4).mono ?_
   rintro e w10 ⟨k10, rfl, hm10⟩
   have hk10 : (0 : Int) ≤ (k10 : Int) := by omega
   have v10 : Blk w10 w5.heap.size #[.string ao, .slice ra5 rs5.length rc5, .int .i64 0, .int .i64 0, .int .i64 nx, .int .i64 un] 30 := (hm10.block _ (blk_lt v9) (.inr (by have := HL5.out; omega))).trans v9
   have ho510 := sn_mj ho59 (Nat.le_succ _) hm10
   have a10 := a9.trans (hm10.down (by rw [HA.out.2.2.2.2.2]; exact Nat.le_refl _) a9.size)
   have y10 := blk_below HA.out.2.1 a10
   have ry := fun i => blk_cell y10 i
   have rv := fun i => blk_cell v10 i
   clear q0 q1 x9 v9 hoz9 ho59 hmz hm10 a9
   go_wp2_with fail
   refine (heq.out _ _ rs5 rs3 _ hr5 HA.out.2.2.2.1 ho510.zrow (HA.out.1.below a10)).mono ?_
   rintro e w11 ⟨rfl, hb11⟩
   have v11 := blk_below v10 hb11
   have ho511 := ho510.below hb11
   have a11 := Nm.below_two a10 hb11
   clear y10 v10 ho510 a10 ry rv hb11
   have rv := fun i => blk_cell v11 i
   obtain ⟨KZ, hKZ⟩ : ∃ KZ : Int, KZ = ((1 + zl rs5 : Nat) : Int) := ⟨_, rfl⟩
   have hK0 : ¬ KZ < 0 := by omega
   have hK1 : (KZ != KZ) = false := by simp
   have HKZ := Nm.hide hKZ
   clear hKZ
   go_wp2_with fail
   refine (hmr.out _ rs5 _ _ KZ HKZ.out hr5 ho511).mono ?_
   rintro e w12 ⟨rfl, ho12, o12⟩
   have a12 := a11.trans (sn_outs o12 a11.size (fun b hb => by have := sn_ge ho511 b hb; have h4 := HS4.out; rw [HA.out.2.2.2.2.2]; omega))
   have v12 := blk_outs v11 o12 (sn_out ho511 v11)
   clear v11 ho511 a11 o12 rv
   have rv := fun i => blk_cell v12 i
   go_wp2_with fail
   refine (hhr.out _ rs5 _ KZ HKZ.out hr5 ho12.zrow).mono ?_
   rintro e w13 ⟨rfl, hb13⟩
   have v13 := blk_below v12 hb13
   have ho13 := ho12.below hb13
   have a13 := Nm.below_two a12 hb13
   have z13 := blk_below HA.out.2.2.2.2.1 a13
   have q0 := (blk_cell z13 0).trans rfl
   have q1 := (blk_cell z13 1).trans rfl
   clear v12 ho12 a12 rv hb13
   go_wp2_with fail
   refine (hto _ (Nm.below_two HA.out.2.2.1 a13)).mono ?_
   rintro e w14 ⟨u14, qs14, rfl, hq14, hoz14, hb14⟩
   go_wp2_with fail
   refine (him _ qs14 _ hq14 hoz14.read).mono ?_
   rintro e w15 ⟨r15, rs15, rfl, hr15, ho15, hb15⟩
   obtain ⟨ra15, rc15, he15⟩ := own_sl ho15.outer
   subst he15
   have hbH := (Below.refl w15.heap.size w15).alloc (Nat.le_refl _) (.cells #[.string ao, .slice ra15 rs15.length rc15, .int .i64 0, .int .i64 0, .int .i64 nx, .int .i64 un] 30)
   have k16 := blk_new w15 #[.string ao, .slice ra15 rs15.length rc15, .int .i64 0, .int .i64 0, .int .i64 nx, .int .i64 un] 30
   have hb16 := Nm.below_two (Nm.below_two hb14 hb15) hbH
   have v16 := blk_below v13 hb16
   have ho516 := ho13.below hb16
   have a16 := Nm.below_two a13 hb16
   have y16 := blk_below HA.out.2.1 a16
   have ho16 := ho15.below hbH
   have rk := fun i => blk_cell k16 i
   have ry := fun i => blk_cell y16 i
   clear q0 q1 z13 v13 ho13 ho15 hb14 hb15 hbH hb16 hoz14 hto him a13
   go_wp2_with fail
   refine (heq.out _ _ rs15 rs3 _ hr15 HA.out.2.2.2.1 ho16.zrow (HA.out.1.below a16)).mono ?_
   rintro e w17 ⟨rfl, hb17⟩
   have v17 := blk_below v16 hb17
   have ho517 := ho516.below hb17
   clear rk ry
   have rv := fun i => blk_cell v17 i
   go_wp2_with fail
   refine (hhr.out _ rs5 _ KZ HKZ.out hr5 ho517.zrow).mono ?_
   rintro e w18 ⟨rfl, hb18⟩
   have b18 := Nm.below_two HA.out.2.2.1 (Nm.below_two (Nm.below_two a16 hb17) hb18)
   go_wp2
   go_ret
   exact ⟨rfl, b18⟩
 · have e1 : szZ o ps 1048576 = -1 := if_neg hb
   rw [e1] at hsz
   clear hb e1 hx Z0
   go_enter Tryz.func3, Tryz.ntmps3
   go_wp2_with fail
   refine hsz.mono ?_
   rintro e w1 ⟨rfl, b1⟩
   go_wp2
   go_ret
   exact ⟨rfl, Nm.below_two hBa b1⟩
end Go.Proofs.YtdcbhohlglncnaaGreat
