import Derived.Test.YtnpegoclghfmpaaGreatCzC
import Derived.Test.YtnpegoclghfmpaaGreatJCzO
import Derived.Test.YtnpegoclghfmpaaGreatJZnE
import Derived.Test.YtnpegoclghfmpaaGreatJZrS
/- The law of CheckZone: its walk. -/
namespace Go.Proofs.YtnpegoclghfmpaaGreat
open Go.RowKit
set_option linter.unusedVariables false

theorem cz_ssum {ls : List ByteArray} {x : ByteArray} (h : x ∈ ls) : x.size ≤ ssum ls := by
  induction ls with
  | nil => simp at h
  | cons y ls ih =>
    rcases List.mem_cons.1 h with rfl | h
    · simp only [ssum]; omega
    · have := ih h; simp only [ssum]; omega
theorem cz_fits {ps : List Zp} (h : zsum ps ≤ 1048576) : ∀ p ∈ ps, p.1.own.size ≤ 1048576 ∧ p.1.da.length ≤ 1048576 ∧ ∀ x ∈ p.1.da, x.size ≤ 1048576 := by
  intro p hp
  have h1 := zsum_mem ps p hp
  unfold zs1 at h1
  exact ⟨by omega, by omega, fun x hx => by have := cz_ssum hx; omega⟩
theorem cz_mem {ps qs : List Zp} (h : qs.map (·.1) = ps.map (·.1)) {P : Sz → Prop} (hp : ∀ p ∈ ps, P p.1) : ∀ q ∈ qs, P q.1 := by
  intro q hq
  have : q.1 ∈ qs.map (·.1) := List.mem_map.2 ⟨q, hq, rfl⟩
  rw [h] at this
  obtain ⟨p, hp1, hp2⟩ := List.mem_map.1 this
  rw [← hp2]
  exact hp p hp1
theorem zOK_same {ps qs : List Zp} (h : qs.map (·.1) = ps.map (·.1)) (o : ByteArray) : zOK qs o = zOK ps o := by
  rw [zOK, zOK, zoneRecs_same h, h]

set_option maxRecDepth 100000 in
set_option maxHeartbeats 6400000 in
theorem fnExactCheckZone_walk (o : ByteArray) (v : Value) (ps : List Zp) (w : World) (h : ZRow w v ps) (hx : ZFit ps) (ho : o.size ≤ maxLen) :
    Calls Tryz.prog 3 #[.agg #[.string o, v]] w fun e w' => e = .returned (.bool true) ∧ Below w.heap.size w w' := by
  have hBa := (Below.refl w.heap.size w).alloc (Nat.le_refl _) (.cells #[.string o, v] 24)
  have hz0 := blk_new w #[.string o, v] 24
  have hsza : (w.alloc (.cells #[.string o, v] 24)).heap.size = w.heap.size + 1 := by simp
  have Z0 := h.below hBa
  have hsz := szZone_any o v ps 1048576 _ Z0 hx ho (by decide) (by decide)
  obtain ⟨a, cap, hva⟩ : ∃ a c, v = .slice a ps.length c := by obtain ⟨⟨_, a, c, e, _⟩, _⟩ := h; exact ⟨a, c, e⟩
  subst hva
  by_cases hb : (o.size : Int) + ps.length + (zsum ps : Int) ≤ 1048576
  · have e1 : szZ o ps 1048576 = 1048576 - o.size - ps.length - zsum ps := if_pos hb
    rw [e1] at hsz
    have hzs : zsum ps ≤ 1048576 := by omega
    have hpl : ps.length ≤ 1048576 := by omega
    have hol : o.size ≤ 1048576 := by omega
    have hfit := cz_fits hzs
    have hnn : 0 ≤ 1048576 - (o.size : Int) - (ps.length : Int) - (zsum ps : Int) := by omega
    generalize (1048576 - (o.size : Int) - (ps.length : Int) - (zsum ps : Int)) = L at *
    clear hb hx e1
    -- what each call does
    have hto : ∀ W, Below w.heap.size w W → Calls Tryz.prog 9 #[.agg #[.string o, .slice a ps.length cap]] W fun e w' => ∃ u qs, e = .returned (.agg #[.string o, u]) ∧ qs.map (·.1) = ps.map (·.1) ∧ OZ w' W.heap.size u qs ∧ Below W.heap.size W w' := fun W hW => toZone_any o _ ps W (h.below hW) hpl (fun p hp => (hfit p hp).2.1)
    have hfq : ∀ qs : List Zp, qs.map (·.1) = ps.map (·.1) → ∀ q ∈ qs, q.1.own.size ≤ 1048576 ∧ ∀ x ∈ q.1.da, x.size ≤ 1048576 := fun qs hq => cz_mem hq (P := fun s => s.own.size ≤ 1048576 ∧ ∀ x ∈ s.da, x.size ≤ 1048576) (fun p hp => ⟨(hfit p hp).1, (hfit p hp).2.2⟩)
    have hsp : ∀ (u : Value) (qs : List Zp) (W : World), qs.map (·.1) = ps.map (·.1) → ZRow W u qs → Calls Tryz.prog 8 #[.agg #[.string o, u]] W fun e w' => e = .returned (.int .i64 (if zOK ps o = true then 0 else 32)) ∧ Below W.heap.size W w' := by
      intro u qs W hq hz
      have hl : qs.length = ps.length := by have := congrArg List.length hq; simpa using this
      have := specCheckZone_any o u qs W hz (by rw [zsum_same hq]; exact hzs) (by omega) (hfq qs hq) ho
      rwa [zOK_same hq] at this
    have him : ∀ (u : Value) (qs : List Zp) (W : World), qs.map (·.1) = ps.map (·.1) → ZRow W u qs → Calls Tryz.prog 10 #[.agg #[.string o, u]] W fun e w' => e = .returned (.int .i64 (if zOK ps o = true then 0 else 32)) ∧ Below W.heap.size W w' := by
      intro u qs W hq hz
      have := implCheckZone_any o u qs W hz (by rw [zsum_same hq]; exact hzs) (hfq qs hq) (by omega)
      rwa [zOK_same hq] at this
    have hez : ∀ (u u' : Value) (qs rs : List Zp) (W : World), qs.map (·.1) = ps.map (·.1) → rs.map (·.1) = ps.map (·.1) → ZRow W u qs → ZRow W u' rs → Calls Tryz.prog 11 #[.agg #[.string o, u], .agg #[.string o, u']] W fun e w' => e = .returned (.bool true) ∧ Below W.heap.size W w' := fun u u' qs rs W h1 h2 h3 h4 => eqZone_any o u u' qs rs W h3 h4 (h1.trans h2.symm) (cz_mem h1 (P := fun s => s.da.length ≤ 1000000000) (fun p hp => by have := (hfit p hp).2.1; omega))
    obtain ⟨N, hN⟩ : ∃ N : Int, N = if zOK ps o = true then 0 else 32 := ⟨_, rfl⟩
    rw [← hN] at hsp him
    have hNn : (N != N) = false := by simp
    clear hfit hzs hpl hN hfq ho
    go_enter Tryz.func3, Tryz.ntmps3
    go_wp2_with fail
    refine hsz.mono ?_
    rintro e w1 ⟨rfl, hb1⟩
    have z1 := blk_below hz0 hb1
    have b1 := Nm.below_two hBa hb1
    have q0 := (blk_cell z1 0).trans rfl
    have q1 := (blk_cell z1 1).trans rfl
    clear hsz hz0 hb1 Z0
    go_wp2_with fail
    refine (hto _ b1).mono ?_
    rintro e w2 ⟨u2, qs2, rfl, hq2, hoz2, hb2⟩
    have z2 := blk_below z1 hb2
    have b2 := Nm.below_two b1 hb2
    clear q0 q1 z1
    go_wp2_with fail
    refine (hsp u2 qs2 _ hq2 hoz2.read).mono ?_
    rintro e w3 ⟨rfl, hb3⟩
    have z3 := blk_below z2 hb3
    have b3 := Nm.below_two b2 hb3
    have q0 := (blk_cell z3 0).trans rfl
    have q1 := (blk_cell z3 1).trans rfl
    clear z2 hsp hoz2
    go_wp2_with fail
    refine (hto _ b3).mono ?_
    rintro e w4 ⟨u4, qs4, rfl, hq4, hoz4, hb4⟩
    obtain ⟨ua4, uc4, hu4⟩ := own_sl hoz4.1
    subst hu4
    have z4 := blk_below z3 hb4
    have b4 := Nm.below_two b3 hb4
    have hbA := (Below.refl w4.heap.size w4).alloc (Nat.le_refl _) (.cells #[.string o, .slice ua4 qs4.length uc4] 29)
    have x4 := blk_new w4 #[.string o, .slice ua4 qs4.length uc4] 29
    have hszA : (w4.alloc (.cells #[.string o, .slice ua4 qs4.length uc4] 29)).heap.size = w4.heap.size + 1 := by simp
    have hozA := hoz4.below hbA
    clear q0 q1 z3
    go_wp2_with fail
    refine (him _ qs4 _ hq4 hozA.read).mono ?_
    rintro e w6 ⟨rfl, hb5⟩
    have z6 := blk_below (blk_below z4 hbA) hb5
    have x6 := blk_below x4 hb5
    have hbA5 := Nm.below_two hbA hb5
    have b6 := Nm.below_two b4 hbA5
    have hoz6 := hoz4.below hbA5
    clear z4 x4 hozA hoz4 hbA hbA5 hb5 hszA
    have hS : ∀ W, Below w6.heap.size w6 W → ((W.cell? ⟨w.heap.size, 0, none⟩ = some (.string o) ∧ W.cell? ⟨w.heap.size, 1, none⟩ = some (.slice a ps.length cap)) ∧ (W.cell? ⟨w4.heap.size, 0, none⟩ = some (.string o) ∧ W.cell? ⟨w4.heap.size, 1, none⟩ = some (.slice ua4 qs4.length uc4))) ∧ Below w6.heap.size w6 W := by
      intro W hW
      have y1 := blk_below z6 hW
      have y2 := blk_below x6 hW
      exact ⟨⟨⟨(blk_cell y1 0).trans rfl, (blk_cell y1 1).trans rfl⟩, (blk_cell y2 0).trans rfl, (blk_cell y2 1).trans rfl⟩, hW⟩
    have hS0 := hS w6.drew (Below.refl _ _).drew
    go_wp2
    go_region_held3 (fun W => ((W.cell? ⟨w.heap.size, 0, none⟩ = some (.string o) ∧ W.cell? ⟨w.heap.size, 1, none⟩ = some (.slice a ps.length cap)) ∧ (W.cell? ⟨w4.heap.size, 0, none⟩ = some (.string o) ∧ W.cell? ⟨w4.heap.size, 1, none⟩ = some (.slice ua4 qs4.length uc4))) ∧ Below w6.heap.size w6 W) (first | with_reducible assumption | with_reducible exact hS0) ((first | (go_at_call 9; refine (hto _ (Nm.below_two b6 hS0.2)).mono ?_; rintro e w7 ⟨u7, qs7, rfl, hq7, hoz7, hb7⟩; have hb67 : Below w6.heap.size w6 w7 := Nm.below_two (Below.refl _ _).drew hb7; have hS7 := hS _ hb67) | (go_at_call 11; refine (hez _ _ qs4 qs7 _ hq4 hq7 (hoz6.below hb67).read hoz7.read).mono ?_; rintro e w8 ⟨rfl, hb8⟩; have hb68 := Nm.below_two hb67 hb8; have hS8 := hS _ hb68)))
    have b8 := Nm.below_two b6 hb68
    go_wp2
    go_ret
    exact ⟨rfl, b8⟩
  · have e1 : szZ o ps 1048576 = -1 := if_neg hb
    rw [e1] at hsz
    clear hb e1 hx Z0
    go_enter Tryz.func3, Tryz.ntmps3
    go_wp2_with fail
    refine hsz.mono ?_
    rintro e w1 ⟨rfl, b1⟩
    go_wp2
    go_ret
    exact ⟨rfl, Nm.below_two hBa b1⟩
end Go.Proofs.YtnpegoclghfmpaaGreat
