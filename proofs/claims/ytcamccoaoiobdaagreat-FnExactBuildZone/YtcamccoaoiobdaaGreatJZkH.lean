import Derived.Test.YtcamccoaoiobdaaGreatZkD
import Derived.Deep.RegionHeld3
import Derived.Test.YtcamccoaoiobdaaGreatJMath
import Derived.Test.YtcamccoaoiobdaaGreatRows
import Derived.WalkSpells
import Derived.WalkLawsBesides
import Derived.RegionTactic
import Derived.BigRegion
import Derived.BigQuiet
import Derived.Deep.QuietTactic
import Derived.Test.YtcamccoaoiobdaaGreatJZnM
/- laws.heldZone, markZone: whole. -/
namespace Go.Proofs.YtcamccoaoiobdaaGreat
open Go.RowKit
set_option linter.unusedVariables false

theorem ZOwn.zrow {w : World} {B : Nat} {v : Value} {ps : List Zp} (h : ZOwn w B v ps) : ZRow w v ps :=
  ⟨CRow.of_owns h.outer, fun p hp => by obtain ⟨i, hi⟩ := List.getElem?_of_mem hp; exact Nm.SRow.of_owns (h.inner i p hi)⟩

set_option maxRecDepth 100000 in
set_option maxHeartbeats 1600000 in
theorem heldSetS_any (v : Value) (qs : List Zp) (k : Nat) (w : World) (h : ZRow w v (mkZ k qs)) (hn : zl qs ≤ 400000) (hk : k ≤ 100000) :
    Calls Tryz.prog 29 #[v, .int .i64 (k : Int)] w fun e w' => e = .returned (.int .i64 ((k + zl qs : Nat) : Int)) ∧ Below w.heap.size w w' := by
  obtain ⟨⟨_, a, cap, e0, hcap, hmx, hc⟩, hd⟩ := h
  rw [mkZ_len] at *
  subst e0
  have hql := zl_len qs
  go_enter Tryz.func29, Tryz.ntmps29
  go_wp2
  go_loopw [1, 5] (fun t i wr => ∃ j : Nat, j ≤ qs.length ∧ i = .int .i64 (j : Int) ∧ t = .int .i64 ((k : Int) + (zl (qs.take j) : Int)) ∧ Below w.heap.size w wr) (fun _ i _ => qs.length - (intOf i).toNat)
  case atStart => exact ⟨0, Nat.zero_le _, rfl, by simp [zl], Below.refl _ _⟩
  case round =>
    obtain ⟨j, hj, rfl, rfl, hbel⟩ := hrel
    by_cases hlt : j < qs.length
    · obtain ⟨q, hq⟩ : ∃ q, qs[j]? = some q := ⟨_, List.getElem?_eq_getElem hlt⟩
      obtain ⟨b, off, rfl, hcell⟩ := hc (by omega)
      have hmq := mkZ_get qs k j q hq
      obtain ⟨c0, c1, c2, c3⟩ := zp_cells hcell hmq
      have hsr := hd _ (List.mem_of_getElem? hmq)
      simp only [mkZp] at c0 c1 c2 c3 hsr
      have hst := zl_step qs j q hq
      have hle := zl_take_le qs (j + 1)
      have hzb : zl (qs.take j) ≤ 400000 := by omega
      have hsr9 := hsr
      obtain ⟨qa, qc, eq, _⟩ := hsr9
      rw [mks_len] at eq
      rw [eq] at c3 hsr
      have hhs := fun W (hW : Below w.heap.size w W) => heldStringS_any (.slice qa q.1.da.length qc) q.1.da.length (k + zl (qs.take j) + 3) W (hsr.below hW) (by omega) (by omega)
      rw [show ((k + zl (qs.take j) + 3 : Nat) : Int) = (k : Int) + (zl (qs.take j) : Int) + 1 + 1 + 1 by omega, show ((k + zl (qs.take j) + 3 + q.1.da.length : Nat) : Int) = (k : Int) + (zl (qs.take (j + 1)) : Int) by omega] at hhs
      rw [show ((k + zl (qs.take j) + 1 : Nat) : Int) = (k : Int) + (zl (qs.take j) : Int) + 1 by omega] at c1
      rw [show ((k + zl (qs.take j) + 2 : Nat) : Int) = (k : Int) + (zl (qs.take j) : Int) + 1 + 1 by omega] at c2
      have hS : ∀ W, Below w.heap.size w W → W.cell? ⟨b, off + j * 4, none⟩ = some (.string (mkS (k + zl (qs.take j)))) ∧ Below w.heap.size w W := fun W hW => ⟨(hW.cell (World.block_lt_of_cell? w _ c0)).trans c0, hW⟩
      have hS12 : ∀ W, Below w.heap.size w W → W.cell? ⟨b, off + j * 4 + 1, none⟩ = some (.int .i64 ((k : Int) + (zl (qs.take j) : Int) + 1)) ∧ W.cell? ⟨b, off + j * 4 + 2, none⟩ = some (.int .i64 ((k : Int) + (zl (qs.take j) : Int) + 1 + 1)) ∧ W.cell? ⟨b, off + j * 4 + 3, none⟩ = some (.slice qa q.1.da.length qc) := fun W hW => ⟨(hW.cell (World.block_lt_of_cell? w _ c1)).trans c1, (hW.cell (World.block_lt_of_cell? w _ c2)).trans c2, (hW.cell (World.block_lt_of_cell? w _ c3)).trans c3⟩
      have hS0 := hS wr.drew hbel.drew
      have hmt := fun W (hW : Below w.heap.size w W) => (markText_any (k + zl (qs.take j)) W (by omega)).mono (R' := fun e w' => e = .returned (.string (mkS (k + zl (qs.take j)))) ∧ Below w.heap.size w w') (by rintro e w' ⟨he, hb⟩; exact ⟨he, hW.trans (hb.mono hW.size)⟩)
      rw [show (((k + zl (qs.take j) : Nat)) : Int) = (k : Int) + (zl (qs.take j) : Int) by omega] at hmt
      have hfin : 0 ≤ (k : Int) + (zl (qs.take (j + 1)) : Int) := by omega
      have hbig : zl (qs.take (j + 1)) ≤ 400000 := by omega
      generalize hz0 : zl (qs.take j) = z0 at *
      clear hz0 hst
      generalize hz1 : zl (qs.take (j + 1)) = z1 at *
      have HZ1 := Nm.hide hz1
      clear hz1
      obtain ⟨e3, e4⟩ := mr_ne (mkS (k + z0))
      have hne : ((k : Int) + (z0 : Int) + 1 != (k : Int) + (z0 : Int) + 1) = false := by simp
      have hne2 : ((k : Int) + (z0 : Int) + 1 + 1 != (k : Int) + (z0 : Int) + 1 + 1) = false := by simp
      have i1 : (0 : Int) ≤ (j : Int) := by omega
      have i2 : (j : Int) < (qs.length : Int) := by omega
      generalize mkS (k + z0) = ms at *
      clear hc hcell c0 c1 c2 c3 hd hsr hmq eq hq
      go_wp2
      go_region_held3 (fun W => W.cell? ⟨b, off + j * 4, none⟩ = some (.string ms) ∧ Below w.heap.size w W) (first | with_reducible assumption | with_reducible exact hS0) ((first | (go_at_call 27; with_reducible refine (hmt _ hS0.2).mono ?_; rintro e w1 ⟨rfl, hb1⟩; have hS1 := hS _ hb1)))
      obtain ⟨g1, g2, g3⟩ := hS12 _ hS1.2
      have hh1 := hhs _ hS1.2
      clear hhs hS12 hmt hS
      go_wp2_with (go_at_call 57; refine hh1.mono ?_; rintro e w2 ⟨rfl, hb2⟩)
      go_roundw
      case rel => exact ⟨j + 1, by omega, by go_num, by rw [HZ1.out], Nm.below_two hS1.2 hb2⟩
      case measure => simp [intOf]; omega
    · have hjn : j = qs.length := by omega
      subst hjn
      clear hc hd
      rw [List.take_length]
      go_wp2
      go_ret
      exact ⟨by rw [show ((k + zl qs : Nat) : Int) = (k : Int) + (zl qs : Int) by omega]; rfl, hbel⟩

set_option maxRecDepth 100000 in
set_option maxHeartbeats 800000 in
theorem markZone_own (o : ByteArray) (v : Value) (qs : List Zp) (B k : Nat) (w : World) (h : ZOwn w B v qs) (hn : zl qs ≤ 400000) (hk : k ≤ 100000) :
    Calls Tryz.prog 11 #[.agg #[.string o, v], .int .i64 (k : Int)] w fun e w' => e = .returned (.int .i64 ((k + zl qs : Nat) : Int)) ∧ ZOwn w' B v (mkZ k qs) ∧ Outs (zfp v qs) w w' := by
  have hB := (Below.refl w.heap.size w).alloc (Nat.le_refl _) (.cells #[.string o, v] 26)
  have hone := markSetS_own v qs B k _ (h.below hB) hn hk
  obtain ⟨a, cap, rfl⟩ := own_sl h.outer
  clear h
  go_enter Tryz.func11, Tryz.ntmps11
  go_wp2_with (go_at_call 28; refine hone.mono ?_; rintro e w1 ⟨rfl, hz, hm⟩)
  go_ret
  exact ⟨rfl, hz, (Outs.below (fp := zfp (.slice a qs.length cap) qs) hB).trans hm (fun k hk => .inl hk)⟩

set_option maxRecDepth 100000 in
set_option maxHeartbeats 800000 in
theorem heldZone_any (o : ByteArray) (v : Value) (qs : List Zp) (k : Nat) (w : World) (h : ZRow w v (mkZ k qs)) (hn : zl qs ≤ 400000) (hk : k ≤ 100000) :
    Calls Tryz.prog 12 #[.agg #[.string o, v], .int .i64 (k : Int)] w fun e w' => e = .returned (.int .i64 ((k + zl qs : Nat) : Int)) ∧ Below w.heap.size w w' := by
  have hB := (Below.refl w.heap.size w).alloc (Nat.le_refl _) (.cells #[.string o, v] 26)
  have hone := heldSetS_any v qs k _ (h.below hB) hn hk
  obtain ⟨⟨_, a, cap, rfl, _⟩, _⟩ := h
  rw [mkZ_len] at *
  have hnn : (0 : Int) ≤ ((k + zl qs : Nat) : Int) := by omega
  generalize ((k + zl qs : Nat) : Int) = R at *
  go_enter Tryz.func12, Tryz.ntmps12
  go_wp2_with (go_at_call 29; refine hone.mono ?_; rintro e w1 ⟨rfl, hb⟩)
  go_ret
  exact ⟨rfl, Nm.below_two hB hb⟩
end Go.Proofs.YtcamccoaoiobdaaGreat
/- laws.eqStringS over two slices that hold the same strings. -/
namespace Go.Proofs.YtcamccoaoiobdaaGreat
open Go.RowKit

set_option maxRecDepth 100000 in
set_option maxHeartbeats 800000 in
theorem eqStringS_any (v u : Value) (ls : List ByteArray) (w : World) (h : Nm.SRow w v ls) (h' : Nm.SRow w u ls) (hlen : ls.length ≤ 1000000000) :
    Calls Tryz.prog 85 #[v, u] w fun e w' => e = .returned (.bool true) ∧ Below w.heap.size w w' := by
  obtain ⟨a, cap, rfl, hcap, hmx, hnl, hc⟩ := h
  obtain ⟨a', cap', rfl, hcap', hmx', hnl', hc'⟩ := h'
  have hne : ((ls.length : Int) != (ls.length : Int)) = false := by simp
  clear hnl hnl'
  go_enter Tryz.func85, Tryz.ntmps85
  go_wp2
  go_loopw [5] (fun i wr => ∃ k : Nat, k ≤ ls.length ∧ i = .int .i64 k ∧ Below w.heap.size w wr) (fun i _ => ls.length - (intOf i).toNat)
  case atStart => exact ⟨0, Nat.zero_le _, rfl, Below.refl _ _⟩
  case round =>
    obtain ⟨k, hk, rfl, hbel⟩ := hrel
    by_cases hlt : k < ls.length
    · obtain ⟨x, hx⟩ : ∃ x, ls[k]? = some x := ⟨_, List.getElem?_eq_getElem hlt⟩
      have hls : ls ≠ [] := by intro h; rw [h] at hlt; simp at hlt
      obtain ⟨b, off, rfl, hcell⟩ := hc hls
      obtain ⟨b', off', rfl, hcell'⟩ := hc' hls
      have hcx : wr.cell? ⟨b, off + k, none⟩ = some (.string x) := (hbel.cell (World.block_lt_of_cell? w _ (hcell k x hx))).trans (hcell k x hx)
      have hcx' : wr.cell? ⟨b', off' + k, none⟩ = some (.string x) := (hbel.cell (World.block_lt_of_cell? w _ (hcell' k x hx))).trans (hcell' k x hx)
      have hxx : (x.toList == x.toList) = true := by simp
      clear hx hcell hcell' hc hc' hls
      go_wp2
      go_region
      all_goals
        go_wp2
        go_roundw
        case rel => exact ⟨k + 1, by omega, by go_num, hbel.drew⟩
        case measure => simp [intOf]; omega
    · go_wp2
      go_ret
      exact ⟨rfl, hbel⟩
end Go.Proofs.YtcamccoaoiobdaaGreat
/- laws.eqSet, eqSetS, eqZone by their contracts. -/
namespace Go.Proofs.YtcamccoaoiobdaaGreat
open Go.RowKit
set_option linter.unusedVariables false

theorem strz_ne (s : ByteArray) : (s.toList != s.toList) = false ∧ (s.toList == s.toList) = true := by simp

set_option maxRecDepth 100000 in
set_option maxHeartbeats 800000 in
theorem eqSet_any (s : Sz) (dv du : Value) (w : World) (h : Nm.SRow w dv s.da) (h' : Nm.SRow w du s.da) (hl : s.da.length ≤ 1000000000) :
    Calls Tryz.prog 55 #[.agg #[.string s.own, .int .i64 s.ty, .int .i64 s.tt, dv], .agg #[.string s.own, .int .i64 s.ty, .int .i64 s.tt, du]] w fun e w' => e = .returned (.bool true) ∧ Below w.heap.size w w' := by
  obtain ⟨o, ty, tt, da⟩ := s
  simp only at *
  have e1 : (ty != ty) = false := by simp
  have e2 : (tt != tt) = false := by simp
  obtain ⟨e3, e4⟩ := strz_ne o
  have hB := ((Below.refl w.heap.size w).alloc (Nat.le_refl _) (.cells #[.string o, .int .i64 ty, .int .i64 tt, dv] 54)).alloc (by simp) (.cells #[.string o, .int .i64 ty, .int .i64 tt, du] 54)
  have hone := eqStringS_any dv du da _ (h.below hB) (h'.below hB) hl
  obtain ⟨a, cap, rfl, _⟩ := h
  obtain ⟨a', cap', rfl, _⟩ := h'
  go_enter Tryz.func55, Tryz.ntmps55
  go_wp2_with (go_at_call 85; refine hone.mono ?_; rintro e w1 ⟨rfl, hb1⟩)
  go_ret
  exact ⟨rfl, Nm.below_two hB hb1⟩

set_option maxRecDepth 100000 in
set_option maxHeartbeats 1600000 in
theorem eqSetS_any (v u : Value) (qs rs : List Zp) (w : World) (h : ZRow w v qs) (h' : ZRow w u rs) (he : qs.map (·.1) = rs.map (·.1)) (hd : ∀ q ∈ qs, q.1.da.length ≤ 1000000000) :
    Calls Tryz.prog 25 #[v, u] w fun e w' => e = .returned (.bool true) ∧ Below w.heap.size w w' := by
  have hlen : rs.length = qs.length := by have := congrArg List.length he; simpa using this.symm
  obtain ⟨⟨_, a, cap, rfl, hcap, hmx, hc⟩, hq⟩ := h
  obtain ⟨⟨_, a', cap', rfl, hcap', hmx', hc'⟩, hr⟩ := h'
  unfold maxLen at hmx hmx'
  rw [hlen] at hcap' hc' ⊢
  have hne : ((qs.length : Int) != (qs.length : Int)) = false := by simp
  go_enter Tryz.func25, Tryz.ntmps25
  go_wp2
  go_loopw [5] (fun i wr => ∃ k : Nat, k ≤ qs.length ∧ i = .int .i64 k ∧ Below w.heap.size w wr) (fun i _ => qs.length - (intOf i).toNat)
  case atStart => exact ⟨0, Nat.zero_le _, rfl, Below.refl _ _⟩
  case round =>
    obtain ⟨k, hk, rfl, hbel⟩ := hrel
    by_cases hlt : k < qs.length
    · obtain ⟨x, hx⟩ : ∃ x, qs[k]? = some x := ⟨_, List.getElem?_eq_getElem hlt⟩
      obtain ⟨y, hy⟩ : ∃ y, rs[k]? = some y := ⟨_, List.getElem?_eq_getElem (by omega)⟩
      have hxy : y.1 = x.1 := by
        have := congrArg (fun l => l[k]?) he
        simp [hx, hy] at this
        exact this.symm
      obtain ⟨b, off, rfl, hcell⟩ := hc (by omega)
      obtain ⟨b', off', rfl, hcell'⟩ := hc' (by omega)
      have R1 := zp_cells hcell hx
      have R2 := zp_cells hcell' hy
      have s1 := hq x (List.mem_of_getElem? hx)
      have s2 := hr y (List.mem_of_getElem? hy)
      have hdl := hd x (List.mem_of_getElem? hx)
      rw [hxy] at R2 s2
      obtain ⟨s, dv⟩ := x
      obtain ⟨s', du⟩ := y
      simp only at hxy R1 R2 s1 s2 hdl
      have heq := fun W (hW : Below w.heap.size w W) => (eqSet_any s dv du W (s1.below hW) (s2.below hW) hdl).mono (R' := fun e w' => e = .returned (.bool true) ∧ Below w.heap.size w w') (by rintro e w' ⟨he, hb⟩; exact ⟨he, hW.trans (hb.mono hW.size)⟩)
      obtain ⟨o, ty, tt, da⟩ := s
      simp only at R1 R2 heq
      have hS : ∀ W, Below w.heap.size w W → ((W.cell? ⟨b, off + k * 4, none⟩ = some (.string o) ∧ W.cell? ⟨b, off + k * 4 + 1, none⟩ = some (.int .i64 ty) ∧ W.cell? ⟨b, off + k * 4 + 2, none⟩ = some (.int .i64 tt) ∧ W.cell? ⟨b, off + k * 4 + 3, none⟩ = some dv) ∧ (W.cell? ⟨b', off' + k * 4, none⟩ = some (.string o) ∧ W.cell? ⟨b', off' + k * 4 + 1, none⟩ = some (.int .i64 ty) ∧ W.cell? ⟨b', off' + k * 4 + 2, none⟩ = some (.int .i64 tt) ∧ W.cell? ⟨b', off' + k * 4 + 3, none⟩ = some du)) ∧ Below w.heap.size w W := by
        intro W hW
        have put : ∀ {B O : Nat} {z : Value}, w.cell? ⟨B, O, none⟩ = some z → W.cell? ⟨B, O, none⟩ = some z := fun h => (hW.cell (World.block_lt_of_cell? w _ h)).trans h
        exact ⟨⟨⟨put R1.1, put R1.2.1, put R1.2.2.1, put R1.2.2.2⟩, ⟨put R2.1, put R2.2.1, put R2.2.2.1, put R2.2.2.2⟩⟩, hW⟩
      have hS0 := hS wr.drew hbel.drew
      have i1 : (0 : Int) ≤ (k : Int) := by omega
      have i2 : (k : Int) < (qs.length : Int) := by omega
      clear hc hc' hcell hcell' hx hy R1 R2 s1 s2 hq hr he hd
      go_wp2
      go_region_held3 (fun W => ((W.cell? ⟨b, off + k * 4, none⟩ = some (.string o) ∧ W.cell? ⟨b, off + k * 4 + 1, none⟩ = some (.int .i64 ty) ∧ W.cell? ⟨b, off + k * 4 + 2, none⟩ = some (.int .i64 tt) ∧ W.cell? ⟨b, off + k * 4 + 3, none⟩ = some dv) ∧ (W.cell? ⟨b', off' + k * 4, none⟩ = some (.string o) ∧ W.cell? ⟨b', off' + k * 4 + 1, none⟩ = some (.int .i64 ty) ∧ W.cell? ⟨b', off' + k * 4 + 2, none⟩ = some (.int .i64 tt) ∧ W.cell? ⟨b', off' + k * 4 + 3, none⟩ = some du)) ∧ Below w.heap.size w W) (first | with_reducible assumption | with_reducible exact hS0) ((first | (go_at_call 55; refine (heq _ hS0.2).mono ?_; rintro e w' ⟨rfl, hb1⟩; have hS1 := hS _ hb1)))
      go_wp2
      go_roundw
      case rel => exact ⟨k + 1, by omega, by go_num, hS1.2⟩
      case measure => simp [intOf]; omega
    · clear hc hc' hq hr
      have i2 : (qs.length : Int) ≤ (k : Int) := by omega
      go_wp2
      go_ret
      exact ⟨rfl, hbel⟩

set_option maxRecDepth 100000 in
set_option maxHeartbeats 800000 in
theorem eqZone_any (o : ByteArray) (v u : Value) (qs rs : List Zp) (w : World) (h : ZRow w v qs) (h' : ZRow w u rs) (he : qs.map (·.1) = rs.map (·.1)) (hd : ∀ q ∈ qs, q.1.da.length ≤ 1000000000) :
    Calls Tryz.prog 8 #[.agg #[.string o, v], .agg #[.string o, u]] w fun e w' => e = .returned (.bool true) ∧ Below w.heap.size w w' := by
  obtain ⟨e3, e4⟩ := strz_ne o
  have hB := ((Below.refl w.heap.size w).alloc (Nat.le_refl _) (.cells #[.string o, v] 26)).alloc (by simp) (.cells #[.string o, u] 26)
  have hone := eqSetS_any v u qs rs _ (h.below hB) (h'.below hB) he hd
  obtain ⟨⟨_, a, cap, rfl, _⟩, _⟩ := h
  obtain ⟨⟨_, a', cap', rfl, _⟩, _⟩ := h'
  clear he hd
  go_enter Tryz.func8, Tryz.ntmps8
  go_wp2_with (go_at_call 25; refine hone.mono ?_; rintro e w1 ⟨rfl, hb1⟩)
  go_ret
  exact ⟨rfl, Nm.below_two hB hb1⟩
end Go.Proofs.YtcamccoaoiobdaaGreat
