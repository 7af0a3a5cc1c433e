import Derived.Test.YtdcbhohlglncnaaGreatJMath
import Derived.Test.YtdcbhohlglncnaaGreatJCzO
import Derived.RegionTactic
import Derived.BigRegion
import Derived.Deep.RegionHeld3
import Derived.Deep.Slices
import Derived.Deep.Strs
import Derived.ChangeSame
/- laws.eqSet, eqSetS, eqZone by their contracts. -/
namespace Go.Proofs.YtdcbhohlglncnaaGreat
open Go.RowKit
set_option linter.unusedVariables false
theorem strz_ne (s : ByteArray) : (s.toList != s.toList) = false ∧ (s.toList == s.toList) = true := by simp
set_option maxRecDepth 100000 in
set_option maxHeartbeats 800000 in
theorem eqSet_any (s : Sz) (dv du : Value) (w : World) (h : Nm.SRow w dv s.da) (h' : Nm.SRow w du s.da) (hl : s.da.length ≤ 1000000000) :
 Calls Tryz.prog 54 #[.agg #[.string s.own, .int .i64 s.ty, .int .i64 s.tt, dv], .agg #[.string s.own, .int .i64 s.ty, .int .i64 s.tt, du]] w fun e w' => e = .returned (.bool true) ∧ Below w.heap.size w w' := by
 obtain ⟨o, ty, tt, da⟩ := s
 simp only at *
 have e1 : (ty != ty) = false := by simp
 have e2 : (tt != tt) = false := by simp
 obtain ⟨e3, e4⟩ := strz_ne o
 have hB := ((Below.refl w.heap.size w).alloc (Nat.le_refl _) (.cells #[.string o, .int .i64 ty, .int .i64 tt, dv] 87)).alloc (by simp) (.cells #[.string o, .int .i64 ty, .int .i64 tt, du] 87)
 have hone := eqStringS_any dv du da _ (h.below hB) (h'.below hB) hl
 obtain ⟨a, cap, rfl, _⟩ := h
 obtain ⟨a', cap', rfl, _⟩ := h'
 go_enter Tryz.func54, Tryz.ntmps54
 go_wp2_with (go_at_call 86; refine hone.mono ?_; rintro e w1 ⟨rfl, hb1⟩)
 go_ret
 exact ⟨rfl, Nm.below_two hB hb1⟩
set_option maxRecDepth 100000 in
set_option maxHeartbeats 1600000 in
theorem eqSetS_any (v u : Value) (qs rs : List Zp) (w : World) (h : ZRow w v qs) (h' : ZRow w u rs) (he : qs.map (·.1) = rs.map (·.1)) (hd : ∀ q ∈ qs, q.1.da.length ≤ 1000000000) :
 Calls Tryz.prog 30 #[v, u] w fun e w' => e = .returned (.bool true) ∧ Below w.heap.size w w' := by
 have hlen : rs.length = qs.length := by have := congrArg List.length he; simpa using this.symm
 obtain ⟨⟨_, a, cap, rfl, hcap, hmx, hc⟩, hq⟩ := h
 obtain ⟨⟨_, a', cap', rfl, hcap', hmx', hc'⟩, hr⟩ := h'
 unfold maxLen at hmx hmx'
 rw [hlen] at hcap' hc' ⊢
 have hne : ((qs.length : Int) != (qs.length : Int)) = false := by simp
 go_enter Tryz.func30, Tryz.ntmps30
 go_wp2
 go_loopw [5] (fun i wr => ∃ k : Nat, k ≤ qs.length ∧ i = .int .i64 k ∧ Below w.heap.size w wr) (fun i _ => qs.length - (intOf i).toNat)
 case atStart => exact ⟨0, Nat.zero_le _, rfl, Below.refl _ _⟩
 case round =>
  obtain ⟨k, hk, rfl, hbel⟩ := hrel
  by_cases hlt : k < qs.length
  · obtain ⟨x, hx⟩ : ∃ x, qs[k]? = some x := ⟨_, List.getElem?_eq_getElem hlt⟩
    obtain ⟨y, hy⟩ : ∃ y, rs[k]? = some y := ⟨_, List.getElem?_eq_getElem (by omega)⟩
    have hxy : y.1 = x.1 := by
     have := congrArg (fun l => l[k]?) he
     simp [hx, hy] at this
     exact this.symm
    obtain ⟨b, off, rfl, hcell⟩ := hc (by omega)
    obtain ⟨b', off', rfl, hcell'⟩ := hc' (by omega)
    have R1 := zp_cells hcell hx
    have R2 := zp_cells hcell' hy
    have s1 := hq x (List.mem_of_getElem? hx)
    have s2 := hr y (List.mem_of_getElem? hy)
    have hdl := hd x (List.mem_of_getElem? hx)
    rw [hxy] at R2 s2
    obtain ⟨s, dv⟩ := x
    obtain ⟨s', du⟩ := y
    simp only at hxy R1 R2 s1 s2 hdl
    have heq := fun W (hW : Below w.heap.size w W) => (eqSet_any s dv du W (s1.below hW) (s2.below hW) hdl).mono (R' := fun e w' => e = .returned (.bool true) ∧ Below w.heap.size w w') (by rintro e w' ⟨he, hb⟩; exact ⟨he, hW.trans (hb.mono hW.size)⟩)
    obtain ⟨o, ty, tt, da⟩ := s
    simp only at R1 R2 heq
    have hS : ∀ W, Below w.heap.size w W → ((W.cell? ⟨b, off + k * 4, none⟩ = some (.string o) ∧ W.cell? ⟨b, off + k * 4 + 1, none⟩ = some (.int .i64 ty) ∧ W.cell? ⟨b, off + k * 4 + 2, none⟩ = some (.int .i64 tt) ∧ W.cell? ⟨b, off + k * 4 + 3, none⟩ = some dv) ∧ (W.cell? ⟨b', off' + k * 4, none⟩ = some (.string o) ∧ W.cell? ⟨b', off' + k * 4 + 1, none⟩ = some (.int .i64 ty) ∧ W.cell? ⟨b', off' + k * 4 + 2, none⟩ = some (.int .i64 tt) ∧ W.cell? ⟨b', off' + k * 4 + 3, none⟩ = some du)) ∧ Below w.heap.size w W := by
     intro W hW
     have put : ∀ {B O : Nat} {z : Value}, w.cell? ⟨B, O, none⟩ = some z → W.cell? ⟨B, O, none⟩ = some z := fun h => (hW.cell (World.block_lt_of_cell? w _ h)).trans h
     exact ⟨⟨⟨put R1.1, put R1.2.1, put R1.2.2.1, put R1.2.2.2⟩, ⟨put R2.1, put R2.2.1, put R2.2.2.1, put R2.2.2.2⟩⟩, hW⟩
    have hS0 := hS wr.drew hbel.drew
    have i1 : (0 : Int) ≤ (k : Int) := by omega
    have i2 : (k : Int) < (qs.length : Int) := by omega
    clear hc hc' hcell hcell' hx hy R1 R2 s1 s2 hq hr he hd
    go_wp2
    go_region_held3 (fun W => ((W.cell? ⟨b, off + k * 4, none⟩ = some (.string o) ∧ W.cell? ⟨b, off + k * 4 + 1, none⟩ = some (.int .i64 ty) ∧ W.cell? ⟨b, off + k * 4 + 2, none⟩ = some (.int .i64 tt) ∧ W.cell? ⟨b, off + k * 4 + 3, none⟩ = some dv) ∧ (W.cell? ⟨b', off' + k * 4, none⟩ = some (.string o) ∧ W.cell? ⟨b', off' + k * 4 + 1, none⟩ = some (.int .i64 ty) ∧ W.cell? ⟨b', off' + k * 4 + 2, none⟩ = some (.int .i64 tt) ∧ W.cell? ⟨b', off' + k * 4 + 3, none⟩ = some du)) ∧ Below w.heap.size w W) (first | with_reducible assumption | with_reducible exact hS0) ((first | (go_at_call 54; refine (heq _ hS0.2).mono ?_; rintro e w' ⟨rfl, hb1⟩; have hS1 := hS _ hb1)))
    go_wp2
    go_roundw
    case rel => exact ⟨k + 1, by omega, by go_num, hS1.2⟩
    case measure => simp [intOf]; omega
  · clear hc hc' hq hr
    have i2 : (qs.length : Int) ≤ (k : Int) := by omega
    go_wp2
    go_ret
    exact ⟨rfl, hbel⟩
set_option maxRecDepth 100000 in
set_option maxHeartbeats 800000 in
theorem eqZone_any (o : ByteArray) (v u : Value) (qs rs : List Zp) (w : World) (h : ZRow w v qs) (h' : ZRow w u rs) (he : qs.map (·.1) = rs.map (·.1)) (hd : ∀ q ∈ qs, q.1.da.length ≤ 1000000000) :
 Calls Tryz.prog 10 #[.agg #[.string o, v], .agg #[.string o, u]] w fun e w' => e = .returned (.bool true) ∧ Below w.heap.size w w' := by
 obtain ⟨e3, e4⟩ := strz_ne o
 have hB := ((Below.refl w.heap.size w).alloc (Nat.le_refl _) (.cells #[.string o, v] 28)).alloc (by simp) (.cells #[.string o, u] 28)
 have hone := eqSetS_any v u qs rs _ (h.below hB) (h'.below hB) he hd
 obtain ⟨⟨_, a, cap, rfl, _⟩, _⟩ := h
 obtain ⟨⟨_, a', cap', rfl, _⟩, _⟩ := h'
 clear he hd
 go_enter Tryz.func10, Tryz.ntmps10
 go_wp2_with (go_at_call 30; refine hone.mono ?_; rintro e w1 ⟨rfl, hb1⟩)
 go_ret
 exact ⟨rfl, Nm.below_two hB hb1⟩
end Go.Proofs.YtdcbhohlglncnaaGreat
/- A zone that came in, opened. -/
namespace Go.Proofs.YtdcbhohlglncnaaGreat
open Go.RowKit Go.Deep
set_option linter.unusedVariables false
section
variable {H : Type} {enc : TypeId × Value → H} {w : World} {base : Nat} {held : Bool}
theorem set_c : Tryz.prog.cellsOf 9 = 1 ∧ Tryz.prog.cellsOf 2 = 1 ∧ Tryz.prog.cellsOf 80 = 1 ∧ Tryz.prog.cellsOf 82 = 4 := ⟨by kernel_rfl, by kernel_rfl, by kernel_rfl, by kernel_rfl⟩
theorem open_srow {fuel : Nat} {v : Value} {x : DataW H × List MemPlace} (h : DataW.trod enc Tryz.prog w base (fun _ => true) held fuel 80 [v] = some x) :
 ∃ ls, Nm.SRow w v ls ∧ ∀ y ∈ ls, y.size ≤ maxLen := by
 rcases Go.Deep.open_strs Tryz.underlying80 Tryz.underlying9 (by kernel_rfl) h with ⟨hcs, _⟩ | ⟨a, l, c, m, Sx, hcs, _, hl, hm, hz, _, hcell⟩
 · simp at hcs
   subst hcs
   exact ⟨[], ⟨none, 0, rfl, by simp, by decide, fun _ => rfl, fun h => absurd rfl h⟩, by simp⟩
 · simp at hcs
   subst hcs
   have hz' : m = c := by simpa using hz
   subst hz'
   refine ⟨(List.range l).map Sx, ⟨some a, m, by simp, by simpa using hl, hm, (fun h => by cases h), fun hne => ?_⟩, ?_⟩
   · have hpos : 0 < l := by
      rcases Nat.eq_zero_or_pos l with h | h
      · subst h; simp at hne
      · exact h
     obtain ⟨b, off, spot⟩ := a
     have h0 := (hcell 0 (by omega)).1
     have hspot : spot = none := by simpa [Addr.add] using World.cell?_spot h0
     subst hspot
     refine ⟨b, off, rfl, ?_⟩
     intro i x hx
     have hi : i < l := by
      have := (List.getElem?_eq_some_iff.1 hx).1
      simpa using this
     have := (hcell i (by omega)).1
     rw [Nm.addr_add] at this
     rw [this]
     simp [hi] at hx
     rw [hx]
   · intro y hy
     simp only [List.mem_map, List.mem_range] at hy
     obtain ⟨i, hi, rfl⟩ := hy
     exact (hcell i (by omega)).2
set_option maxRecDepth 100000 in
theorem open_set {fuel : Nat} {cs : List Value} {x : DataW H × List MemPlace} (h : DataW.trod enc Tryz.prog w base (fun _ => true) held fuel 82 cs = some x) (hl : cs.length = 4) :
 ∃ p : Zp, cs = zpV p ∧ Nm.SRow w p.2 p.1.da ∧ p.1.own.size ≤ maxLen ∧ ∀ y ∈ p.1.da, y.size ≤ maxLen := by
 obtain ⟨xs, n, _, _, _, hxl, hf⟩ := DataW.trod_struct Tryz.underlying82 h
 obtain ⟨c1, c2, c3, _⟩ := set_c
 match cs, hl with
 | [v0, v1, v2, v3], _ =>
   have g0 := hf 0 _ rfl
   have g1 := hf 1 _ rfl
   have g2 := hf 2 _ rfl
   have g3 := hf 3 _ rfl
   match xs, hxl with
   | [y0, y1, y2, y3], _ =>
     simp [c1, c2, c3] at g0 g1 g2 g3
     obtain ⟨s0, e0, _, w0⟩ := DataW.trod_string Tryz.underlying9 g0
     obtain ⟨n1, e1, _, w1⟩ := DataW.trod_int Tryz.underlying2 g1
     obtain ⟨n2, e2, _, w2⟩ := DataW.trod_int Tryz.underlying2 g2
     obtain ⟨ls, hs, hy⟩ := open_srow g3
     simp at e0 e1 e2
     subst e0 e1 e2
     exact ⟨(⟨s0, n1, n2, ls⟩, v3), rfl, hs, w0, hy⟩
theorem choose_zp {n : Nat} {p : Nat → Zp → Prop} (h : ∀ i, i < n → ∃ x, p i x) : ∃ f : Nat → Zp, ∀ i, i < n → p i (f i) := by
 classical
 refine ⟨fun i => if hi : i < n then Classical.choose (h i hi) else (⟨.empty, 0, 0, []⟩, .slice none 0 0), fun i hi => ?_⟩
 simp only [dif_pos hi]
 exact Classical.choose_spec (h i hi)
set_option maxRecDepth 100000 in
theorem open_sets {t : TypeId} {fuel : Nat} {v : Value} {x : DataW H × List MemPlace} (ht : Tryz.prog.underlying t = some (.slice 82)) (h : DataW.trod enc Tryz.prog w base (fun _ => true) held fuel t [v] = some x) :
 ∃ ps : List Zp, ZRow w v ps ∧ ZFit ps := by
 rcases open_slice ht h with ⟨e, _⟩ | ⟨a, len, cap, m, n, D, Pl, e, hb, hl, hm, hmm, _, hx⟩
 · simp at e
   subst e
   exact ⟨[], ⟨⟨rfl, none, 0, rfl, Nat.le_refl _, by decide, fun h => absurd h (by simp)⟩, by simp⟩, by intro p hp; simp at hp⟩
 · simp at e
   subst e
   have hlm : len ≤ m := by rw [hmm]; split <;> omega
   obtain ⟨_, _, _, c4⟩ := set_c
   rw [c4] at hx
   obtain ⟨f, hf⟩ := choose_zp (n := len) (p := fun i r => (∀ j, j < 4 → w.cell? ((a.add (i * 4)).add j) = (zpV r)[j]?) ∧ Nm.SRow w r.2 r.1.da ∧ r.1.own.size ≤ maxLen ∧ ∀ y ∈ r.1.da, y.size ≤ maxLen) (fun i hi => by
    obtain ⟨cs', h1, h2⟩ := hx i (by omega)
    obtain ⟨_, hlen, hcell⟩ := World.cells?_some h1
    obtain ⟨r, rfl, q⟩ := open_set h2 hlen
    exact ⟨r, hcell, q⟩)
   refine ⟨(List.range len).map f, ⟨⟨?_, some a, cap, by simp, by simpa using hl, hm, fun hpos => ?_⟩, ?_⟩, ?_⟩
   · rw [zpVs_len]
   · have hlen : 0 < len := by simpa using hpos
     obtain ⟨b, off, spot⟩ := a
     have h0 := (hf 0 hlen).1 0 (by decide)
     have h0' : w.cell? ((Addr.mk b off spot).add (0 * 4 + 0)) = some (.string (f 0).1.own) := by rw [← add_add]; exact h0
     have hspot : spot = none := by simpa [Addr.add] using World.cell?_spot h0'
     subst hspot
     refine ⟨b, off, rfl, ?_⟩
     intro i y hy
     have hi : i < len * 4 := by
      have := (List.getElem?_eq_some_iff.1 hy).1
      rw [zpVs_len] at this
      simpa using this
     obtain ⟨k, j, hk, hj, rfl⟩ : ∃ k j, k < len ∧ j < 4 ∧ i = k * 4 + j := ⟨i / 4, i % 4, by omega, by omega, by omega⟩
     rw [zpVs_at _ k j (f k) (by simp [hk]) hj] at hy
     have := (hf k hk).1 j hj
     rw [add_add, hy, Nm.addr_add] at this
     exact this
   · intro p hp
     simp only [List.mem_map, List.mem_range] at hp
     obtain ⟨i, hi, rfl⟩ := hp
     exact (hf i hi).2.1
   · intro p hp
     simp only [List.mem_map, List.mem_range] at hp
     obtain ⟨i, hi, rfl⟩ := hp
     exact (hf i hi).2.2
end
end Go.Proofs.YtdcbhohlglncnaaGreat
