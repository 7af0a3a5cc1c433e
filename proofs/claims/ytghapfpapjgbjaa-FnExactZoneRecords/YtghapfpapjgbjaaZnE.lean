/- laws.eqSet, eqSetS, eqZone by their contracts. -/
import Derived.Test.YtghapfpapjgbjaaZnM
import Derived.Test.YtghapfpapjgbjaaEqStr
import Derived.RegionTactic
import Derived.BigRegion
import Derived.Deep.RegionHeld3
namespace Go.Proofs.Ytghapfpapjgbjaa
open Go.RowKit
set_option linter.unusedVariables false

theorem strz_ne (s : ByteArray) : (s.toList != s.toList) = false ∧ (s.toList == s.toList) = true := by simp

set_option maxRecDepth 100000 in
set_option maxHeartbeats 800000 in
theorem eqSet_any (s : Sz) (dv du : Value) (w : World) (h : Nm.SRow w dv s.da) (h' : Nm.SRow w du s.da) (hl : s.da.length ≤ 1000000000) :
    Calls Try.prog 27 #[.agg #[.string s.own, .int .i64 s.ty, .int .i64 s.tt, dv], .agg #[.string s.own, .int .i64 s.ty, .int .i64 s.tt, du]] w fun e w' => e = .returned (.bool true) ∧ Below w.heap.size w w' := by
  obtain ⟨o, ty, tt, da⟩ := s
  simp only at *
  have e1 : (ty != ty) = false := by simp
  have e2 : (tt != tt) = false := by simp
  obtain ⟨e3, e4⟩ := strz_ne o
  have hB := ((Below.refl w.heap.size w).alloc (Nat.le_refl _) (.cells #[.string o, .int .i64 ty, .int .i64 tt, dv] 43)).alloc (by simp) (.cells #[.string o, .int .i64 ty, .int .i64 tt, du] 43)
  have hone := eqStringS_any dv du da _ (h.below hB) (h'.below hB) hl
  obtain ⟨a, cap, rfl, _⟩ := h
  obtain ⟨a', cap', rfl, _⟩ := h'
  go_enter Try.func27, Try.ntmps27
  go_wp2_with (go_at_call 32; refine hone.mono ?_; rintro e w1 ⟨rfl, hb1⟩)
  go_ret
  exact ⟨rfl, Nm.below_two hB hb1⟩

set_option maxRecDepth 100000 in
set_option maxHeartbeats 1600000 in
theorem eqSetS_any (v u : Value) (qs rs : List Zp) (w : World) (h : ZRow w v qs) (h' : ZRow w u rs) (he : qs.map (·.1) = rs.map (·.1)) (hd : ∀ q ∈ qs, q.1.da.length ≤ 1000000000) :
    Calls Try.prog 21 #[v, u] w fun e w' => e = .returned (.bool true) ∧ Below w.heap.size w w' := by
  have hlen : rs.length = qs.length := by have := congrArg List.length he; simpa using this.symm
  obtain ⟨⟨_, a, cap, rfl, hcap, hmx, hc⟩, hq⟩ := h
  obtain ⟨⟨_, a', cap', rfl, hcap', hmx', hc'⟩, hr⟩ := h'
  unfold maxLen at hmx hmx'
  rw [hlen] at hcap' hc' ⊢
  have hne : ((qs.length : Int) != (qs.length : Int)) = false := by simp
  go_enter Try.func21, Try.ntmps21
  go_wp2
  go_loopw [5] (fun i wr => ∃ k : Nat, k ≤ qs.length ∧ i = .int .i64 k ∧ Below w.heap.size w wr) (fun i _ => qs.length - (intOf i).toNat)
  case atStart => exact ⟨0, Nat.zero_le _, rfl, Below.refl _ _⟩
  case round =>
    obtain ⟨k, hk, rfl, hbel⟩ := hrel
    by_cases hlt : k < qs.length
    · obtain ⟨x, hx⟩ : ∃ x, qs[k]? = some x := ⟨_, List.getElem?_eq_getElem hlt⟩
      obtain ⟨y, hy⟩ : ∃ y, rs[k]? = some y := ⟨_, List.getElem?_eq_getElem (by omega)⟩
      have hxy : y.1 = x.1 := by
        have := congrArg (fun l => l[k]?) he
        simp [hx, hy] at this
        exact this.symm
      obtain ⟨b, off, rfl, hcell⟩ := hc (by omega)
      obtain ⟨b', off', rfl, hcell'⟩ := hc' (by omega)
      have R1 := zp_cells hcell hx
      have R2 := zp_cells hcell' hy
      have s1 := hq x (List.mem_of_getElem? hx)
      have s2 := hr y (List.mem_of_getElem? hy)
      have hdl := hd x (List.mem_of_getElem? hx)
      rw [hxy] at R2 s2
      obtain ⟨s, dv⟩ := x
      obtain ⟨s', du⟩ := y
      simp only at hxy R1 R2 s1 s2 hdl
      have heq := fun W (hW : Below w.heap.size w W) => (eqSet_any s dv du W (s1.below hW) (s2.below hW) hdl).mono (R' := fun e w' => e = .returned (.bool true) ∧ Below w.heap.size w w') (by rintro e w' ⟨he, hb⟩; exact ⟨he, hW.trans (hb.mono hW.size)⟩)
      obtain ⟨o, ty, tt, da⟩ := s
      simp only at R1 R2 heq
      have hS : ∀ W, Below w.heap.size w W → ((W.cell? ⟨b, off + k * 4, none⟩ = some (.string o) ∧ W.cell? ⟨b, off + k * 4 + 1, none⟩ = some (.int .i64 ty) ∧ W.cell? ⟨b, off + k * 4 + 2, none⟩ = some (.int .i64 tt) ∧ W.cell? ⟨b, off + k * 4 + 3, none⟩ = some dv) ∧ (W.cell? ⟨b', off' + k * 4, none⟩ = some (.string o) ∧ W.cell? ⟨b', off' + k * 4 + 1, none⟩ = some (.int .i64 ty) ∧ W.cell? ⟨b', off' + k * 4 + 2, none⟩ = some (.int .i64 tt) ∧ W.cell? ⟨b', off' + k * 4 + 3, none⟩ = some du)) ∧ Below w.heap.size w W := by
        intro W hW
        have put : ∀ {B O : Nat} {z : Value}, w.cell? ⟨B, O, none⟩ = some z → W.cell? ⟨B, O, none⟩ = some z := fun h => (hW.cell (World.block_lt_of_cell? w _ h)).trans h
        exact ⟨⟨⟨put R1.1, put R1.2.1, put R1.2.2.1, put R1.2.2.2⟩, ⟨put R2.1, put R2.2.1, put R2.2.2.1, put R2.2.2.2⟩⟩, hW⟩
      have hS0 := hS wr.drew hbel.drew
      have i1 : (0 : Int) ≤ (k : Int) := by omega
      have i2 : (k : Int) < (qs.length : Int) := by omega
      clear hc hc' hcell hcell' hx hy R1 R2 s1 s2 hq hr he hd
      go_wp2
      go_region_held3 (fun W => ((W.cell? ⟨b, off + k * 4, none⟩ = some (.string o) ∧ W.cell? ⟨b, off + k * 4 + 1, none⟩ = some (.int .i64 ty) ∧ W.cell? ⟨b, off + k * 4 + 2, none⟩ = some (.int .i64 tt) ∧ W.cell? ⟨b, off + k * 4 + 3, none⟩ = some dv) ∧ (W.cell? ⟨b', off' + k * 4, none⟩ = some (.string o) ∧ W.cell? ⟨b', off' + k * 4 + 1, none⟩ = some (.int .i64 ty) ∧ W.cell? ⟨b', off' + k * 4 + 2, none⟩ = some (.int .i64 tt) ∧ W.cell? ⟨b', off' + k * 4 + 3, none⟩ = some du)) ∧ Below w.heap.size w W) (first | with_reducible assumption | with_reducible exact hS0) ((first | (go_at_call 27; refine (heq _ hS0.2).mono ?_; rintro e w' ⟨rfl, hb1⟩; have hS1 := hS _ hb1)))
      go_wp2
      go_roundw
      case rel => exact ⟨k + 1, by omega, by go_num, hS1.2⟩
      case measure => simp [intOf]; omega
    · clear hc hc' hq hr
      have i2 : (qs.length : Int) ≤ (k : Int) := by omega
      go_wp2
      go_ret
      exact ⟨rfl, hbel⟩

set_option maxRecDepth 100000 in
set_option maxHeartbeats 800000 in
theorem eqZone_any (o : ByteArray) (v u : Value) (qs rs : List Zp) (w : World) (h : ZRow w v qs) (h' : ZRow w u rs) (he : qs.map (·.1) = rs.map (·.1)) (hd : ∀ q ∈ qs, q.1.da.length ≤ 1000000000) :
    Calls Try.prog 9 #[.agg #[.string o, v], .agg #[.string o, u]] w fun e w' => e = .returned (.bool true) ∧ Below w.heap.size w w' := by
  obtain ⟨e3, e4⟩ := strz_ne o
  have hB := ((Below.refl w.heap.size w).alloc (Nat.le_refl _) (.cells #[.string o, v] 30)).alloc (by simp) (.cells #[.string o, u] 30)
  have hone := eqSetS_any v u qs rs _ (h.below hB) (h'.below hB) he hd
  obtain ⟨⟨_, a, cap, rfl, _⟩, _⟩ := h
  obtain ⟨⟨_, a', cap', rfl, _⟩, _⟩ := h'
  clear he hd
  go_enter Try.func9, Try.ntmps9
  go_wp2_with (go_at_call 21; refine hone.mono ?_; rintro e w1 ⟨rfl, hb1⟩)
  go_ret
  exact ⟨rfl, Nm.below_two hB hb1⟩
end Go.Proofs.Ytghapfpapjgbjaa
