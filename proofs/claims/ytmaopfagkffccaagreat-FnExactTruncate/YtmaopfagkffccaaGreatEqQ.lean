import Derived.Test.YtmaopfagkffccaaGreatJCrI
import Derived.RegionTactic
import Derived.BigRegion
import Derived.Deep.RegionHeld3
/- laws.eqQuestionS over questions as they come in, by its contract. -/
namespace Go.Proofs.YtmaopfagkffccaaGreat
open Go.RowKit
set_option linter.unusedVariables false

theorem strq_ne (s : ByteArray) : (s.toList != s.toList) = false ∧ (s.toList == s.toList) = true := by simp

set_option maxRecDepth 100000 in
set_option maxHeartbeats 400000 in
theorem eqQV_any (s : ByteArray) (x y : Int) (w : World) :
    Calls Tryz.prog 52 #[.agg #[.string s, .int .i64 x, .int .i64 y], .agg #[.string s, .int .i64 x, .int .i64 y]] w fun e w' => e = .returned (.bool true) ∧ Below w.heap.size w w' := by
  have e1 : (x != x) = false := by simp
  have e2 : (y != y) = false := by simp
  obtain ⟨e3, e4⟩ := strq_ne s
  go_enter Tryz.func52, Tryz.ntmps52
  go_wp2
  go_ret
  exact ⟨rfl, ((Below.refl _ _).alloc (Nat.le_refl _) _).alloc (by simp) _⟩

set_option maxRecDepth 100000 in
set_option maxHeartbeats 1600000 in
theorem eqQVS_any (v u : Value) (xs : List Qr) (w : World) (h : CRow w v xs.length 3 (qvVs xs)) (h' : CRow w u xs.length 3 (qvVs xs)) :
    Calls Tryz.prog 24 #[v, u] w fun e w' => e = .returned (.bool true) ∧ Below w.heap.size w w' := by
  obtain ⟨_, a, cap, rfl, hcap, hmx, hc⟩ := h
  obtain ⟨_, a', cap', rfl, hcap', hmx', hc'⟩ := h'
  unfold maxLen at hmx hmx'
  have hne : ((xs.length : Int) != (xs.length : Int)) = false := by simp
  go_enter Tryz.func24, Tryz.ntmps24
  go_wp2
  go_loopw [5] (fun i wr => ∃ k : Nat, k ≤ xs.length ∧ i = .int .i64 k ∧ Below w.heap.size w wr) (fun i _ => xs.length - (intOf i).toNat)
  case atStart => exact ⟨0, Nat.zero_le _, rfl, Below.refl _ _⟩
  case round =>
    obtain ⟨k, hk, rfl, hbel⟩ := hrel
    by_cases hlt : k < xs.length
    · obtain ⟨x, hx⟩ : ∃ x, xs[k]? = some x := ⟨_, List.getElem?_eq_getElem hlt⟩
      obtain ⟨b, off, rfl, hcell⟩ := hc (by omega)
      obtain ⟨b', off', rfl, hcell'⟩ := hc' (by omega)
      have R1 := qv_cells hcell hx
      have R2 := qv_cells hcell' hx
      obtain ⟨o, ty, cl⟩ := x
      simp only at R1 R2
      have hS : ∀ W, Below w.heap.size w W → ((W.cell? ⟨b, off + k * 3, none⟩ = some (.string o) ∧ W.cell? ⟨b, off + k * 3 + 1, none⟩ = some (.int .i64 ty) ∧ W.cell? ⟨b, off + k * 3 + 2, none⟩ = some (.int .i64 cl)) ∧ (W.cell? ⟨b', off' + k * 3, none⟩ = some (.string o) ∧ W.cell? ⟨b', off' + k * 3 + 1, none⟩ = some (.int .i64 ty) ∧ W.cell? ⟨b', off' + k * 3 + 2, none⟩ = some (.int .i64 cl))) ∧ Below w.heap.size w W := by
        intro W hW
        have put : ∀ {B O : Nat} {z : Value}, w.cell? ⟨B, O, none⟩ = some z → W.cell? ⟨B, O, none⟩ = some z := fun h => (hW.cell (World.block_lt_of_cell? w _ h)).trans h
        exact ⟨⟨⟨put R1.1, put R1.2.1, put R1.2.2⟩, ⟨put R2.1, put R2.2.1, put R2.2.2⟩⟩, hW⟩
      have hS0 := hS wr.drew hbel.drew
      have heq := fun W (hW : Below w.heap.size w W) => (eqQV_any o ty cl W).mono (R' := fun e w' => e = .returned (.bool true) ∧ Below w.heap.size w w') (by rintro e w' ⟨he, hb⟩; exact ⟨he, hW.trans (hb.mono hW.size)⟩)
      have i1 : (0 : Int) ≤ (k : Int) := by omega
      have i2 : (k : Int) < (xs.length : Int) := by omega
      clear hc hc' hcell hcell' hx R1 R2
      go_wp2
      go_region_held3 (fun W => ((W.cell? ⟨b, off + k * 3, none⟩ = some (.string o) ∧ W.cell? ⟨b, off + k * 3 + 1, none⟩ = some (.int .i64 ty) ∧ W.cell? ⟨b, off + k * 3 + 2, none⟩ = some (.int .i64 cl)) ∧ (W.cell? ⟨b', off' + k * 3, none⟩ = some (.string o) ∧ W.cell? ⟨b', off' + k * 3 + 1, none⟩ = some (.int .i64 ty) ∧ W.cell? ⟨b', off' + k * 3 + 2, none⟩ = some (.int .i64 cl))) ∧ Below w.heap.size w W) (first | with_reducible assumption | with_reducible exact hS0) ((first | (go_at_call 52; refine (heq _ hS0.2).mono ?_; rintro e w' ⟨rfl, hb1⟩; have hS1 := hS _ hb1)))
      go_wp2
      go_roundw
      case rel => exact ⟨k + 1, by omega, by go_num, hS1.2⟩
      case measure => simp [intOf]; omega
    · clear hc hc'
      have i2 : (xs.length : Int) ≤ (k : Int) := by omega
      go_wp2
      go_ret
      exact ⟨rfl, hbel⟩
end Go.Proofs.YtmaopfagkffccaaGreat
