/- laws.eqSpanS, markSpanS, heldSpanS by their contracts. -/
import Derived.Test.YtakonfkefoeenafCRow
import Derived.Test.YtakonfkefoeenafCutM
import Derived.RegionTactic
import Derived.BigRegion
import Derived.Deep.RegionHeld3
namespace Go.Proofs.Ytakonfkefoeenaf
open Go.RowKit

set_option maxRecDepth 100000 in
set_option maxHeartbeats 400000 in
theorem eqSpan_any (x y : Int) (w : World) :
    Calls Try.prog 44 #[.agg #[.int .i64 x, .int .i64 y], .agg #[.int .i64 x, .int .i64 y]] w fun e w' => e = .returned (.bool true) ∧ Below w.heap.size w w' := by
  have e1 : (x != x) = false := by simp
  have e2 : (y != y) = false := by simp
  go_enter Try.func44, Try.ntmps44
  go_wp2
  go_ret
  exact ⟨rfl, ((Below.refl _ _).alloc (Nat.le_refl _) _).alloc (by simp) _⟩

theorem span_cells {sp : List (Nat × Nat)} {k : Nat} {x : Nat × Nat} (h : sp[k]? = some x) : (spanCells sp)[k * 2]? = some (.int .i64 (x.1 : Int)) ∧ (spanCells sp)[k * 2 + 1]? = some (.int .i64 (x.2 : Int)) := by
  induction sp generalizing k with
  | nil => simp at h
  | cons y sp ih =>
    cases k with
    | zero => simp at h; subst h; simp [spanCells]
    | succ k =>
      simp at h
      have := ih h
      have e : spanCells (y :: sp) = [.int .i64 (y.1 : Int), .int .i64 (y.2 : Int)] ++ spanCells sp := by simp [spanCells]
      rw [e, show (k + 1) * 2 = k * 2 + 2 by omega, show k * 2 + 2 + 1 = (k * 2 + 1) + 2 by omega]
      simpa using this

theorem span_len (sp : List (Nat × Nat)) : (spanCells sp).length = sp.length * 2 := by
  induction sp with
  | nil => rfl
  | cons y sp ih =>
    have e : spanCells (y :: sp) = [.int .i64 (y.1 : Int), .int .i64 (y.2 : Int)] ++ spanCells sp := by simp [spanCells]
    rw [e]; simp [ih]; omega

set_option maxRecDepth 100000 in
set_option maxHeartbeats 800000 in
theorem eqSpanS_any (v u : Value) (sp : List (Nat × Nat)) (w : World) (h : CRow w v sp.length 2 (spanCells sp)) (h' : CRow w u sp.length 2 (spanCells sp)) (hlen : sp.length ≤ 1000000) :
    Calls Try.prog 18 #[v, u] w fun e w' => e = .returned (.bool true) ∧ Below w.heap.size w w' := by
  obtain ⟨_, a, cap, rfl, hcap, hmx, hc⟩ := h
  obtain ⟨_, a', cap', rfl, hcap', hmx', hc'⟩ := h'
  have hne : ((sp.length : Int) != (sp.length : Int)) = false := by simp
  go_enter Try.func18, Try.ntmps18
  go_wp2
  go_loopw [5] (fun i wr => ∃ k : Nat, k ≤ sp.length ∧ i = .int .i64 k ∧ Below w.heap.size w wr) (fun i _ => sp.length - (intOf i).toNat)
  case atStart => exact ⟨0, Nat.zero_le _, rfl, Below.refl _ _⟩
  case round =>
    obtain ⟨k, hk, rfl, hbel⟩ := hrel
    by_cases hlt : k < sp.length
    · obtain ⟨x, hx⟩ : ∃ x, sp[k]? = some x := ⟨_, List.getElem?_eq_getElem hlt⟩
      obtain ⟨s1, s2⟩ := span_cells hx
      obtain ⟨b, off, rfl, hcell⟩ := hc (by omega)
      obtain ⟨b', off', rfl, hcell'⟩ := hc' (by omega)
      have put : ∀ {B O : Nat} {z : Value}, w.cell? ⟨B, O, none⟩ = some z → wr.cell? ⟨B, O, none⟩ = some z := fun h => (hbel.cell (World.block_lt_of_cell? w _ h)).trans h
      have c1 := put (hcell _ _ s1)
      have c2 := put (hcell _ _ s2)
      have c3 := put (hcell' _ _ s1)
      have c4 := put (hcell' _ _ s2)
      rw [← Nat.add_assoc] at c2 c4
      have hS0 : (wr.drew.cell? ⟨b, off + k * 2, none⟩ = some (.int .i64 (x.1 : Int)) ∧ wr.drew.cell? ⟨b, off + k * 2 + 1, none⟩ = some (.int .i64 (x.2 : Int)) ∧ wr.drew.cell? ⟨b', off' + k * 2, none⟩ = some (.int .i64 (x.1 : Int)) ∧ wr.drew.cell? ⟨b', off' + k * 2 + 1, none⟩ = some (.int .i64 (x.2 : Int))) ∧ Below w.heap.size w wr.drew := ⟨⟨c1, c2, c3, c4⟩, hbel.drew⟩
      have heq : ∀ W : World, ((W.cell? ⟨b, off + k * 2, none⟩ = some (.int .i64 (x.1 : Int)) ∧ W.cell? ⟨b, off + k * 2 + 1, none⟩ = some (.int .i64 (x.2 : Int)) ∧ W.cell? ⟨b', off' + k * 2, none⟩ = some (.int .i64 (x.1 : Int)) ∧ W.cell? ⟨b', off' + k * 2 + 1, none⟩ = some (.int .i64 (x.2 : Int))) ∧ Below w.heap.size w W) → Calls Try.prog 44 #[.agg #[.int .i64 (x.1 : Int), .int .i64 (x.2 : Int)], .agg #[.int .i64 (x.1 : Int), .int .i64 (x.2 : Int)]] W fun e w' => e = .returned (.bool true) ∧ ((w'.cell? ⟨b, off + k * 2, none⟩ = some (.int .i64 (x.1 : Int)) ∧ w'.cell? ⟨b, off + k * 2 + 1, none⟩ = some (.int .i64 (x.2 : Int)) ∧ w'.cell? ⟨b', off' + k * 2, none⟩ = some (.int .i64 (x.1 : Int)) ∧ w'.cell? ⟨b', off' + k * 2 + 1, none⟩ = some (.int .i64 (x.2 : Int))) ∧ Below w.heap.size w w') := by
        intro W hS
        refine (eqSpan_any x.1 x.2 W).mono ?_
        rintro e w' ⟨rfl, hbs⟩
        have put' : ∀ {B O : Nat} {z : Value}, W.cell? ⟨B, O, none⟩ = some z → w'.cell? ⟨B, O, none⟩ = some z := fun h => (hbs.cell (World.block_lt_of_cell? W _ h)).trans h
        exact ⟨rfl, ⟨put' hS.1.1, put' hS.1.2.1, put' hS.1.2.2.1, put' hS.1.2.2.2⟩, hS.2.trans (hbs.mono hS.2.size)⟩
      have i1 : (0 : Int) ≤ (k : Int) := by omega
      have i2 : (k : Int) < (sp.length : Int) := by omega
      clear hc hc' hcell hcell' s1 s2 hx c1 c2 c3 c4 put
      go_wp2
      go_region_held3 (fun w' => (w'.cell? ⟨b, off + k * 2, none⟩ = some (.int .i64 (x.1 : Int)) ∧ w'.cell? ⟨b, off + k * 2 + 1, none⟩ = some (.int .i64 (x.2 : Int)) ∧ w'.cell? ⟨b', off' + k * 2, none⟩ = some (.int .i64 (x.1 : Int)) ∧ w'.cell? ⟨b', off' + k * 2 + 1, none⟩ = some (.int .i64 (x.2 : Int))) ∧ Below w.heap.size w w') (first | assumption | exact hS0) ((first | (go_at_call 44; refine (heq _ (by first | assumption | exact hS0)).mono ?_; rintro e w' ⟨rfl, hS1⟩)))
      go_wp2
      go_roundw
      case rel => exact ⟨k + 1, by omega, by go_num, hS1.2⟩
      case measure => simp [intOf]; omega
    · clear hc hc'
      go_wp2
      go_ret
      exact ⟨rfl, hbel⟩
end Go.Proofs.Ytakonfkefoeenaf
