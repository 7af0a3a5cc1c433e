import Derived.Test.YtddabafaejahbaaGreatDoorJRv3
import Derived.Test.YtddabafaejahbaaGreatDoorJTxt6A
import Derived.Deep.RegionHeld3
/- laws.eqWordS by its contract. -/
namespace Go.Proofs.YtddabafaejahbaaGreatDoor
open Go.RowKit
set_option linter.unusedVariables false

set_option maxRecDepth 100000 in
set_option maxHeartbeats 400000 in
theorem eqWord_same (x : ByteArray) (b : Bool) (w : World) :
    Calls Tryz.prog 27 #[.agg #[.string x, .bool b], .agg #[.string x, .bool b]] w fun e w' => e = .returned (.bool true) ∧ Below w.heap.size w w' := by
  have h1 : (x.toList == x.toList) = true := by simp
  have h2 : (b == b) = true := by simp
  go_enter Tryz.func27, Tryz.ntmps27
  go_wp2
  go_ret
  exact ⟨rfl, ((Below.refl _ _).alloc (Nat.le_refl _) _).alloc (by simp) _⟩

set_option maxRecDepth 100000 in
set_option maxHeartbeats 800000 in
theorem eqWordS_same (v v' : Value) (ws : List Wrd) (B B' : Nat) (w : World) (h : w.ownsRow B 40 2 v ws.length (wdVs ws)) (h' : w.ownsRow B' 40 2 v' ws.length (wdVs ws)) (hn : ws.length ≤ 1048576) :
    Calls Tryz.prog 9 #[v, v'] w fun e w' => e = .returned (.bool true) ∧ Below w.heap.size w w' := by
  obtain ⟨a, c, rfl⟩ := own_sl h
  obtain ⟨a', c', rfl⟩ := own_sl h'
  go_enter Tryz.func9, Tryz.ntmps9
  go_wp2
  go_loopw [5] (fun i wr => ∃ j : Nat, j ≤ ws.length ∧ i = .int .i64 (j : Int) ∧ Below w.heap.size w wr) (fun i _ => ws.length - (intOf i).toNat)
  case atStart => exact ⟨0, Nat.zero_le _, rfl, Below.refl _ _⟩
  case round =>
    obtain ⟨j, hj, rfl, hb⟩ := hrel
    by_cases hlt : j < ws.length
    · obtain ⟨x, hx⟩ : ∃ x, ws[j]? = some x := ⟨_, List.getElem?_eq_getElem hlt⟩
      have o1 := own_below h hb
      have o2 := own_below h' hb
      obtain ⟨g, rfl⟩ : ∃ g, a = some ⟨g, 0, none⟩ := by
        rcases h.2 with ⟨e, h0⟩ | ⟨g, cap, cur, e, _⟩
        · omega
        · cases e; exact ⟨g, rfl⟩
      obtain ⟨g', rfl⟩ : ∃ g', a' = some ⟨g', 0, none⟩ := by
        rcases h'.2 with ⟨e, h0⟩ | ⟨g, cap, cur, e, _⟩
        · omega
        · cases e; exact ⟨g, rfl⟩
      have c0 : wr.cell? ⟨g, j * 2, none⟩ = some (.string x.1) := (o1.cellAt (j * 2) (by omega)).trans (wdVs_at ws j 0 x hx (by decide))
      have c1 : wr.cell? ⟨g, j * 2 + 1, none⟩ = some (.bool x.2) := (o1.cellAt (j * 2 + 1) (by omega)).trans (wdVs_at ws j 1 x hx (by decide))
      have d0 : wr.cell? ⟨g', j * 2, none⟩ = some (.string x.1) := (o2.cellAt (j * 2) (by omega)).trans (wdVs_at ws j 0 x hx (by decide))
      have d1 : wr.cell? ⟨g', j * 2 + 1, none⟩ = some (.bool x.2) := (o2.cellAt (j * 2 + 1) (by omega)).trans (wdVs_at ws j 1 x hx (by decide))
      have i1 : (0 : Int) ≤ (j : Int) := by omega
      have i2 : (j : Int) < (ws.length : Int) := by omega
      have hlt0 := fun (b i : Nat) (y : Value) (e : wr.cell? ⟨b, i, none⟩ = some y) => World.block_lt_of_cell? wr _ e
      have heq : ∀ W, (W.cell? ⟨g, j * 2, none⟩ = some (.string x.1) ∧ W.cell? ⟨g, j * 2 + 1, none⟩ = some (.bool x.2) ∧ W.cell? ⟨g', j * 2, none⟩ = some (.string x.1) ∧ W.cell? ⟨g', j * 2 + 1, none⟩ = some (.bool x.2) ∧ Below w.heap.size w W) → Calls Tryz.prog 27 #[.agg #[.string x.1, .bool x.2], .agg #[.string x.1, .bool x.2]] W fun e w' => e = .returned (.bool true) ∧ (w'.cell? ⟨g, j * 2, none⟩ = some (.string x.1) ∧ w'.cell? ⟨g, j * 2 + 1, none⟩ = some (.bool x.2) ∧ w'.cell? ⟨g', j * 2, none⟩ = some (.string x.1) ∧ w'.cell? ⟨g', j * 2 + 1, none⟩ = some (.bool x.2) ∧ Below w.heap.size w w') := by
        rintro W ⟨s1, s2, s3, s4, s5⟩
        refine (eqWord_same x.1 x.2 W).mono ?_
        rintro e w' ⟨rfl, hb'⟩
        have k0 := fun (b i : Nat) (y : Value) (e : W.cell? ⟨b, i, none⟩ = some y) => (hb'.cell (World.block_lt_of_cell? W _ e)).trans e
        exact ⟨rfl, k0 _ _ _ s1, k0 _ _ _ s2, k0 _ _ _ s3, k0 _ _ _ s4, Nm.below_two s5 hb'⟩
      have hS0 : wr.drew.cell? ⟨g, j * 2, none⟩ = some (.string x.1) ∧ wr.drew.cell? ⟨g, j * 2 + 1, none⟩ = some (.bool x.2) ∧ wr.drew.cell? ⟨g', j * 2, none⟩ = some (.string x.1) ∧ wr.drew.cell? ⟨g', j * 2 + 1, none⟩ = some (.bool x.2) ∧ Below w.heap.size w wr.drew := ⟨c0, c1, d0, d1, hb.drew⟩
      clear h h' o1 o2 hx c0 c1 d0 d1 hlt0
      go_wp2
      go_region_held3 (fun W => W.cell? ⟨g, j * 2, none⟩ = some (.string x.1) ∧ W.cell? ⟨g, j * 2 + 1, none⟩ = some (.bool x.2) ∧ W.cell? ⟨g', j * 2, none⟩ = some (.string x.1) ∧ W.cell? ⟨g', j * 2 + 1, none⟩ = some (.bool x.2) ∧ Below w.heap.size w W) (first | assumption | exact hS0) ((first | (go_at_call 27; refine (heq _ (by first | assumption | exact hS0)).mono ?_; rintro e w' ⟨rfl, hS1⟩)))
      go_wp2
      go_roundw
      case rel => exact ⟨j + 1, by omega, by go_num, hS1.2.2.2.2⟩
      case measure => simp [intOf]; omega
    · have hjn : j = ws.length := by omega
      subst hjn
      go_wp2
      go_ret
      exact ⟨rfl, hb⟩
end Go.Proofs.YtddabafaejahbaaGreatDoor
