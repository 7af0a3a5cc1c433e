import Derived.Test.YtmaopfagkffccaaGreatMkR
/- laws.heldRRS by its contract. -/
namespace Go.Proofs.YtmaopfagkffccaaGreat
open Go.RowKit
set_option linter.unusedVariables false

set_option maxRecDepth 100000 in
set_option maxHeartbeats 3200000 in
theorem heldRRS_any (v : Value) (n k : Nat) (w : World) (h : CRow w v n 5 (mkL mkR k (n * 5))) (hn : n ≤ 1000000) (hk : k ≤ 10000000) :
    Calls Tryz.prog 29 #[v, .int .i64 (k : Int)] w fun e w' => e = .returned (.int .i64 ((k + n * 5 : Nat) : Int)) ∧ Below w.heap.size w w' := by
  obtain ⟨_, a, cap, rfl, hcap, hmx, hc⟩ := h
  go_enter Tryz.func29, Tryz.ntmps29
  go_wp2
  go_loopw [1, 5] (fun t i wr => ∃ j : Nat, j ≤ n ∧ i = .int .i64 (j : Int) ∧ t = .int .i64 ((k + j * 5 : Nat) : Int) ∧ Below w.heap.size w wr)
    (fun _ i _ => n - (intOf i).toNat)
  case atStart => exact ⟨0, Nat.zero_le _, rfl, rfl, Below.refl _ _⟩
  case round =>
    obtain ⟨j, hj, rfl, rfl, hbel⟩ := hrel
    by_cases hlt : j < n
    · obtain ⟨b, off, rfl, hcell⟩ := hc (by omega)
      have m0 : mkR k (j * 5) = .string (mkS (k + j * 5)) := by rw [mkR, if_pos (by omega)]
      have m1 : mkR k (j * 5 + 1) = .int .i64 ((k : Int) + (j : Int) * 5 + 1) := by rw [mkR, if_neg (by omega)]; congr 1 <;> omega
      have m2 : mkR k (j * 5 + 2) = .int .i64 ((k : Int) + (j : Int) * 5 + 1 + 1) := by rw [mkR, if_neg (by omega)]; congr 1 <;> omega
      have m3 : mkR k (j * 5 + 3) = .int .i64 ((k : Int) + (j : Int) * 5 + 1 + 1 + 1) := by rw [mkR, if_neg (by omega)]; congr 1 <;> omega
      have m4 : mkR k (j * 5 + 4) = .string (mkS (k + j * 5 + 1 + 1 + 1 + 1)) := by rw [mkR, if_pos (by omega)]; congr 1
      have hc0 := hcell (j * 5) _ (mkL_get (by omega))
      have hc1 := hcell (j * 5 + 1) _ (mkL_get (by omega))
      have hc2 := hcell (j * 5 + 2) _ (mkL_get (by omega))
      have hc3 := hcell (j * 5 + 3) _ (mkL_get (by omega))
      have hc4 := hcell (j * 5 + 4) _ (mkL_get (by omega))
      rw [m0] at hc0
      rw [m1, ← Nat.add_assoc] at hc1
      rw [m2, ← Nat.add_assoc] at hc2
      rw [m3, ← Nat.add_assoc] at hc3
      rw [m4, ← Nat.add_assoc] at hc4
      have hS : ∀ W, Below w.heap.size w W → W.cell? ⟨b, off + j * 5, none⟩ = some (.string (mkS (k + j * 5))) ∧ Below w.heap.size w W := fun W hW => ⟨(hW.cell (World.block_lt_of_cell? w _ hc0)).trans hc0, hW⟩
      have hT : ∀ W, Below w.heap.size w W → W.cell? ⟨b, off + j * 5 + 4, none⟩ = some (.string (mkS (k + j * 5 + 1 + 1 + 1 + 1))) ∧ Below w.heap.size w W := fun W hW => ⟨(hW.cell (World.block_lt_of_cell? w _ hc4)).trans hc4, hW⟩
      have hS12 : ∀ W, Below w.heap.size w W → W.cell? ⟨b, off + j * 5 + 1, none⟩ = some (.int .i64 ((k : Int) + (j : Int) * 5 + 1)) ∧ W.cell? ⟨b, off + j * 5 + 2, none⟩ = some (.int .i64 ((k : Int) + (j : Int) * 5 + 1 + 1)) ∧ W.cell? ⟨b, off + j * 5 + 3, none⟩ = some (.int .i64 ((k : Int) + (j : Int) * 5 + 1 + 1 + 1)) := fun W hW => ⟨(hW.cell (World.block_lt_of_cell? w _ hc1)).trans hc1, (hW.cell (World.block_lt_of_cell? w _ hc2)).trans hc2, (hW.cell (World.block_lt_of_cell? w _ hc3)).trans hc3⟩
      have hS0 := hS wr.drew hbel.drew
      have hmt := fun W (hW : Below w.heap.size w W) => (markText_any (k + j * 5) W (by omega)).mono (R' := fun e w' => e = .returned (.string (mkS (k + j * 5))) ∧ Below w.heap.size w w') (by rintro e w' ⟨he, hb⟩; exact ⟨he, hW.trans (hb.mono hW.size)⟩)
      rw [show (((k + j * 5 : Nat)) : Int) = (k : Int) + (j : Int) * 5 by omega] at hmt
      have hmu := fun W (hW : Below w.heap.size w W) => (markText_any (k + j * 5 + 1 + 1 + 1 + 1) W (by omega)).mono (R' := fun e w' => e = .returned (.string (mkS (k + j * 5 + 1 + 1 + 1 + 1))) ∧ Below w.heap.size w w') (by rintro e w' ⟨he, hb⟩; exact ⟨he, hW.trans (hb.mono hW.size)⟩)
      rw [show (((k + j * 5 + 1 + 1 + 1 + 1 : Nat)) : Int) = (k : Int) + (j : Int) * 5 + 1 + 1 + 1 + 1 by omega] at hmu
      obtain ⟨e3, e4⟩ := mr_ne (mkS (k + j * 5))
      obtain ⟨e5, e6⟩ := mr_ne (mkS (k + j * 5 + 1 + 1 + 1 + 1))
      have hne : ((k : Int) + (j : Int) * 5 + 1 != (k : Int) + (j : Int) * 5 + 1) = false := by simp
      have hne2 : ((k : Int) + (j : Int) * 5 + 1 + 1 != (k : Int) + (j : Int) * 5 + 1 + 1) = false := by simp
      have hne3 : ((k : Int) + (j : Int) * 5 + 1 + 1 + 1 != (k : Int) + (j : Int) * 5 + 1 + 1 + 1) = false := by simp
      have i1 : (0 : Int) ≤ (j : Int) := by omega
      have i2 : (j : Int) < (n : Int) := by omega
      generalize mkS (k + j * 5) = ms at *
      generalize mkS (k + j * 5 + 1 + 1 + 1 + 1) = mt at *
      clear hc hcell m0 m1 m2 m3 m4 hc0 hc1 hc2 hc3 hc4
      go_wp2
      go_region_held3 (fun W => W.cell? ⟨b, off + j * 5, none⟩ = some (.string ms) ∧ Below w.heap.size w W) (first | with_reducible assumption | with_reducible exact hS0) ((first | (go_at_call 54; with_reducible refine (hmt _ hS0.2).mono ?_; rintro e w1 ⟨rfl, hb1⟩; have hS1 := hS _ hb1)))
      obtain ⟨g1, g2, g3⟩ := hS12 _ hS1.2
      have hT0 := hT w1.drew hS1.2.drew
      go_wp2
      go_region_held3 (fun W => W.cell? ⟨b, off + j * 5 + 4, none⟩ = some (.string mt) ∧ Below w.heap.size w W) (first | with_reducible assumption | with_reducible exact hT0) ((first | (go_at_call 54; with_reducible refine (hmu _ hT0.2).mono ?_; rintro e w2 ⟨rfl, hb2⟩; have hT1 := hT _ hb2)))
      go_wp2
      go_roundw
      case rel => exact ⟨j + 1, by omega, by go_num, by go_num, hT1.2⟩
      case measure => simp [intOf]; omega
    · have hje : j = n := by omega
      subst hje
      clear hc
      go_wp2
      go_ret
      exact ⟨rfl, hbel⟩
end Go.Proofs.YtmaopfagkffccaaGreat
