import Derived.Test.YtmaopfagkffccaaGreatJMath
import Derived.Test.YtmaopfagkffccaaGreatMarkT
import Derived.Test.YtmaopfagkffccaaGreatMkR
/- laws.markQuestionS by its contract. -/
namespace Go.Proofs.YtmaopfagkffccaaGreat
open Go.RowKit
set_option linter.unusedVariables false

set_option maxRecDepth 100000 in
set_option maxHeartbeats 1600000 in
theorem markQuestionS_any (v : Value) (n B k : Nat) (xs : List Value) (w : World) (hown : w.ownsRow B 63 3 v n xs) (hB : B ≤ w.heap.size) (hn : n ≤ 1100000) (hk : k ≤ 10000000) :
    Calls Tryz.prog 26 #[v, .int .i64 (k : Int)] w fun e w' => e = .returned (.int .i64 ((k + n * 3 : Nat) : Int)) ∧ w'.ownsRow B 63 3 v n (mkL mkQ k (n * 3)) ∧ w.grownBy w' v.ownBlock := by
  have hxl : xs.length = n * 3 := hown.1
  rcases Nat.eq_zero_or_pos n with h0 | hpos
  · subst h0
    obtain ⟨a, cap, rfl⟩ : ∃ a cap, v = .slice a 0 cap := by
      rcases hown.2 with ⟨rfl, _⟩ | ⟨g, cap, cur, rfl, _⟩
      · exact ⟨_, _, rfl⟩
      · exact ⟨_, _, rfl⟩
    have hx0 : xs = [] := List.length_eq_zero_iff.1 (by omega)
    subst hx0
    go_enter Tryz.func26, Tryz.ntmps26
    go_wp2
    go_loop [1, 5] (fun t i => t = .int .i64 (k : Int) ∧ i = .int .i64 0) (fun _ _ => 0)
    case atStart => exact ⟨rfl, rfl⟩
    case round =>
      obtain ⟨rfl, rfl⟩ := hrel
      go_wp2
      go_ret
      exact ⟨rfl, by simpa [mkL] using hown, World.grownBy.refl _ _⟩
  · obtain ⟨g, cap, rfl, hBg⟩ : ∃ g cap, v = .slice (some ⟨g, 0, none⟩) n cap ∧ B ≤ g := by
      rcases hown.2 with ⟨rfl, h0⟩ | ⟨g, cap, cur, rfl, hb, _⟩
      · omega
      · exact ⟨g, cap, rfl, hb⟩
    have hglt := (hown.lt g rfl).2
    go_enter Tryz.func26, Tryz.ntmps26
    go_wp2
    go_loopw [1, 5] (fun t i wr => ∃ j : Nat, j ≤ n ∧ i = .int .i64 (j : Int) ∧ t = .int .i64 ((k + j * 3 : Nat) : Int) ∧ wr.ownsRow B 63 3 (.slice (some ⟨g, 0, none⟩) n cap) n ((mkL mkQ k (n * 3)).take (j * 3) ++ xs.drop (j * 3)) ∧ w.grownBy wr (some g))
      (fun _ i _ => n - (intOf i).toNat)
    case atStart => exact ⟨0, Nat.zero_le _, rfl, rfl, by simpa using hown, World.grownBy.refl _ _⟩
    case round =>
      obtain ⟨j, hj, rfl, rfl, hownj, hgr⟩ := hrel
      clear hown
      by_cases hlt : j < n
      · have s0 := mkL_set (f := mkQ) (k := k) hxl (i := j * 3) (by omega)
        have s1 := mkL_set (f := mkQ) (k := k) hxl (i := j * 3 + 1) (by omega)
        have s2 := mkL_set (f := mkQ) (k := k) hxl (i := j * 3 + 2) (by omega)
        have m0 : mkQ k (j * 3) = .string (mkS (k + j * 3)) := by rw [mkQ, if_pos (by omega)]
        have m1 : mkQ k (j * 3 + 1) = .int .i64 ((k : Int) + (j : Int) * 3 + 1) := by rw [mkQ, if_neg (by omega)]; congr 1 <;> omega
        have m2 : mkQ k (j * 3 + 2) = .int .i64 ((k : Int) + (j : Int) * 3 + 1 + 1) := by rw [mkQ, if_neg (by omega)]; congr 1 <;> omega
        rw [m0] at s0
        rw [m1] at s1
        rw [m2] at s2
        have hmt := fun W => markText_any (k + j * 3) W (by omega)
        rw [show (((k + j * 3 : Nat)) : Int) = (k : Int) + (j : Int) * 3 by omega] at hmt
        have HST : Hid (∀ W, Below wr.heap.size wr W → (∃ y, W.cell? ⟨g, j * 3, none⟩ = some y) ∧ W.frozen? ⟨g, j * 3, none⟩ = false ∧ (∃ y, (W.setCell ⟨g, j * 3, none⟩ (.string (mkS (k + j * 3)))).cell? ⟨g, j * 3 + 1, none⟩ = some y) ∧ (∃ y, ((W.setCell ⟨g, j * 3, none⟩ (.string (mkS (k + j * 3)))).setCell ⟨g, j * 3 + 1, none⟩ (.int .i64 ((k : Int) + (j : Int) * 3 + 1))).cell? ⟨g, j * 3 + 2, none⟩ = some y) ∧ W.frozen? ⟨g, j * 3 + 1, none⟩ = false ∧ W.frozen? ⟨g, j * 3 + 2, none⟩ = false ∧
            ((((W.setCell ⟨g, j * 3, none⟩ (.string (mkS (k + j * 3)))).setCell ⟨g, j * 3 + 1, none⟩ (.int .i64 ((k : Int) + (j : Int) * 3 + 1))).setCell ⟨g, j * 3 + 2, none⟩ (.int .i64 ((k : Int) + (j : Int) * 3 + 1 + 1))).ownsRow B 63 3 (.slice (some ⟨g, 0, none⟩) n cap) n ((mkL mkQ k (n * 3)).take (j * 3 + 2 + 1) ++ xs.drop (j * 3 + 2 + 1)) ∧
             w.grownBy (((W.setCell ⟨g, j * 3, none⟩ (.string (mkS (k + j * 3)))).setCell ⟨g, j * 3 + 1, none⟩ (.int .i64 ((k : Int) + (j : Int) * 3 + 1))).setCell ⟨g, j * 3 + 2, none⟩ (.int .i64 ((k : Int) + (j : Int) * 3 + 1 + 1))) (some g))) := by
          intro W hW
          have h0 := own_below hownj hW
          have o0 := (h0.stored (j * 3) (.string (mkS (k + j * 3)))).1
          rw [s0] at o0
          have o1 := (o0.stored (j * 3 + 1) (.int .i64 ((k : Int) + (j : Int) * 3 + 1))).1
          rw [s1] at o1
          have o2 := (o1.stored (j * 3 + 2) (.int .i64 ((k : Int) + (j : Int) * 3 + 1 + 1))).1
          rw [s2] at o2
          refine ⟨?_, h0.frozenAt _, ?_, ?_, h0.frozenAt _, h0.frozenAt _, o2, ?_⟩
          · rw [h0.cellAt (j * 3) (by omega)]; exact mkL_cell hxl (by omega)
          · rw [o0.cellAt (j * 3 + 1) (by omega)]; exact mkL_cell hxl (by omega)
          · rw [o1.cellAt (j * 3 + 2) (by omega)]; exact mkL_cell hxl (by omega)
          · have hg : ∀ (V : World) i u, w.grownBy V (some g) → w.grownBy (V.setCell ⟨g, i, none⟩ u) (some g) := fun V i u h =>
              ⟨h.os, h.tape, h.output, by simpa using h.size, fun q hq hne => by rw [heap_setCell_other V ⟨g, i, none⟩ q _ (fun e => hne (by simp [e]))]; exact h.block q hq hne⟩
            exact hg _ _ _ (hg _ _ _ (hg _ _ _ (mr_below hgr hW)))
        have HE : Hid ((j + 1) * 3 = j * 3 + 2 + 1) := by show _ = _; omega
        generalize mkS (k + j * 3) = ms at *
        clear s0 s1 s2 m0 m1 m2 hownj hgr
        go_wp2_with (go_at_call 54; refine (hmt _).mono ?_; rintro e w2 ⟨rfl, hb2⟩; obtain ⟨⟨y0, c0⟩, f0, ⟨y1, c1⟩, ⟨y2, c2⟩, f1, f2, hx⟩ := HST.out w2 hb2; have HX := Nm.hide hx; clear hx)
        go_roundw
        case rel => exact ⟨j + 1, by omega, by go_num, by go_num, by rw [HE.out]; exact HX.out.1, HX.out.2⟩
        case measure => simp [intOf]; omega
      · have hje : j = n := by omega
        subst hje
        rw [mkL_done hxl] at hownj
        go_wp2
        go_ret
        exact ⟨rfl, hownj, hgr⟩
end Go.Proofs.YtmaopfagkffccaaGreat
/- laws.markQuestionS, markRRS, heldQuestionS, heldRRS by their contracts. -/
namespace Go.Proofs.YtmaopfagkffccaaGreat
open Go.RowKit
set_option linter.unusedVariables false

set_option maxRecDepth 100000 in
set_option maxHeartbeats 1600000 in
theorem heldQuestionS_any (v : Value) (n k : Nat) (w : World) (h : CRow w v n 3 (mkL mkQ k (n * 3))) (hn : n ≤ 1000000) (hk : k ≤ 10000000) :
    Calls Tryz.prog 28 #[v, .int .i64 (k : Int)] w fun e w' => e = .returned (.int .i64 ((k + n * 3 : Nat) : Int)) ∧ Below w.heap.size w w' := by
  obtain ⟨_, a, cap, rfl, hcap, hmx, hc⟩ := h
  go_enter Tryz.func28, Tryz.ntmps28
  go_wp2
  go_loopw [1, 5] (fun t i wr => ∃ j : Nat, j ≤ n ∧ i = .int .i64 (j : Int) ∧ t = .int .i64 ((k + j * 3 : Nat) : Int) ∧ Below w.heap.size w wr)
    (fun _ i _ => n - (intOf i).toNat)
  case atStart => exact ⟨0, Nat.zero_le _, rfl, rfl, Below.refl _ _⟩
  case round =>
    obtain ⟨j, hj, rfl, rfl, hbel⟩ := hrel
    by_cases hlt : j < n
    · obtain ⟨b, off, rfl, hcell⟩ := hc (by omega)
      have m0 : mkQ k (j * 3) = .string (mkS (k + j * 3)) := by rw [mkQ, if_pos (by omega)]
      have m1 : mkQ k (j * 3 + 1) = .int .i64 ((k : Int) + (j : Int) * 3 + 1) := by rw [mkQ, if_neg (by omega)]; congr 1 <;> omega
      have m2 : mkQ k (j * 3 + 2) = .int .i64 ((k : Int) + (j : Int) * 3 + 1 + 1) := by rw [mkQ, if_neg (by omega)]; congr 1 <;> omega
      have hc0 := hcell (j * 3) _ (mkL_get (by omega))
      have hc1 := hcell (j * 3 + 1) _ (mkL_get (by omega))
      have hc2 := hcell (j * 3 + 2) _ (mkL_get (by omega))
      rw [m0] at hc0
      rw [m1, ← Nat.add_assoc] at hc1
      rw [m2, ← Nat.add_assoc] at hc2
      have hS : ∀ W, Below w.heap.size w W → W.cell? ⟨b, off + j * 3, none⟩ = some (.string (mkS (k + j * 3))) ∧ Below w.heap.size w W := fun W hW => ⟨(hW.cell (World.block_lt_of_cell? w _ hc0)).trans hc0, hW⟩
      have hS12 : ∀ W, Below w.heap.size w W → W.cell? ⟨b, off + j * 3 + 1, none⟩ = some (.int .i64 ((k : Int) + (j : Int) * 3 + 1)) ∧ W.cell? ⟨b, off + j * 3 + 2, none⟩ = some (.int .i64 ((k : Int) + (j : Int) * 3 + 1 + 1)) := fun W hW => ⟨(hW.cell (World.block_lt_of_cell? w _ hc1)).trans hc1, (hW.cell (World.block_lt_of_cell? w _ hc2)).trans hc2⟩
      have hS0 := hS wr.drew hbel.drew
      have hmt := fun W (hW : Below w.heap.size w W) => (markText_any (k + j * 3) W (by omega)).mono (R' := fun e w' => e = .returned (.string (mkS (k + j * 3))) ∧ Below w.heap.size w w') (by rintro e w' ⟨he, hb⟩; exact ⟨he, hW.trans (hb.mono hW.size)⟩)
      rw [show (((k + j * 3 : Nat)) : Int) = (k : Int) + (j : Int) * 3 by omega] at hmt
      obtain ⟨e3, e4⟩ : ((mkS (k + j * 3)).toList == (mkS (k + j * 3)).toList) = true ∧ ((mkS (k + j * 3)).toList != (mkS (k + j * 3)).toList) = false := ⟨by simp, by simp⟩
      have hne : ((k : Int) + (j : Int) * 3 + 1 != (k : Int) + (j : Int) * 3 + 1) = false := by simp
      have hne2 : ((k : Int) + (j : Int) * 3 + 1 + 1 != (k : Int) + (j : Int) * 3 + 1 + 1) = false := by simp
      have i1 : (0 : Int) ≤ (j : Int) := by omega
      have i2 : (j : Int) < (n : Int) := by omega
      generalize mkS (k + j * 3) = ms at *
      clear hc hcell m0 m1 m2 hc0 hc1 hc2
      go_wp2
      go_region_held3 (fun W => W.cell? ⟨b, off + j * 3, none⟩ = some (.string ms) ∧ Below w.heap.size w W) (first | with_reducible assumption | with_reducible exact hS0) ((first | (go_at_call 54; refine (hmt _ hS0.2).mono ?_; rintro e w' ⟨rfl, hb1⟩; have hS1 := hS _ hb1)))
      obtain ⟨g1, g2⟩ := hS12 _ hS1.2
      go_wp2
      go_roundw
      case rel => exact ⟨j + 1, by omega, by go_num, by go_num, hS1.2⟩
      case measure => simp [intOf]; omega
    · have hje : j = n := by omega
      subst hje
      clear hc
      go_wp2
      go_ret
      exact ⟨rfl, hbel⟩

end Go.Proofs.YtmaopfagkffccaaGreat
