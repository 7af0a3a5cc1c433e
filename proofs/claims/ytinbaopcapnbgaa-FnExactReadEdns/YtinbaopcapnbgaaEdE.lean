import Derived.Test.YtinbaopcapnbgaaOpE
import Derived.Test.YtinbaopcapnbgaaMkR
import Derived.Test.YtinbaopcapnbgaaSRe
/- laws.markOptionS, heldOptionS, eqEdns, markEdns, heldEdns by their contracts. -/
namespace Go.Proofs.Ytinbaopcapnbgaa
open Go.RowKit
set_option linter.unusedVariables false

/-- The marks of options: a number and a text. -/
def mkO (k i : Nat) : Value := if i % 2 = 0 then .int .i64 ((k + i : Nat) : Int) else .string (mkS (k + i))

set_option maxRecDepth 100000 in
set_option maxHeartbeats 1600000 in
theorem markOptionS_any (v : Value) (n B k : Nat) (xs : List Value) (w : World) (hown : w.ownsRow B 60 2 v n xs) (hB : B ≤ w.heap.size) (hn : n ≤ 1100000) (hk : k ≤ 10000000) :
    Calls Try.prog 43 #[v, .int .i64 (k : Int)] w fun e w' => e = .returned (.int .i64 ((k + n * 2 : Nat) : Int)) ∧ w'.ownsRow B 60 2 v n (mkL mkO k (n * 2)) ∧ w.grownBy w' v.ownBlock := by
  have hxl : xs.length = n * 2 := hown.1
  rcases Nat.eq_zero_or_pos n with h0 | hpos
  · subst h0
    obtain ⟨a, cap, rfl⟩ : ∃ a cap, v = .slice a 0 cap := by
      rcases hown.2 with ⟨rfl, _⟩ | ⟨g, cap, cur, rfl, _⟩
      · exact ⟨_, _, rfl⟩
      · exact ⟨_, _, rfl⟩
    have hx0 : xs = [] := List.length_eq_zero_iff.1 (by omega)
    subst hx0
    go_enter Try.func43, Try.ntmps43
    go_wp2
    go_loop [1, 5] (fun t i => t = .int .i64 (k : Int) ∧ i = .int .i64 0) (fun _ _ => 0)
    case atStart => exact ⟨rfl, rfl⟩
    case round =>
      obtain ⟨rfl, rfl⟩ := hrel
      go_wp2
      go_ret
      exact ⟨rfl, by simpa [mkL] using hown, World.grownBy.refl _ _⟩
  · obtain ⟨g, cap, rfl, hBg⟩ : ∃ g cap, v = .slice (some ⟨g, 0, none⟩) n cap ∧ B ≤ g := by
      rcases hown.2 with ⟨rfl, h0⟩ | ⟨g, cap, cur, rfl, hb, _⟩
      · omega
      · exact ⟨g, cap, rfl, hb⟩
    have hglt := (hown.lt g rfl).2
    go_enter Try.func43, Try.ntmps43
    go_wp2
    go_loopw [1, 5] (fun t i wr => ∃ j : Nat, j ≤ n ∧ i = .int .i64 (j : Int) ∧ t = .int .i64 ((k + j * 2 : Nat) : Int) ∧ wr.ownsRow B 60 2 (.slice (some ⟨g, 0, none⟩) n cap) n ((mkL mkO k (n * 2)).take (j * 2) ++ xs.drop (j * 2)) ∧ w.grownBy wr (some g))
      (fun _ i _ => n - (intOf i).toNat)
    case atStart => exact ⟨0, Nat.zero_le _, rfl, rfl, by simpa using hown, World.grownBy.refl _ _⟩
    case round =>
      obtain ⟨j, hj, rfl, rfl, hownj, hgr⟩ := hrel
      clear hown
      by_cases hlt : j < n
      · have s0 := mkL_set (f := mkO) (k := k) hxl (i := j * 2) (by omega)
        have s1 := mkL_set (f := mkO) (k := k) hxl (i := j * 2 + 1) (by omega)
        have m0 : mkO k (j * 2) = .int .i64 ((k : Int) + (j : Int) * 2) := by rw [mkO, if_pos (by omega)]; congr 1 <;> omega
        have m1 : mkO k (j * 2 + 1) = .string (mkS (k + j * 2 + 1)) := by rw [mkO, if_neg (by omega)]; rfl
        rw [m0] at s0
        rw [m1] at s1
        have hmt4 := fun W => markText_any (k + j * 2 + 1) W (by omega)
        rw [show (((k + j * 2 + 1 : Nat)) : Int) = (k : Int) + (j : Int) * 2 + 1 by omega] at hmt4
        have hg : ∀ (V : World) i u, w.grownBy V (some g) → w.grownBy (V.setCell ⟨g, i, none⟩ u) (some g) := fun V i u h =>
          ⟨h.os, h.tape, h.output, by simpa using h.size, fun q hq hne => by rw [heap_setCell_other V ⟨g, i, none⟩ q _ (fun e => hne (by simp [e]))]; exact h.block q hq hne⟩
        obtain ⟨y0, c0⟩ : ∃ y, wr.cell? ⟨g, j * 2, none⟩ = some y := by
          rw [hownj.cellAt (j * 2) (by omega)]; exact mkL_cell hxl (by omega)
        have f0 := hownj.frozenAt (j * 2)
        have HX : Hid ((wr.setCell ⟨g, j * 2, none⟩ (.int .i64 ((k : Int) + (j : Int) * 2))).ownsRow B 60 2 (.slice (some ⟨g, 0, none⟩) n cap) n ((mkL mkO k (n * 2)).take (j * 2 + 1) ++ xs.drop (j * 2 + 1)) ∧ w.grownBy (wr.setCell ⟨g, j * 2, none⟩ (.int .i64 ((k : Int) + (j : Int) * 2))) (some g)) := by
          show _ ∧ _
          have o0 := (hownj.stored (j * 2) (.int .i64 ((k : Int) + (j : Int) * 2))).1
          rw [s0] at o0
          exact ⟨o0, hg _ _ _ hgr⟩
        have HSU : Hid (∀ V W : World, (V.ownsRow B 60 2 (.slice (some ⟨g, 0, none⟩) n cap) n ((mkL mkO k (n * 2)).take (j * 2 + 1) ++ xs.drop (j * 2 + 1)) ∧ w.grownBy V (some g)) → Below V.heap.size V W → (∃ y, W.cell? ⟨g, j * 2 + 1, none⟩ = some y) ∧ W.frozen? ⟨g, j * 2 + 1, none⟩ = false ∧ ((W.setCell ⟨g, j * 2 + 1, none⟩ (.string (mkS (k + j * 2 + 1)))).ownsRow B 60 2 (.slice (some ⟨g, 0, none⟩) n cap) n ((mkL mkO k (n * 2)).take (j * 2 + 1 + 1) ++ xs.drop (j * 2 + 1 + 1)) ∧ w.grownBy (W.setCell ⟨g, j * 2 + 1, none⟩ (.string (mkS (k + j * 2 + 1)))) (some g))) := by
          intro V W hV hW
          have h0 := own_below hV.1 hW
          have o4 := (h0.stored (j * 2 + 1) (.string (mkS (k + j * 2 + 1)))).1
          rw [s1] at o4
          refine ⟨?_, h0.frozenAt _, o4, hg _ _ _ (mr_below hV.2 hW)⟩
          rw [h0.cellAt (j * 2 + 1) (by omega)]; exact mkL_cell hxl (by omega)
        have HE : Hid ((j + 1) * 2 = j * 2 + 1 + 1) := by show _ = _; omega
        generalize mkS (k + j * 2 + 1) = mt at *
        clear s0 s1 m0 m1 hownj hgr hg
        go_wp2_with ((go_at_call 57; with_reducible refine (hmt4 _).mono ?_; rintro e w3 ⟨rfl, hb3⟩; obtain ⟨⟨y4, c4⟩, f4, hx4⟩ := HSU.out _ _ HX.out hb3; have HY := Nm.hide hx4; clear hx4))
        go_roundw
        case rel => exact ⟨j + 1, by omega, by go_num, by go_num, by rw [HE.out]; exact HY.out.1, HY.out.2⟩
        case measure => simp [intOf]; omega
      · have hje : j = n := by omega
        subst hje
        rw [mkL_done hxl] at hownj
        go_wp2
        go_ret
        exact ⟨rfl, hownj, hgr⟩

set_option maxRecDepth 100000 in
set_option maxHeartbeats 1600000 in
theorem heldOptionS_any (v : Value) (n k : Nat) (w : World) (h : CRow w v n 2 (mkL mkO k (n * 2))) (hn : n ≤ 1000000) (hk : k ≤ 10000000) :
    Calls Try.prog 44 #[v, .int .i64 (k : Int)] w fun e w' => e = .returned (.int .i64 ((k + n * 2 : Nat) : Int)) ∧ Below w.heap.size w w' := by
  obtain ⟨_, a, cap, rfl, hcap, hmx, hc⟩ := h
  go_enter Try.func44, Try.ntmps44
  go_wp2
  go_loopw [1, 5] (fun t i wr => ∃ j : Nat, j ≤ n ∧ i = .int .i64 (j : Int) ∧ t = .int .i64 ((k + j * 2 : Nat) : Int) ∧ Below w.heap.size w wr)
    (fun _ i _ => n - (intOf i).toNat)
  case atStart => exact ⟨0, Nat.zero_le _, rfl, rfl, Below.refl _ _⟩
  case round =>
    obtain ⟨j, hj, rfl, rfl, hbel⟩ := hrel
    by_cases hlt : j < n
    · obtain ⟨b, off, rfl, hcell⟩ := hc (by omega)
      have m0 : mkO k (j * 2) = .int .i64 ((k : Int) + (j : Int) * 2) := by rw [mkO, if_pos (by omega)]; congr 1 <;> omega
      have m1 : mkO k (j * 2 + 1) = .string (mkS (k + j * 2 + 1)) := by rw [mkO, if_neg (by omega)]; rfl
      have hc0 := hcell (j * 2) _ (mkL_get (by omega))
      have hc1 := hcell (j * 2 + 1) _ (mkL_get (by omega))
      rw [m0] at hc0
      rw [m1, ← Nat.add_assoc] at hc1
      have hS : ∀ W, Below w.heap.size w W → W.cell? ⟨b, off + j * 2 + 1, none⟩ = some (.string (mkS (k + j * 2 + 1))) ∧ Below w.heap.size w W := fun W hW => ⟨(hW.cell (World.block_lt_of_cell? w _ hc1)).trans hc1, hW⟩
      have g0 : wr.cell? ⟨b, off + j * 2, none⟩ = some (.int .i64 ((k : Int) + (j : Int) * 2)) := (hbel.cell (World.block_lt_of_cell? w _ hc0)).trans hc0
      have hS0 := hS wr.drew hbel.drew
      have hmt := fun W (hW : Below w.heap.size w W) => (markText_any (k + j * 2 + 1) W (by omega)).mono (R' := fun e w' => e = .returned (.string (mkS (k + j * 2 + 1))) ∧ Below w.heap.size w w') (by rintro e w' ⟨he, hb⟩; exact ⟨he, hW.trans (hb.mono hW.size)⟩)
      rw [show (((k + j * 2 + 1 : Nat)) : Int) = (k : Int) + (j : Int) * 2 + 1 by omega] at hmt
      obtain ⟨e3, e4⟩ := opt_ne (mkS (k + j * 2 + 1))
      have hne : ((k : Int) + (j : Int) * 2 != (k : Int) + (j : Int) * 2) = false := by simp
      have i1 : (0 : Int) ≤ (j : Int) := by omega
      have i2 : (j : Int) < (n : Int) := by omega
      generalize mkS (k + j * 2 + 1) = ms at *
      clear hc hcell m0 m1 hc0 hc1
      go_wp2
      go_region_held3 (fun W => W.cell? ⟨b, off + j * 2 + 1, none⟩ = some (.string ms) ∧ Below w.heap.size w W) (first | with_reducible assumption | with_reducible exact hS0) ((first | (go_at_call 57; refine (hmt _ hS0.2).mono ?_; rintro e w' ⟨rfl, hb1⟩; have hS1 := hS _ hb1)))
      go_wp2
      go_roundw
      case rel => exact ⟨j + 1, by omega, by go_num, by go_num, hS1.2⟩
      case measure => simp [intOf]; omega
    · have hje : j = n := by omega
      subst hje
      clear hc
      go_wp2
      go_ret
      exact ⟨rfl, hbel⟩

set_option maxRecDepth 100000 in
set_option maxHeartbeats 800000 in
theorem eqEdns_any (E : Ed) (u u' : Value) (w : World) (h : CRow w u E.opts.length 2 (opVs E.opts)) (h' : CRow w u' E.opts.length 2 (opVs E.opts)) :
    Calls Try.prog 15 #[.agg (edC E u), .agg (edC E u')] w fun e w' => e = .returned (.bool true) ∧ Below w.heap.size w w' := by
  have hB1 := (Below.refl w.heap.size w).alloc (Nat.le_refl _) (.cells (edC E u) 41)
  have hB2 := hB1.alloc hB1.size (.cells (edC E u') 41)
  have heq := eqOptionS_any u u' E.opts _ (h.below hB2) (h'.below hB2)
  have hB : ∀ W, Below ((w.alloc (.cells (edC E u) 41)).alloc (.cells (edC E u') 41)).heap.size ((w.alloc (.cells (edC E u) 41)).alloc (.cells (edC E u') 41)) W → Below w.heap.size w W := fun W hW => Nm.below_two hB2 hW
  have HB := Nm.hide hB
  have e1 : (E.present != E.present) = false := by simp
  have e2 : (E.size != E.size) = false := by simp
  have e3 : (E.ver != E.ver) = false := by simp
  have e4 : (E.flags != E.flags) = false := by simp
  obtain ⟨x, y, rfl⟩ : ∃ a c, u = .slice a E.opts.length c := by obtain ⟨_, a, c, e, _⟩ := h; exact ⟨a, c, e⟩
  obtain ⟨x', y', rfl⟩ : ∃ a c, u' = .slice a E.opts.length c := by obtain ⟨_, a, c, e, _⟩ := h'; exact ⟨a, c, e⟩
  clear h h' hB1 hB2 hB
  obtain ⟨p, sz, vr, fl, os⟩ := E
  simp only [edC] at *
  go_enter Try.func15, Try.ntmps15
  go_wp2_with fail
  refine heq.mono ?_
  rintro e w1 ⟨rfl, b1⟩
  have hb1 := HB.out _ b1
  clear heq b1
  go_wp2
  go_ret
  exact ⟨rfl, hb1⟩

set_option maxRecDepth 100000 in
set_option maxHeartbeats 800000 in
theorem markEdns_any (E : Ed) (u : Value) (B : Nat) (xs : List Value) (w : World) (h : w.ownsRow B 60 2 u E.opts.length xs) (hB : B ≤ w.heap.size) (hl : E.opts.length ≤ 1048576) :
    Calls Try.prog 18 #[.agg (edC E u), .int .i64 1] w fun e w' => e = .returned (.int .i64 ((1 + E.opts.length * 2 : Nat) : Int)) ∧ w'.ownsRow B 60 2 u E.opts.length (mkL mkO 1 (E.opts.length * 2)) ∧ w.grownBy w' u.ownBlock := by
  have hB1 := (Below.refl w.heap.size w).alloc (Nat.le_refl _) (.cells (edC E u) 41)
  have hmk := markOptionS_any u E.opts.length B 1 _ _ (own_below h hB1) (Nat.le_trans hB hB1.size) (by omega) (by omega)
  have hG : ∀ W, (w.alloc (.cells (edC E u) 41)).grownBy W u.ownBlock → w.grownBy W u.ownBlock := fun W hW => by
    have hs : w.heap.size ≤ (w.alloc (.cells (edC E u) 41)).heap.size := by rw [World.size_alloc]; omega
    exact ⟨hW.os.trans hB1.os, hW.tape.trans hB1.tape, hW.output.trans hB1.output, Nat.le_trans hs hW.size, fun q hq hne => (hW.block q (Nat.lt_of_lt_of_le hq hs) hne).trans (hB1.block q hq)⟩
  have HG := Nm.hide hG
  obtain ⟨x, y, rfl⟩ := own_sl h
  clear h hB1 hG
  obtain ⟨p, sz, vr, fl, os⟩ := E
  simp only [edC] at *
  go_enter Try.func18, Try.ntmps18
  go_wp2_with fail
  refine hmk.mono ?_
  rintro e w1 ⟨rfl, o1, g1⟩
  have hg1 := HG.out _ g1
  have HO := Nm.hide (And.intro o1 hg1)
  clear hmk g1 o1 hg1
  go_wp2
  go_ret
  exact ⟨rfl, HO.out.1, HO.out.2⟩

set_option maxRecDepth 100000 in
set_option maxHeartbeats 800000 in
theorem heldEdns_any (E : Ed) (u : Value) (w : World) (h : CRow w u E.opts.length 2 (mkL mkO 1 (E.opts.length * 2))) (hl : E.opts.length ≤ 1000000) :
    Calls Try.prog 19 #[.agg (edC E u), .int .i64 1] w fun e w' => e = .returned (.int .i64 ((1 + E.opts.length * 2 : Nat) : Int)) ∧ Below w.heap.size w w' := by
  have hB1 := (Below.refl w.heap.size w).alloc (Nat.le_refl _) (.cells (edC E u) 41)
  have hmk := heldOptionS_any u E.opts.length 1 _ (h.below hB1) hl (by decide)
  have hB : ∀ W, Below (w.alloc (.cells (edC E u) 41)).heap.size (w.alloc (.cells (edC E u) 41)) W → Below w.heap.size w W := fun W hW => Nm.below_two hB1 hW
  have HB := Nm.hide hB
  obtain ⟨x, y, rfl⟩ : ∃ a c, u = .slice a E.opts.length c := by obtain ⟨_, a, c, e, _⟩ := h; exact ⟨a, c, e⟩
  have hnn : ¬ (((1 + E.opts.length * 2 : Nat) : Int)) < 0 := by omega
  have hnn2 : ¬ (1 + (E.opts.length : Int) * 2) < 0 := by omega
  clear h hB1 hB
  obtain ⟨p, sz, vr, fl, os⟩ := E
  simp only [edC] at *
  go_enter Try.func19, Try.ntmps19
  go_wp2_with fail
  refine hmk.mono ?_
  rintro e w1 ⟨rfl, b1⟩
  have hb1 := HB.out _ b1
  clear hmk b1
  go_wp2
  go_ret
  exact ⟨by simp, hb1⟩
end Go.Proofs.Ytinbaopcapnbgaa
