import Derived.Test.YtmaopfagkffccaaGreatJCrI
import Derived.Test.YtmaopfagkffccaaGreatJMkX
import Derived.Test.YtmaopfagkffccaaGreatRrS
import Derived.Test.YtmaopfagkffccaaGreatJMath
/- laws.szMessage, toHead, toMessage by their contracts. -/
namespace Go.Proofs.YtmaopfagkffccaaGreat
open Go.RowKit
set_option linter.unusedVariables false

theorem szq_yes {xs : List Qr} {L : Int} (h : (xs.length : Int) + qsum xs ≤ L) : szQS xs L = L - (xs.length + qsum xs : Nat) := by
  rw [szQS, if_pos h]; omega
theorem szr_yes {xs : List Rr} {L : Int} (h : (xs.length : Int) + rsum xs ≤ L) : szRS xs L = L - (xs.length + rsum xs : Nat) := by
  rw [szRS, if_pos h]; omega

set_option maxRecDepth 100000 in
set_option maxHeartbeats 3200000 in
theorem szMessage_any (m : Mg) (q a u x : Value) (L : Int) (w : World) (h : MRow w m q a u x) (hx : MFit m) (h0 : 0 ≤ L) (h1 : L ≤ 1048576) :
    Calls Tryz.prog 4 #[.agg (mgV m.hd q a u x), .int .i64 L] w fun e w' => e = .returned (.int .i64 (szM m L)) ∧ Below w.heap.size w w' := by
  obtain ⟨f1, f2, f3, f4⟩ := hx
  have hB := (Below.refl w.heap.size w).alloc (Nat.le_refl _) (.cells (mgV m.hd q a u x) 27)
  have k0 := blk_new w (mgV m.hd q a u x) 27
  have hq := fun (K : Int) W (hW : Below w.heap.size w W) h0 h1 => szQuestionS_any q m.qs K W (h.rq.below hW) f1 h0 h1
  have ha := fun (K : Int) W (hW : Below w.heap.size w W) h0 h1 => szRRS_any a m.an K W (h.ra.below hW) f2 h0 h1
  have hu := fun (K : Int) W (hW : Below w.heap.size w W) h0 h1 => szRRS_any u m.au K W (h.ru.below hW) f3 h0 h1
  have hx := fun (K : Int) W (hW : Below w.heap.size w W) h0 h1 => szRRS_any x m.ex K W (h.rx.below hW) f4 h0 h1
  obtain ⟨_, qa, qc, rfl, _⟩ := h.rq
  obtain ⟨_, aa, ac, rfl, _⟩ := h.ra
  obtain ⟨_, ua, uc, rfl, _⟩ := h.ru
  obtain ⟨_, xa, xc, rfl, _⟩ := h.rx
  have HS : Hid (szM m L = if (msum m : Int) ≤ L then L - msum m else -1) := rfl
  unfold msum at HS
  obtain ⟨⟨i0, q1, i2, q3, q4, q5, q6, q7, q8, q9, i10⟩, qs, an, au, ex⟩ := m
  simp only [mgV] at *
  clear f1 f2 f3 f4 h
  by_cases c1 : (qs.length : Int) + qsum qs ≤ L
  · have e1 := szq_yes c1
    have p1 : 0 ≤ L - (qs.length + qsum qs : Nat) := by omega
    have hq1 := fun W hW => hq L W hW h0 h1
    rw [e1] at hq1
    generalize hL1 : L - ((qs.length + qsum qs : Nat) : Int) = L1 at *
    clear e1 hq
    by_cases c2 : (an.length : Int) + rsum an ≤ L1
    · have e2 := szr_yes c2
      have p2 : 0 ≤ L1 - (an.length + rsum an : Nat) := by omega
      have ha1 := fun W hW => ha L1 W hW p1 (by omega)
      rw [e2] at ha1
      generalize hL2 : L1 - ((an.length + rsum an : Nat) : Int) = L2 at *
      clear e2 ha
      by_cases c3 : (au.length : Int) + rsum au ≤ L2
      · have e3 := szr_yes c3
        have p3 : 0 ≤ L2 - (au.length + rsum au : Nat) := by omega
        have hu1 := fun W hW => hu L2 W hW p2 (by omega)
        rw [e3] at hu1
        generalize hL3 : L2 - ((au.length + rsum au : Nat) : Int) = L3 at *
        clear e3 hu
        have hx1 := fun W hW => hx L3 W hW p3 (by omega)
        clear hx
        by_cases c4 : (ex.length : Int) + rsum ex ≤ L3
        · have e4 := szr_yes c4
          have p4 : 0 ≤ L3 - (ex.length + rsum ex : Nat) := by omega
          rw [e4] at hx1
          have HZ : Hid (szM ⟨⟨i0, q1, i2, q3, q4, q5, q6, q7, q8, q9, i10⟩, qs, an, au, ex⟩ L = L3 - ((ex.length + rsum ex : Nat) : Int)) := by
            show _ = _
            rw [HS.out, if_pos (by omega)]; omega
          generalize L3 - ((ex.length + rsum ex : Nat) : Int) = L4 at *
          clear HS hL1 hL2 hL3 c1 c2 c3 c4 e4
          go_enter Tryz.func4, Tryz.ntmps4
          go_wp2_with fail
          refine (hq1 _ hB).mono ?_
          rintro e w1 ⟨rfl, b1⟩
          have B1 := Nm.below_two hB b1
          have r1 := fun i => blk_cell (blk_below k0 b1) i
          go_wp2_with fail
          refine (ha1 _ B1).mono ?_
          rintro e w2 ⟨rfl, b2⟩
          have B2 := Nm.below_two B1 b2
          have r2 := fun i => blk_cell (blk_below (blk_below k0 b1) b2) i
          go_wp2_with fail
          refine (hu1 _ B2).mono ?_
          rintro e w3 ⟨rfl, b3⟩
          have B3 := Nm.below_two B2 b3
          have r3 := fun i => blk_cell (blk_below (blk_below (blk_below k0 b1) b2) b3) i
          go_wp2_with fail
          refine (hx1 _ B3).mono ?_
          rintro e w4 ⟨rfl, b4⟩
          go_wp2
          go_ret
          rw [HZ.out]
          exact ⟨rfl, Nm.below_two B3 b4⟩
        · have e4 : szRS ex L3 = -1 := if_neg c4
          rw [e4] at hx1
          have HZ : Hid (szM ⟨⟨i0, q1, i2, q3, q4, q5, q6, q7, q8, q9, i10⟩, qs, an, au, ex⟩ L = -1) := by
            show _ = _
            rw [HS.out, if_neg (by omega)]
          clear HS hL1 hL2 hL3 c1 c2 c3 c4 e4
          go_enter Tryz.func4, Tryz.ntmps4
          go_wp2_with fail
          refine (hq1 _ hB).mono ?_
          rintro e w1 ⟨rfl, b1⟩
          have B1 := Nm.below_two hB b1
          have r1 := fun i => blk_cell (blk_below k0 b1) i
          go_wp2_with fail
          refine (ha1 _ B1).mono ?_
          rintro e w2 ⟨rfl, b2⟩
          have B2 := Nm.below_two B1 b2
          have r2 := fun i => blk_cell (blk_below (blk_below k0 b1) b2) i
          go_wp2_with fail
          refine (hu1 _ B2).mono ?_
          rintro e w3 ⟨rfl, b3⟩
          have B3 := Nm.below_two B2 b3
          have r3 := fun i => blk_cell (blk_below (blk_below (blk_below k0 b1) b2) b3) i
          go_wp2_with fail
          refine (hx1 _ B3).mono ?_
          rintro e w4 ⟨rfl, b4⟩
          go_wp2
          go_ret
          rw [HZ.out]
          exact ⟨rfl, Nm.below_two B3 b4⟩
      · have e3 : szRS au L2 = -1 := if_neg c3
        have hu1 := fun W hW => hu L2 W hW p2 (by omega)
        rw [e3] at hu1
        have HZ : Hid (szM ⟨⟨i0, q1, i2, q3, q4, q5, q6, q7, q8, q9, i10⟩, qs, an, au, ex⟩ L = -1) := by
          show _ = _
          rw [HS.out, if_neg (by omega)]
        clear HS hL1 hL2 c1 c2 c3 e3 hx hu
        go_enter Tryz.func4, Tryz.ntmps4
        go_wp2_with fail
        refine (hq1 _ hB).mono ?_
        rintro e w1 ⟨rfl, b1⟩
        have B1 := Nm.below_two hB b1
        have r1 := fun i => blk_cell (blk_below k0 b1) i
        go_wp2_with fail
        refine (ha1 _ B1).mono ?_
        rintro e w2 ⟨rfl, b2⟩
        have B2 := Nm.below_two B1 b2
        have r2 := fun i => blk_cell (blk_below (blk_below k0 b1) b2) i
        go_wp2_with fail
        refine (hu1 _ B2).mono ?_
        rintro e w3 ⟨rfl, b3⟩
        have B3 := Nm.below_two B2 b3
        have r3 := fun i => blk_cell (blk_below (blk_below (blk_below k0 b1) b2) b3) i
        go_wp2
        go_ret
        rw [HZ.out]
        exact ⟨rfl, B3⟩
    · have e2 : szRS an L1 = -1 := if_neg c2
      have ha1 := fun W hW => ha L1 W hW p1 (by omega)
      rw [e2] at ha1
      have HZ : Hid (szM ⟨⟨i0, q1, i2, q3, q4, q5, q6, q7, q8, q9, i10⟩, qs, an, au, ex⟩ L = -1) := by
        show _ = _
        rw [HS.out, if_neg (by omega)]
      clear HS hL1 c1 c2 e2 hx hu ha
      go_enter Tryz.func4, Tryz.ntmps4
      go_wp2_with fail
      refine (hq1 _ hB).mono ?_
      rintro e w1 ⟨rfl, b1⟩
      have B1 := Nm.below_two hB b1
      have r1 := fun i => blk_cell (blk_below k0 b1) i
      go_wp2_with fail
      refine (ha1 _ B1).mono ?_
      rintro e w2 ⟨rfl, b2⟩
      have B2 := Nm.below_two B1 b2
      have r2 := fun i => blk_cell (blk_below (blk_below k0 b1) b2) i
      go_wp2
      go_ret
      rw [HZ.out]
      exact ⟨rfl, B2⟩
  · have e1 : szQS qs L = -1 := if_neg c1
    have hq1 := fun W hW => hq L W hW h0 h1
    rw [e1] at hq1
    have HZ : Hid (szM ⟨⟨i0, q1, i2, q3, q4, q5, q6, q7, q8, q9, i10⟩, qs, an, au, ex⟩ L = -1) := by
      show _ = _
      rw [HS.out, if_neg (by omega)]
    clear HS c1 e1 hx hu ha hq
    go_enter Tryz.func4, Tryz.ntmps4
    go_wp2_with fail
    refine (hq1 _ hB).mono ?_
    rintro e w1 ⟨rfl, b1⟩
    have B1 := Nm.below_two hB b1
    have r1 := fun i => blk_cell (blk_below k0 b1) i
    go_wp2
    go_ret
    rw [HZ.out]
    exact ⟨rfl, B1⟩

set_option maxRecDepth 100000 in
set_option maxHeartbeats 1600000 in
theorem toHead_any (h : Hr) (w : World) :
    Calls Tryz.prog 16 #[.agg (hrV h).toArray] w fun e w' => e = .returned (.agg (hrV h).toArray) ∧ Below w.heap.size w w' := by
  obtain ⟨i0, q1, i2, q3, q4, q5, q6, q7, q8, q9, i10⟩ := h
  simp only [hrV]
  go_enter Tryz.func16, Tryz.ntmps16
  go_wp2
  refine bodyPost_ret (v := .agg #[.int .i64 i0, .bool q1, .int .i64 i2, .bool q3, .bool q4, .bool q5, .bool q6, .bool q7, .bool q8, .bool q9, .int .i64 i10]) ?_ rfl ⟨rfl, ?_⟩
  · simp [results, Tryz.results16, go_sem, Result.andThen]
  · exact (((Below.refl _ _).alloc (Nat.le_refl _) _).alloc (by simp) _).alloc (by simp; omega) _
end Go.Proofs.YtmaopfagkffccaaGreat
