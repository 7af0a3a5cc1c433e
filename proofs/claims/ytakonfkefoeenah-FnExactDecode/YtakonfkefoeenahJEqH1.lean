import Derived.Test.YtakonfkefoeenahJHd1
import Derived.Test.YtakonfkefoeenahMkM
import Derived.Test.YtakonfkefoeenahLst
/- laws.eqHead by its contract. -/
namespace Go.Proofs.Ytakonfkefoeenah
open Go.RowKit
set_option linter.unusedVariables false

set_option maxRecDepth 100000 in
set_option maxHeartbeats 1600000 in
theorem eqHead_any (a0 a2 a10 : Int) (b1 b3 b4 b5 b6 b7 b8 b9 : Bool) (w : World) :
    Calls Try.prog 16 #[.agg #[.int .i64 a0, .bool b1, .int .i64 a2, .bool b3, .bool b4, .bool b5, .bool b6, .bool b7, .bool b8, .bool b9, .int .i64 a10], .agg #[.int .i64 a0, .bool b1, .int .i64 a2, .bool b3, .bool b4, .bool b5, .bool b6, .bool b7, .bool b8, .bool b9, .int .i64 a10]] w fun e w' => e = .returned (.bool true) ∧ Below w.heap.size w w' := by
  have h0 : (a0 != a0) = false := by simp
  have h2 : (a2 != a2) = false := by simp
  have h10 : (a10 != a10) = false := by simp
  go_enter Try.func16, Try.ntmps16
  go_wp2
  go_ret
  exact ⟨rfl, ((Below.refl _ _).alloc (Nat.le_refl _) _).alloc (by simp) _⟩

end Go.Proofs.Ytakonfkefoeenah
/- laws.heldRRS, eqMessage, markMessage, heldMessage, markByteS by their contracts. -/
namespace Go.Proofs.Ytakonfkefoeenah
open Go.RowKit
set_option linter.unusedVariables false

set_option maxRecDepth 100000 in
set_option maxHeartbeats 3200000 in
theorem heldRRS_any (v : Value) (n k : Nat) (w : World) (h : CRow w v n 5 (mkL mkR k (n * 5))) (hn : n ≤ 1000000) (hk : k ≤ 10000000) :
    Calls Try.prog 22 #[v, .int .i64 (k : Int)] w fun e w' => e = .returned (.int .i64 ((k + n * 5 : Nat) : Int)) ∧ Below w.heap.size w w' := by
  obtain ⟨_, a, cap, rfl, hcap, hmx, hc⟩ := h
  go_enter Try.func22, Try.ntmps22
  go_wp2
  go_loopw [1, 5] (fun t i wr => ∃ j : Nat, j ≤ n ∧ i = .int .i64 (j : Int) ∧ t = .int .i64 ((k + j * 5 : Nat) : Int) ∧ Below w.heap.size w wr)
    (fun _ i _ => n - (intOf i).toNat)
  case atStart => exact ⟨0, Nat.zero_le _, rfl, rfl, Below.refl _ _⟩
  case round =>
    obtain ⟨j, hj, rfl, rfl, hbel⟩ := hrel
    by_cases hlt : j < n
    · obtain ⟨b, off, rfl, hcell⟩ := hc (by omega)
      have m0 : mkR k (j * 5) = .string (mkS (k + j * 5)) := by rw [mkR, if_pos (by omega)]
      have m1 : mkR k (j * 5 + 1) = .int .i64 ((k : Int) + (j : Int) * 5 + 1) := by rw [mkR, if_neg (by omega)]; congr 1 <;> omega
      have m2 : mkR k (j * 5 + 2) = .int .i64 ((k : Int) + (j : Int) * 5 + 1 + 1) := by rw [mkR, if_neg (by omega)]; congr 1 <;> omega
      have m3 : mkR k (j * 5 + 3) = .int .i64 ((k : Int) + (j : Int) * 5 + 1 + 1 + 1) := by rw [mkR, if_neg (by omega)]; congr 1 <;> omega
      have m4 : mkR k (j * 5 + 4) = .string (mkS (k + j * 5 + 1 + 1 + 1 + 1)) := by rw [mkR, if_pos (by omega)]; congr 1
      have hc0 := hcell (j * 5) _ (mkL_get (by omega))
      have hc1 := hcell (j * 5 + 1) _ (mkL_get (by omega))
      have hc2 := hcell (j * 5 + 2) _ (mkL_get (by omega))
      have hc3 := hcell (j * 5 + 3) _ (mkL_get (by omega))
      have hc4 := hcell (j * 5 + 4) _ (mkL_get (by omega))
      rw [m0] at hc0
      rw [m1, ← Nat.add_assoc] at hc1
      rw [m2, ← Nat.add_assoc] at hc2
      rw [m3, ← Nat.add_assoc] at hc3
      rw [m4, ← Nat.add_assoc] at hc4
      have hS : ∀ W, Below w.heap.size w W → W.cell? ⟨b, off + j * 5, none⟩ = some (.string (mkS (k + j * 5))) ∧ Below w.heap.size w W := fun W hW => ⟨(hW.cell (World.block_lt_of_cell? w _ hc0)).trans hc0, hW⟩
      have hT : ∀ W, Below w.heap.size w W → W.cell? ⟨b, off + j * 5 + 4, none⟩ = some (.string (mkS (k + j * 5 + 1 + 1 + 1 + 1))) ∧ Below w.heap.size w W := fun W hW => ⟨(hW.cell (World.block_lt_of_cell? w _ hc4)).trans hc4, hW⟩
      have hS12 : ∀ W, Below w.heap.size w W → W.cell? ⟨b, off + j * 5 + 1, none⟩ = some (.int .i64 ((k : Int) + (j : Int) * 5 + 1)) ∧ W.cell? ⟨b, off + j * 5 + 2, none⟩ = some (.int .i64 ((k : Int) + (j : Int) * 5 + 1 + 1)) ∧ W.cell? ⟨b, off + j * 5 + 3, none⟩ = some (.int .i64 ((k : Int) + (j : Int) * 5 + 1 + 1 + 1)) := fun W hW => ⟨(hW.cell (World.block_lt_of_cell? w _ hc1)).trans hc1, (hW.cell (World.block_lt_of_cell? w _ hc2)).trans hc2, (hW.cell (World.block_lt_of_cell? w _ hc3)).trans hc3⟩
      have hS0 := hS wr.drew hbel.drew
      have hmt := fun W (hW : Below w.heap.size w W) => (markText_any (k + j * 5) W (by omega)).mono (R' := fun e w' => e = .returned (.string (mkS (k + j * 5))) ∧ Below w.heap.size w w') (by rintro e w' ⟨he, hb⟩; exact ⟨he, hW.trans (hb.mono hW.size)⟩)
      rw [show (((k + j * 5 : Nat)) : Int) = (k : Int) + (j : Int) * 5 by omega] at hmt
      have hmu := fun W (hW : Below w.heap.size w W) => (markText_any (k + j * 5 + 1 + 1 + 1 + 1) W (by omega)).mono (R' := fun e w' => e = .returned (.string (mkS (k + j * 5 + 1 + 1 + 1 + 1))) ∧ Below w.heap.size w w') (by rintro e w' ⟨he, hb⟩; exact ⟨he, hW.trans (hb.mono hW.size)⟩)
      rw [show (((k + j * 5 + 1 + 1 + 1 + 1 : Nat)) : Int) = (k : Int) + (j : Int) * 5 + 1 + 1 + 1 + 1 by omega] at hmu
      obtain ⟨e3, e4⟩ := str_ne (mkS (k + j * 5))
      obtain ⟨e5, e6⟩ := str_ne (mkS (k + j * 5 + 1 + 1 + 1 + 1))
      have hne : ((k : Int) + (j : Int) * 5 + 1 != (k : Int) + (j : Int) * 5 + 1) = false := by simp
      have hne2 : ((k : Int) + (j : Int) * 5 + 1 + 1 != (k : Int) + (j : Int) * 5 + 1 + 1) = false := by simp
      have hne3 : ((k : Int) + (j : Int) * 5 + 1 + 1 + 1 != (k : Int) + (j : Int) * 5 + 1 + 1 + 1) = false := by simp
      have i1 : (0 : Int) ≤ (j : Int) := by omega
      have i2 : (j : Int) < (n : Int) := by omega
      generalize mkS (k + j * 5) = ms at *
      generalize mkS (k + j * 5 + 1 + 1 + 1 + 1) = mt at *
      clear hc hcell m0 m1 m2 m3 m4 hc0 hc1 hc2 hc3 hc4
      go_wp2
      go_region_held3 (fun W => W.cell? ⟨b, off + j * 5, none⟩ = some (.string ms) ∧ Below w.heap.size w W) (first | with_reducible assumption | with_reducible exact hS0) ((first | (go_at_call 33; with_reducible refine (hmt _ hS0.2).mono ?_; rintro e w1 ⟨rfl, hb1⟩; have hS1 := hS _ hb1)))
      obtain ⟨g1, g2, g3⟩ := hS12 _ hS1.2
      have hT0 := hT w1.drew hS1.2.drew
      go_wp2
      go_region_held3 (fun W => W.cell? ⟨b, off + j * 5 + 4, none⟩ = some (.string mt) ∧ Below w.heap.size w W) (first | with_reducible assumption | with_reducible exact hT0) ((first | (go_at_call 33; with_reducible refine (hmu _ hT0.2).mono ?_; rintro e w2 ⟨rfl, hb2⟩; have hT1 := hT _ hb2)))
      go_wp2
      go_roundw
      case rel => exact ⟨j + 1, by omega, by go_num, by go_num, hT1.2⟩
      case measure => simp [intOf]; omega
    · have hje : j = n := by omega
      subst hje
      clear hc
      go_wp2
      go_ret
      exact ⟨rfl, hbel⟩

/-- A message's lists are read where its slices lead. -/
structure CLists (w : World) (m : Mm) (q a u x : Value) : Prop where
  rq : CRow w q m.qs.length 3 (quCs m.qs)
  ra : CRow w a m.an.length 5 (rrCs m.an)
  ru : CRow w u m.au.length 5 (rrCs m.au)
  rx : CRow w x m.ex.length 5 (rrCs m.ex)

theorem CLists.below {w W : World} {m : Mm} {q a u x : Value} (h : CLists w m q a u x) (hb : Below w.heap.size w W) : CLists W m q a u x := ⟨h.rq.below hb, h.ra.below hb, h.ru.below hb, h.rx.below hb⟩
theorem Lists.cl {w : World} {B : Nat} {m : Mm} {q a u x : Value} (h : Lists w B m q a u x) : CLists w m q a u x := ⟨CRow.of_owns h.rq, CRow.of_owns h.ra, CRow.of_owns h.ru, CRow.of_owns h.rx⟩

/-- A message's numbers are small. -/
def small4 (m : Mm) : Prop := m.qs.length ≤ 100000 ∧ m.an.length ≤ 100000 ∧ m.au.length ≤ 100000 ∧ m.ex.length ≤ 100000

/-- Two messages lie in variables, one behind the other. -/
structure TwoM (w W : World) (c0 c1 : Array Value) : Prop where
  one : Blk W w.heap.size c0 28
  two : Blk W (w.heap.size + 1) c1 28
  be : Below w.heap.size w W

theorem TwoM.below {w W W1 : World} {c0 c1 : Array Value} (h : TwoM w W c0 c1) (hb : Below W.heap.size W W1) : TwoM w W1 c0 c1 := ⟨blk_below h.one hb, blk_below h.two hb, h.be.trans (hb.mono h.be.size)⟩

theorem two_msg (w : World) (c0 c1 : Array Value) : TwoM w ((w.alloc (.cells c0 28)).alloc (.cells c1 28)) c0 c1 := by
  refine ⟨blk_alloc (blk_new w c0 _) _, ?_, ((Below.refl _ _).alloc (Nat.le_refl _) _).alloc (by simp) _⟩
  have := blk_new (w.alloc (.cells c0 28)) c1 28
  have e1 : (w.alloc (.cells c0 28)).heap.size = w.heap.size + 1 := by simp
  rw [e1] at this
  exact this

set_option maxRecDepth 100000 in
set_option maxHeartbeats 3200000 in
theorem eqMessage_any (i0 i2 i10 : Int) (q1 q3 q4 q5 q6 q7 q8 q9 : Bool) (m : Mm) (q a u x q' a' u' x' : Value) (w : World) (h : CLists w m q a u x) (h' : CLists w m q' a' u' x') (hs : small4 m) :
    Calls Try.prog 7 #[.agg #[.int .i64 i0, .bool q1, .int .i64 i2, .bool q3, .bool q4, .bool q5, .bool q6, .bool q7, .bool q8, .bool q9, .int .i64 i10, q, a, u, x], .agg #[.int .i64 i0, .bool q1, .int .i64 i2, .bool q3, .bool q4, .bool q5, .bool q6, .bool q7, .bool q8, .bool q9, .int .i64 i10, q', a', u', x']] w fun e w' => e = .returned (.bool true) ∧ Below w.heap.size w w' := by
  have hhd := fun W => eqHead_any i0 i2 i10 q1 q3 q4 q5 q6 q7 q8 q9 W
  have hq := fun W (hW : Below w.heap.size w W) => eqQuestionS_any q q' m.qs W (h.rq.below hW) (h'.rq.below hW) (by have := hs.1; omega)
  have ha := fun W (hW : Below w.heap.size w W) => eqRRS_any a a' m.an W (h.ra.below hW) (h'.ra.below hW) (by have := hs.2.1; omega)
  have hu := fun W (hW : Below w.heap.size w W) => eqRRS_any u u' m.au W (h.ru.below hW) (h'.ru.below hW) (by have := hs.2.2.1; omega)
  have hx := fun W (hW : Below w.heap.size w W) => eqRRS_any x x' m.ex W (h.rx.below hW) (h'.rx.below hW) (by have := hs.2.2.2; omega)
  obtain ⟨_, qa, qc, rfl, _⟩ := h.rq
  obtain ⟨_, aa, ac, rfl, _⟩ := h.ra
  obtain ⟨_, ua, uc, rfl, _⟩ := h.ru
  obtain ⟨_, xa, xc, rfl, _⟩ := h.rx
  obtain ⟨_, qa', qc', rfl, _⟩ := h'.rq
  obtain ⟨_, aa', ac', rfl, _⟩ := h'.ra
  obtain ⟨_, ua', uc', rfl, _⟩ := h'.ru
  obtain ⟨_, xa', xc', rfl, _⟩ := h'.rx
  clear h h'
  have P0 := two_msg w #[.int .i64 i0, .bool q1, .int .i64 i2, .bool q3, .bool q4, .bool q5, .bool q6, .bool q7, .bool q8, .bool q9, .int .i64 i10, .slice qa m.qs.length qc, .slice aa m.an.length ac, .slice ua m.au.length uc, .slice xa m.ex.length xc] #[.int .i64 i0, .bool q1, .int .i64 i2, .bool q3, .bool q4, .bool q5, .bool q6, .bool q7, .bool q8, .bool q9, .int .i64 i10, .slice qa' m.qs.length qc', .slice aa' m.an.length ac', .slice ua' m.au.length uc', .slice xa' m.ex.length xc']
  go_enter Try.func7, Try.ntmps7
  go_wp2_with fail
  refine (hhd _).mono ?_
  rintro e w1 ⟨rfl, b1⟩
  have P1 := P0.below b1
  have r0 := fun i => blk_cell P1.one i
  have r1 := fun i => blk_cell P1.two i
  clear P0
  go_wp2_with fail
  refine (hq _ P1.be).mono ?_
  rintro e w2 ⟨rfl, b2⟩
  have P2 := P1.below b2
  have r0 := fun i => blk_cell P2.one i
  have r1 := fun i => blk_cell P2.two i
  clear P1
  go_wp2_with fail
  refine (ha _ P2.be).mono ?_
  rintro e w3 ⟨rfl, b3⟩
  have P3 := P2.below b3
  have r0 := fun i => blk_cell P3.one i
  have r1 := fun i => blk_cell P3.two i
  clear P2
  go_wp2_with fail
  refine (hu _ P3.be).mono ?_
  rintro e w4 ⟨rfl, b4⟩
  have P4 := P3.below b4
  have r0 := fun i => blk_cell P4.one i
  have r1 := fun i => blk_cell P4.two i
  clear P3
  go_wp2_with fail
  refine (hx _ P4.be).mono ?_
  rintro e w5 ⟨rfl, b5⟩
  have P5 := P4.below b5
  go_wp2
  go_ret
  exact ⟨rfl, P5.be⟩
end Go.Proofs.Ytakonfkefoeenah
