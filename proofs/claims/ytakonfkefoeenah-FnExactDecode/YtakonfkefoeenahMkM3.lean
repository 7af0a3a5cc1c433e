import Derived.Test.YtakonfkefoeenahJEqH1
import Derived.Test.YtakonfkefoeenahJRowA
/- laws.markMessage, heldMessage, markByteS by their contracts. -/
namespace Go.Proofs.Ytakonfkefoeenah
open Go.RowKit
set_option linter.unusedVariables false

/-- The marks that a message's lists bear. -/
structure Marked (w : World) (B : Nat) (m : Mm) (q a u x : Value) : Prop where
  rq : w.ownsRow B 56 3 q m.qs.length (mkL mkQ 1 (m.qs.length * 3))
  ra : w.ownsRow B 58 5 a m.an.length (mkL mkR (1 + m.qs.length * 3) (m.an.length * 5))
  ru : w.ownsRow B 58 5 u m.au.length (mkL mkR (1 + m.qs.length * 3 + m.an.length * 5) (m.au.length * 5))
  rx : w.ownsRow B 58 5 x m.ex.length (mkL mkR (1 + m.qs.length * 3 + m.an.length * 5 + m.au.length * 5) (m.ex.length * 5))

theorem Marked.below {w W : World} {B : Nat} {m : Mm} {q a u x : Value} (h : Marked w B m q a u x) (hb : Below w.heap.size w W) : Marked W B m q a u x := ⟨own_below h.rq hb, own_below h.ra hb, own_below h.ru hb, own_below h.rx hb⟩

def lastMark (m : Mm) : Nat := 1 + m.qs.length * 3 + m.an.length * 5 + m.au.length * 5 + m.ex.length * 5

theorem below_row {B : Nat} {w W W1 : World} {v : Value} (h : Below B w W) (hg : W.grownBy W1 v.ownBlock) (hB : B ≤ W.heap.size) (hv : ∀ k, v.ownBlock = some k → B ≤ k) : Below B w W1 := h.grown hg hB hv

set_option maxRecDepth 100000 in
set_option maxHeartbeats 3200000 in
theorem markMessage_any (i0 i2 i10 : Int) (q1 q3 q4 q5 q6 q7 q8 q9 : Bool) (m : Mm) (q a u x : Value) (B : Nat) (w : World) (h : Lists w B m q a u x) (hB : B ≤ w.heap.size) (hs : small4 m) :
    Calls Try.prog 10 #[.agg #[.int .i64 i0, .bool q1, .int .i64 i2, .bool q3, .bool q4, .bool q5, .bool q6, .bool q7, .bool q8, .bool q9, .int .i64 i10, q, a, u, x], .int .i64 1] w fun e w' => e = .returned (.int .i64 ((lastMark m : Nat) : Int)) ∧ Marked w' B m q a u x ∧ Below B w w' ∧ ∀ b cs T, 56 ≠ T → 58 ≠ T → Blk w b cs T → Blk w' b cs T := by
  obtain ⟨s1, s2, s3, s4⟩ := hs
  obtain ⟨rq, ra, ru, rx, au, ax, ux⟩ := h
  have hq := fun W xs (h : W.ownsRow B 56 3 q m.qs.length xs) (hW : B ≤ W.heap.size) => markQuestionS_any q m.qs.length B 1 xs W h hW (by omega) (by decide)
  have hR := fun (v : Value) (n k : Nat) (hn : n ≤ 100000) (hk : k ≤ 10000000) W xs (h : W.ownsRow B 58 5 v n xs) (hW : B ≤ W.heap.size) => markRRS_any v n B k xs W h hW (by omega) hk
  have ha := hR a m.an.length (1 + m.qs.length * 3) s2 (by omega)
  have hu := hR u m.au.length (1 + m.qs.length * 3 + m.an.length * 5) s3 (by omega)
  have hx := hR x m.ex.length (1 + m.qs.length * 3 + m.an.length * 5 + m.au.length * 5) s4 (by omega)
  obtain ⟨qa, qc, rfl⟩ := row_val rq
  obtain ⟨aa, ac, rfl⟩ := row_val ra
  obtain ⟨ua, uc, rfl⟩ := row_val ru
  obtain ⟨xa, xc, rfl⟩ := row_val rx
  have hb0 := blk_new w #[.int .i64 i0, .bool q1, .int .i64 i2, .bool q3, .bool q4, .bool q5, .bool q6, .bool q7, .bool q8, .bool q9, .int .i64 i10, .slice qa m.qs.length qc, .slice aa m.an.length ac, .slice ua m.au.length uc, .slice xa m.ex.length xc] 28
  have be0 : Below B w (w.alloc (.cells #[.int .i64 i0, .bool q1, .int .i64 i2, .bool q3, .bool q4, .bool q5, .bool q6, .bool q7, .bool q8, .bool q9, .int .i64 i10, .slice qa m.qs.length qc, .slice aa m.an.length ac, .slice ua m.au.length uc, .slice xa m.ex.length xc] 28)) := (Below.refl _ _).alloc hB _
  have rq0 := rq.alloc (.cells #[.int .i64 i0, .bool q1, .int .i64 i2, .bool q3, .bool q4, .bool q5, .bool q6, .bool q7, .bool q8, .bool q9, .int .i64 i10, .slice qa m.qs.length qc, .slice aa m.an.length ac, .slice ua m.au.length uc, .slice xa m.ex.length xc] 28)
  have ra0 := ra.alloc (.cells #[.int .i64 i0, .bool q1, .int .i64 i2, .bool q3, .bool q4, .bool q5, .bool q6, .bool q7, .bool q8, .bool q9, .int .i64 i10, .slice qa m.qs.length qc, .slice aa m.an.length ac, .slice ua m.au.length uc, .slice xa m.ex.length xc] 28)
  have ru0 := ru.alloc (.cells #[.int .i64 i0, .bool q1, .int .i64 i2, .bool q3, .bool q4, .bool q5, .bool q6, .bool q7, .bool q8, .bool q9, .int .i64 i10, .slice qa m.qs.length qc, .slice aa m.an.length ac, .slice ua m.au.length uc, .slice xa m.ex.length xc] 28)
  have rx0 := rx.alloc (.cells #[.int .i64 i0, .bool q1, .int .i64 i2, .bool q3, .bool q4, .bool q5, .bool q6, .bool q7, .bool q8, .bool q9, .int .i64 i10, .slice qa m.qs.length qc, .slice aa m.an.length ac, .slice ua m.au.length uc, .slice xa m.ex.length xc] 28)
  go_enter Try.func10, Try.ntmps10
  go_wp2_with fail
  refine (hq _ _ rq0 (Nat.le_trans hB be0.size)).mono ?_
  rintro e w1 ⟨rfl, o1, g1⟩
  have hb1 := blk_grown hb0 g1 (row_blk rq0 hb0 (by decide))
  have r1 := fun i => blk_cell hb1 i
  have ra1 := own_apart ra0 rq0 (by decide) g1
  have ru1 := own_apart ru0 rq0 (by decide) g1
  have rx1 := own_apart rx0 rq0 (by decide) g1
  have be1 := below_row be0 g1 (Nat.le_trans hB be0.size) (fun k hk => (rq0.lt k hk).1)
  have K1 : Hid (∀ b cs T, 56 ≠ T → 58 ≠ T → Blk w b cs T → Blk w1 b cs T) := fun b cs T n1 n2 h => blk_grown (blk_alloc h _) g1 (row_blk rq0 (blk_alloc h _) n1)
  clear hb0 rq0 ra0 ru0 rx0 be0
  simp only [Int.natCast_add, Int.natCast_mul] at ha hu hx ⊢
  go_wp2_with fail
  refine (ha _ _ ra1 (Nat.le_trans hB be1.size)).mono ?_
  rintro e w2 ⟨rfl, o2, g2⟩
  have hb2 := blk_grown hb1 g2 (row_blk ra1 hb1 (by decide))
  have r2 := fun i => blk_cell hb2 i
  have p1 := own_apart o1 ra1 (by decide) g2
  have ru2 := row_apart ru1 g2 au
  have rx2 := row_apart rx1 g2 ax
  have K2 : Hid (∀ b cs T, 56 ≠ T → 58 ≠ T → Blk w b cs T → Blk w2 b cs T) := fun b cs T n1 n2 h => blk_grown (K1.out b cs T n1 n2 h) g2 (row_blk ra1 (K1.out b cs T n1 n2 h) n2)
  have be2 := below_row be1 g2 (Nat.le_trans hB be1.size) (fun k hk => (ra1.lt k hk).1)
  go_wp2_with fail
  refine (hu _ _ ru2 (Nat.le_trans hB be2.size)).mono ?_
  rintro e w3 ⟨rfl, o3, g3⟩
  have hb3 := blk_grown hb2 g3 (row_blk ru2 hb2 (by decide))
  have r3 := fun i => blk_cell hb3 i
  have p13 := own_apart p1 ru2 (by decide) g3
  have p23 := row_apart o2 g3 (fun k hk hk2 => au k hk2 hk)
  have rx3 := row_apart rx2 g3 ux
  have K3 : Hid (∀ b cs T, 56 ≠ T → 58 ≠ T → Blk w b cs T → Blk w3 b cs T) := fun b cs T n1 n2 h => blk_grown (K2.out b cs T n1 n2 h) g3 (row_blk ru2 (K2.out b cs T n1 n2 h) n2)
  have be3 := below_row be2 g3 (Nat.le_trans hB be2.size) (fun k hk => (ru2.lt k hk).1)
  go_wp2_with fail
  refine (hx _ _ rx3 (Nat.le_trans hB be3.size)).mono ?_
  rintro e w4 ⟨rfl, o4, g4⟩
  have p14 := own_apart p13 rx3 (by decide) g4
  have p24 := row_apart p23 g4 (fun k hk hk2 => ax k hk2 hk)
  have p34 := row_apart o3 g4 (fun k hk hk2 => ux k hk2 hk)
  have K4 : Hid (∀ b cs T, 56 ≠ T → 58 ≠ T → Blk w b cs T → Blk w4 b cs T) := fun b cs T n1 n2 h => blk_grown (K3.out b cs T n1 n2 h) g4 (row_blk rx3 (K3.out b cs T n1 n2 h) n2)
  have be4 := below_row be3 g4 (Nat.le_trans hB be3.size) (fun k hk => (rx3.lt k hk).1)
  go_wp2
  go_ret
  exact ⟨by simp [lastMark], ⟨p14, p24, p34, o4⟩, be4, K4.out⟩

/-- The marks are read where a message's slices lead. -/
structure CMarked (w : World) (m : Mm) (q a u x : Value) : Prop where
  rq : CRow w q m.qs.length 3 (mkL mkQ 1 (m.qs.length * 3))
  ra : CRow w a m.an.length 5 (mkL mkR (1 + m.qs.length * 3) (m.an.length * 5))
  ru : CRow w u m.au.length 5 (mkL mkR (1 + m.qs.length * 3 + m.an.length * 5) (m.au.length * 5))
  rx : CRow w x m.ex.length 5 (mkL mkR (1 + m.qs.length * 3 + m.an.length * 5 + m.au.length * 5) (m.ex.length * 5))

theorem Marked.cm {w : World} {B : Nat} {m : Mm} {q a u x : Value} (h : Marked w B m q a u x) : CMarked w m q a u x := ⟨CRow.of_owns h.rq, CRow.of_owns h.ra, CRow.of_owns h.ru, CRow.of_owns h.rx⟩
theorem CMarked.below {w W : World} {m : Mm} {q a u x : Value} (h : CMarked w m q a u x) (hb : Below w.heap.size w W) : CMarked W m q a u x := ⟨h.rq.below hb, h.ra.below hb, h.ru.below hb, h.rx.below hb⟩

set_option maxRecDepth 100000 in
set_option maxHeartbeats 3200000 in
theorem heldMessage_any (i0 i2 i10 : Int) (q1 q3 q4 q5 q6 q7 q8 q9 : Bool) (m : Mm) (q a u x : Value) (w : World) (h : CMarked w m q a u x) (hs : small4 m) :
    Calls Try.prog 11 #[.agg #[.int .i64 i0, .bool q1, .int .i64 i2, .bool q3, .bool q4, .bool q5, .bool q6, .bool q7, .bool q8, .bool q9, .int .i64 i10, q, a, u, x], .int .i64 1] w fun e w' => e = .returned (.int .i64 ((lastMark m : Nat) : Int)) ∧ Below w.heap.size w w' := by
  obtain ⟨s1, s2, s3, s4⟩ := hs
  have hq := fun W (hW : Below w.heap.size w W) => heldQuestionS_any q m.qs.length 1 W (h.rq.below hW) (by omega) (by decide)
  have ha := fun W (hW : Below w.heap.size w W) => heldRRS_any a m.an.length (1 + m.qs.length * 3) W (h.ra.below hW) (by omega) (by omega)
  have hu := fun W (hW : Below w.heap.size w W) => heldRRS_any u m.au.length (1 + m.qs.length * 3 + m.an.length * 5) W (h.ru.below hW) (by omega) (by omega)
  have hx := fun W (hW : Below w.heap.size w W) => heldRRS_any x m.ex.length (1 + m.qs.length * 3 + m.an.length * 5 + m.au.length * 5) W (h.rx.below hW) (by omega) (by omega)
  obtain ⟨_, qa, qc, rfl, _⟩ := h.rq
  obtain ⟨_, aa, ac, rfl, _⟩ := h.ra
  obtain ⟨_, ua, uc, rfl, _⟩ := h.ru
  obtain ⟨_, xa, xc, rfl, _⟩ := h.rx
  clear h
  have hb0 := blk_new w #[.int .i64 i0, .bool q1, .int .i64 i2, .bool q3, .bool q4, .bool q5, .bool q6, .bool q7, .bool q8, .bool q9, .int .i64 i10, .slice qa m.qs.length qc, .slice aa m.an.length ac, .slice ua m.au.length uc, .slice xa m.ex.length xc] 28
  have be0 : Below w.heap.size w (w.alloc (.cells #[.int .i64 i0, .bool q1, .int .i64 i2, .bool q3, .bool q4, .bool q5, .bool q6, .bool q7, .bool q8, .bool q9, .int .i64 i10, .slice qa m.qs.length qc, .slice aa m.an.length ac, .slice ua m.au.length uc, .slice xa m.ex.length xc] 28)) := (Below.refl _ _).alloc (Nat.le_refl _) _
  simp only [Int.natCast_add, Int.natCast_mul] at ha hu hx
  go_enter Try.func11, Try.ntmps11
  go_wp2_with fail
  refine (hq _ be0).mono ?_
  rintro e w1 ⟨rfl, b1⟩
  have hb1 := blk_below hb0 b1
  have r1 := fun i => blk_cell hb1 i
  have be1 := Nm.below_two be0 b1
  simp only [Int.natCast_add, Int.natCast_mul]
  go_wp2_with fail
  refine (ha _ be1).mono ?_
  rintro e w2 ⟨rfl, b2⟩
  have hb2 := blk_below hb1 b2
  have r2 := fun i => blk_cell hb2 i
  have be2 := Nm.below_two be1 b2
  go_wp2_with fail
  refine (hu _ be2).mono ?_
  rintro e w3 ⟨rfl, b3⟩
  have hb3 := blk_below hb2 b3
  have r3 := fun i => blk_cell hb3 i
  have be3 := Nm.below_two be2 b3
  go_wp2_with fail
  refine (hx _ be3).mono ?_
  rintro e w4 ⟨rfl, b4⟩
  have be4 := Nm.below_two be3 b4
  go_wp2
  go_ret
  exact ⟨by simp [lastMark], be4⟩
end Go.Proofs.Ytakonfkefoeenah
