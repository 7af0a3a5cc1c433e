import Derived.Test.YtmaopfagkffccaaGreatJCrI
import Derived.Test.YtmaopfagkffccaaGreatEqQ
import Derived.Test.YtmaopfagkffccaaGreatEqV
import Derived.Test.YtmaopfagkffccaaGreatJMath
/- laws.eqHead, eqMessage over messages as they come in, by their contracts. -/
namespace Go.Proofs.YtmaopfagkffccaaGreat
open Go.RowKit
set_option linter.unusedVariables false

set_option maxRecDepth 100000 in
set_option maxHeartbeats 1600000 in
theorem eqHeadG_any (a0 a2 a10 : Int) (b1 b3 b4 b5 b6 b7 b8 b9 : Bool) (w : World) :
    Calls Tryz.prog 23 #[.agg #[.int .i64 a0, .bool b1, .int .i64 a2, .bool b3, .bool b4, .bool b5, .bool b6, .bool b7, .bool b8, .bool b9, .int .i64 a10], .agg #[.int .i64 a0, .bool b1, .int .i64 a2, .bool b3, .bool b4, .bool b5, .bool b6, .bool b7, .bool b8, .bool b9, .int .i64 a10]] w fun e w' => e = .returned (.bool true) ∧ Below w.heap.size w w' := by
  have h0 : (a0 != a0) = false := by simp
  have h2 : (a2 != a2) = false := by simp
  have h10 : (a10 != a10) = false := by simp
  go_enter Tryz.func23, Tryz.ntmps23
  go_wp2
  go_ret
  exact ⟨rfl, ((Below.refl _ _).alloc (Nat.le_refl _) _).alloc (by simp) _⟩

set_option maxRecDepth 100000 in
set_option maxHeartbeats 3200000 in
theorem eqMessageG_any (m : Mg) (q a u x q' a' u' x' : Value) (w : World) (h : MRow w m q a u x) (h' : MRow w m q' a' u' x') :
    Calls Tryz.prog 8 #[.agg (mgV m.hd q a u x), .agg (mgV m.hd q' a' u' x')] w fun e w' => e = .returned (.bool true) ∧ Below w.heap.size w w' := by
  have hhd := fun W => eqHeadG_any m.hd.id m.hd.op m.hd.code m.hd.qr m.hd.aa m.hd.tc m.hd.rd m.hd.ra m.hd.z m.hd.ad m.hd.cd W
  have hq := fun W (hW : Below w.heap.size w W) => eqQVS_any q q' m.qs W (h.rq.below hW) (h'.rq.below hW)
  have ha := fun W (hW : Below w.heap.size w W) => eqRVS_any a a' m.an W (h.ra.below hW) (h'.ra.below hW)
  have hu := fun W (hW : Below w.heap.size w W) => eqRVS_any u u' m.au W (h.ru.below hW) (h'.ru.below hW)
  have hx := fun W (hW : Below w.heap.size w W) => eqRVS_any x x' m.ex W (h.rx.below hW) (h'.rx.below hW)
  have hB := ((Below.refl w.heap.size w).alloc (Nat.le_refl _) (.cells (mgV m.hd q a u x) 33)).alloc (by simp) (.cells (mgV m.hd q' a' u' x') 33)
  have k0 := blk_alloc (blk_new w (mgV m.hd q a u x) 33) (.cells (mgV m.hd q' a' u' x') 33)
  have hz1 : (w.alloc (.cells (mgV m.hd q a u x) 33)).heap.size = w.heap.size + 1 := by simp
  have k1 := blk_new (w.alloc (.cells (mgV m.hd q a u x) 33)) (mgV m.hd q' a' u' x') 33
  rw [hz1] at k1
  clear hz1
  obtain ⟨_, qa, qc, rfl, _⟩ := h.rq
  obtain ⟨_, aa, ac, rfl, _⟩ := h.ra
  obtain ⟨_, ua, uc, rfl, _⟩ := h.ru
  obtain ⟨_, xa, xc, rfl, _⟩ := h.rx
  obtain ⟨_, qa', qc', rfl, _⟩ := h'.rq
  obtain ⟨_, aa', ac', rfl, _⟩ := h'.ra
  obtain ⟨_, ua', uc', rfl, _⟩ := h'.ru
  obtain ⟨_, xa', xc', rfl, _⟩ := h'.rx
  clear h h'
  obtain ⟨⟨i0, q1, i2, q3, q4, q5, q6, q7, q8, q9, i10⟩, qs, an, au, ex⟩ := m
  simp only [mgV] at *
  go_enter Tryz.func8, Tryz.ntmps8
  go_wp2_with fail
  refine (hhd _).mono ?_
  rintro e w1 ⟨rfl, b1⟩
  have y0 := blk_below k0 b1
  have y1 := blk_below k1 b1
  have B1 := Nm.below_two hB b1
  have r0 := fun i => blk_cell y0 i
  have r1 := fun i => blk_cell y1 i
  clear k0 k1 hB b1
  go_wp2_with fail
  refine (hq _ B1).mono ?_
  rintro e w2 ⟨rfl, b2⟩
  have y0 := blk_below y0 b2
  have y1 := blk_below y1 b2
  have B2 := Nm.below_two B1 b2
  have r0 := fun i => blk_cell y0 i
  have r1 := fun i => blk_cell y1 i
  go_wp2_with fail
  refine (ha _ B2).mono ?_
  rintro e w3 ⟨rfl, b3⟩
  have y0 := blk_below y0 b3
  have y1 := blk_below y1 b3
  have B3 := Nm.below_two B2 b3
  have r0 := fun i => blk_cell y0 i
  have r1 := fun i => blk_cell y1 i
  go_wp2_with fail
  refine (hu _ B3).mono ?_
  rintro e w4 ⟨rfl, b4⟩
  have y0 := blk_below y0 b4
  have y1 := blk_below y1 b4
  have B4 := Nm.below_two B3 b4
  have r0 := fun i => blk_cell y0 i
  have r1 := fun i => blk_cell y1 i
  go_wp2_with fail
  refine (hx _ B4).mono ?_
  rintro e w5 ⟨rfl, b5⟩
  go_wp2
  go_ret
  exact ⟨rfl, Nm.below_two B4 b5⟩
end Go.Proofs.YtmaopfagkffccaaGreat
