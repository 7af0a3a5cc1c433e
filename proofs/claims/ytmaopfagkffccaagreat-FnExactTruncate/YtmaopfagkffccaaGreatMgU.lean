import Derived.Test.YtmaopfagkffccaaGreatMgT
import Derived.Test.YtmaopfagkffccaaGreatJMath
/- laws.toMessage by its contract. -/
namespace Go.Proofs.YtmaopfagkffccaaGreat
open Go.RowKit
set_option linter.unusedVariables false

theorem setAll_mid {b : Nat} {T : TypeId} : ∀ (vs old pre suf : List Value) (w : World), Blk w b (pre ++ (old ++ suf)).toArray T → old.length = vs.length → Blk (setAll w b pre.length vs) b (pre ++ (vs ++ suf)).toArray T := by
  intro vs
  induction vs with
  | nil =>
    intro old pre suf w h hl
    have : old = [] := List.length_eq_zero_iff.1 hl
    subst this
    exact h
  | cons v vs ih =>
    intro old pre suf w h hl
    cases old with
    | nil => simp at hl
    | cons x old =>
      have h2 := blk_set h pre.length v
      have e : (pre ++ (x :: old ++ suf)).toArray.setIfInBounds pre.length v = ((pre ++ [v]) ++ (old ++ suf)).toArray := by simp
      rw [e] at h2
      have h3 := ih old (pre ++ [v]) suf _ h2 (by simpa using hl)
      rw [List.length_append] at h3
      simpa [setAll] using h3
theorem setAll_under {w : World} {B b : Nat} (hb : B ≤ b) : ∀ (vs : List Value) (i : Nat) (W : World), Below B w W → Below B w (setAll W b i vs) := by
  intro vs
  induction vs with
  | nil => intro i W h; exact h
  | cons v vs ih => intro i W h; exact ih (i + 1) _ (h.setCell hb _)

theorem own_setAll {B e s n g : Nat} {v : Value} {xs : List Value} (hg : g < B) : ∀ (vs : List Value) (i : Nat) (W : World), W.ownsRow B e s v n xs → (setAll W g i vs).ownsRow B e s v n xs := by
  intro vs
  induction vs with
  | nil => intro i W h; exact h
  | cons v vs ih => intro i W h; exact ih (i + 1) _ (own_far_lt h hg)

set_option maxRecDepth 100000 in
set_option maxHeartbeats 3200000 in
theorem toMessage_any (m : Mg) (q a u x : Value) (w : World) (h : MRow w m q a u x) (hl : msum m ≤ 1048576) :
    Calls Tryz.prog 6 #[.agg (mgV m.hd q a u x)] w fun e w' => ∃ q' a' u' x', e = .returned (.agg (mgV m.hd q' a' u' x')) ∧ MOwn w' w.heap.size m q' a' u' x' ∧ Below w.heap.size w w' := by
  unfold msum at hl
  have hz1 : (w.alloc (.cells (mgV m.hd q a u x) 27)).heap.size = w.heap.size + 1 := by simp
  have hz2 : ((w.alloc (.cells (mgV m.hd q a u x) 27)).alloc (.cells (mgV ⟨0, false, 0, false, false, false, false, false, false, false, 0⟩ (.slice none 0 0) (.slice none 0 0) (.slice none 0 0) (.slice none 0 0)) 33)).heap.size = w.heap.size + 1 + 1 := by simp
  have hB := (((Below.refl w.heap.size w).alloc (Nat.le_refl _) (.cells (mgV m.hd q a u x) 27)).alloc (by simp) (.cells (mgV ⟨0, false, 0, false, false, false, false, false, false, false, 0⟩ (.slice none 0 0) (.slice none 0 0) (.slice none 0 0) (.slice none 0 0)) 33)).alloc (by simp; omega) (.cells (mgV ⟨0, false, 0, false, false, false, false, false, false, false, 0⟩ (.slice none 0 0) (.slice none 0 0) (.slice none 0 0) (.slice none 0 0)) 33)
  have k0 := blk_alloc (blk_alloc (blk_new w (mgV m.hd q a u x) 27) (.cells (mgV ⟨0, false, 0, false, false, false, false, false, false, false, 0⟩ (.slice none 0 0) (.slice none 0 0) (.slice none 0 0) (.slice none 0 0)) 33)) (.cells (mgV ⟨0, false, 0, false, false, false, false, false, false, false, 0⟩ (.slice none 0 0) (.slice none 0 0) (.slice none 0 0) (.slice none 0 0)) 33)
  have k1 := blk_alloc (blk_new (w.alloc (.cells (mgV m.hd q a u x) 27)) (mgV ⟨0, false, 0, false, false, false, false, false, false, false, 0⟩ (.slice none 0 0) (.slice none 0 0) (.slice none 0 0) (.slice none 0 0)) 33) (.cells (mgV ⟨0, false, 0, false, false, false, false, false, false, false, 0⟩ (.slice none 0 0) (.slice none 0 0) (.slice none 0 0) (.slice none 0 0)) 33)
  have k2 := blk_new ((w.alloc (.cells (mgV m.hd q a u x) 27)).alloc (.cells (mgV ⟨0, false, 0, false, false, false, false, false, false, false, 0⟩ (.slice none 0 0) (.slice none 0 0) (.slice none 0 0) (.slice none 0 0)) 33)) (mgV ⟨0, false, 0, false, false, false, false, false, false, false, 0⟩ (.slice none 0 0) (.slice none 0 0) (.slice none 0 0) (.slice none 0 0)) 33
  rw [hz1] at k1
  rw [hz2] at k2
  clear hz1 hz2
  have hhd := fun W => toHead_any m.hd W
  have hq := fun W (hW : Below w.heap.size w W) => toQuestionS_any q m.qs W (h.rq.below hW) (by omega)
  have ha := fun W (hW : Below w.heap.size w W) => toRRS_any a m.an W (h.ra.below hW) (by omega)
  have hu := fun W (hW : Below w.heap.size w W) => toRRS_any u m.au W (h.ru.below hW) (by omega)
  have hx := fun W (hW : Below w.heap.size w W) => toRRS_any x m.ex W (h.rx.below hW) (by omega)
  obtain ⟨_, qa, qc, rfl, _⟩ := h.rq
  obtain ⟨_, aa, ac, rfl, _⟩ := h.ra
  obtain ⟨_, ua, uc, rfl, _⟩ := h.ru
  obtain ⟨_, xa, xc, rfl, _⟩ := h.rx
  clear h hl
  obtain ⟨⟨i0, q1, i2, q3, q4, q5, q6, q7, q8, q9, i10⟩, qs, an, au, ex⟩ := m
  simp only [mgV, hrV] at *
  go_enter Tryz.func6, Tryz.ntmps6
  go_wp2_with fail
  refine (hhd _).mono ?_
  rintro e w1 ⟨rfl, b1⟩
  have B1 := Nm.below_two hB b1
  have y0 := blk_below k0 b1
  have y1 := blk_below k1 b1
  have y2 := blk_below k2 b1
  have r0 := fun i => blk_cell y0 i
  have r2 := fun i => blk_cell y2 i
  have f2 := fun i => blk_frozen y2 i
  go_wp2_with fail
  clear r0 r2 f2
  obtain ⟨W1, hW1⟩ : ∃ W, W = setAll w1 (w.heap.size + 1 + 1) 0 [.int .i64 i0, .bool q1, .int .i64 i2, .bool q3, .bool q4, .bool q5, .bool q6, .bool q7, .bool q8, .bool q9, .int .i64 i10] := ⟨_, rfl⟩
  have z2 : Blk W1 (w.heap.size + 1 + 1) #[.int .i64 i0, .bool q1, .int .i64 i2, .bool q3, .bool q4, .bool q5, .bool q6, .bool q7, .bool q8, .bool q9, .int .i64 i10, .slice none 0 0, .slice none 0 0, .slice none 0 0, .slice none 0 0] 33 := by
    rw [hW1]
    exact setAll_mid [.int .i64 i0, .bool q1, .int .i64 i2, .bool q3, .bool q4, .bool q5, .bool q6, .bool q7, .bool q8, .bool q9, .int .i64 i10] [.int .i64 0, .bool false, .int .i64 0, .bool false, .bool false, .bool false, .bool false, .bool false, .bool false, .bool false, .int .i64 0] [] [.slice none 0 0, .slice none 0 0, .slice none 0 0, .slice none 0 0] w1 y2 rfl
  have z0 := setAll_far (b := w.heap.size) (c := w.heap.size + 1 + 1) (by omega) [.int .i64 i0, .bool q1, .int .i64 i2, .bool q3, .bool q4, .bool q5, .bool q6, .bool q7, .bool q8, .bool q9, .int .i64 i10] 0 w1 y0
  have z1 := setAll_far (b := w.heap.size + 1) (c := w.heap.size + 1 + 1) (by omega) [.int .i64 i0, .bool q1, .int .i64 i2, .bool q3, .bool q4, .bool q5, .bool q6, .bool q7, .bool q8, .bool q9, .int .i64 i10] 0 w1 y1
  have BW := setAll_under (B := w.heap.size) (b := w.heap.size + 1 + 1) (by omega) [.int .i64 i0, .bool q1, .int .i64 i2, .bool q3, .bool q4, .bool q5, .bool q6, .bool q7, .bool q8, .bool q9, .int .i64 i10] 0 w1 B1
  rw [← hW1] at z0 z1 BW
  simp only [setAll, Nat.reduceAdd, Nat.zero_add] at hW1
  rw [← hW1]
  clear hW1 y0 y1 y2 B1 b1 k0 k1 k2 hB hhd
  refine (hq _ BW).mono ?_
  rintro e w2 ⟨vq, rfl, oq, b2⟩
  obtain ⟨qa', qc', hvq⟩ := own_sl oq
  subst hvq
  have x0 := blk_below z0 b2
  have x1 := blk_below z1 b2
  have x2 := blk_below z2 b2
  have B2 := Nm.below_two BW b2
  have r0 := fun i => blk_cell x0 i
  have r2 := fun i => blk_cell x2 i
  have f2 := fun i => blk_frozen x2 i
  have hg2 := blk_lt z2
  clear z0 z1 z2 BW b2
  go_wp2_with fail
  have A2 := blk_set x2 11 (.slice qa' qs.length qc')
  have A0 : Blk (w2.setCell ⟨w.heap.size + 1 + 1, 11, none⟩ (.slice qa' qs.length qc')) w.heap.size _ _ := blk_far x0 (by omega)
  have A1 : Blk (w2.setCell ⟨w.heap.size + 1 + 1, 11, none⟩ (.slice qa' qs.length qc')) (w.heap.size + 1) _ _ := blk_far x1 (by omega)
  have oq2 := own_far_lt (g := w.heap.size + 1 + 1) (i := 11) (y := .slice qa' qs.length qc') oq hg2
  clear r0 r2 f2 x0 x1 x2 oq
  refine (ha _ (B2.setCell (by show w.heap.size ≤ w.heap.size + 1 + 1; omega) _)).mono ?_
  rintro e w3 ⟨va, rfl, oa, b3⟩
  obtain ⟨aa', ac', hva⟩ := own_sl oa
  subst hva
  have x0 := blk_below A0 b3
  have x1 := blk_below A1 b3
  have x2 := blk_below A2 b3
  have B3 := Nm.below_two (B2.setCell (by show w.heap.size ≤ w.heap.size + 1 + 1; omega) _) b3
  have oq3 := own_below oq2 b3
  have hg3 : w.heap.size + 1 + 1 < (w2.setCell ⟨w.heap.size + 1 + 1, 11, none⟩ (.slice qa' qs.length qc')).heap.size := blk_lt A2
  have r0 := fun i => blk_cell x0 i
  have r2 := fun i => blk_cell x2 i
  have f2 := fun i => blk_frozen x2 i
  clear A0 A1 A2 B2 b3 oq2
  go_wp2_with fail
  have A2 := blk_set x2 12 (.slice aa' an.length ac')
  have A0 : Blk (w3.setCell ⟨w.heap.size + 1 + 1, 12, none⟩ (.slice aa' an.length ac')) w.heap.size _ _ := blk_far x0 (by omega)
  have A1 : Blk (w3.setCell ⟨w.heap.size + 1 + 1, 12, none⟩ (.slice aa' an.length ac')) (w.heap.size + 1) _ _ := blk_far x1 (by omega)
  have oq4 := own_far_lt (g := w.heap.size + 1 + 1) (i := 12) (y := .slice aa' an.length ac') oq3 hg2
  have oa4 := own_far_lt (g := w.heap.size + 1 + 1) (i := 12) (y := .slice aa' an.length ac') oa hg3
  clear r0 r2 f2 x0 x1 x2 oq3 oa
  refine (hu _ (B3.setCell (by show w.heap.size ≤ w.heap.size + 1 + 1; omega) _)).mono ?_
  rintro e w4 ⟨vu, rfl, ou, b4⟩
  obtain ⟨ua', uc', hvu⟩ := own_sl ou
  subst hvu
  have x0 := blk_below A0 b4
  have x1 := blk_below A1 b4
  have x2 := blk_below A2 b4
  have B4 := Nm.below_two (B3.setCell (by show w.heap.size ≤ w.heap.size + 1 + 1; omega) _) b4
  have oq5 := own_below oq4 b4
  have oa5 := own_below oa4 b4
  have hg4 : w.heap.size + 1 + 1 < (w3.setCell ⟨w.heap.size + 1 + 1, 12, none⟩ (.slice aa' an.length ac')).heap.size := blk_lt A2
  have r0 := fun i => blk_cell x0 i
  have r2 := fun i => blk_cell x2 i
  have f2 := fun i => blk_frozen x2 i
  clear A0 A1 A2 B3 b4 oq4 oa4
  go_wp2_with fail
  have A2 := blk_set x2 13 (.slice ua' au.length uc')
  have A1 : Blk (w4.setCell ⟨w.heap.size + 1 + 1, 13, none⟩ (.slice ua' au.length uc')) (w.heap.size + 1) _ _ := blk_far x1 (by omega)
  have oq6 := own_far_lt (g := w.heap.size + 1 + 1) (i := 13) (y := .slice ua' au.length uc') oq5 hg2
  have oa6 := own_far_lt (g := w.heap.size + 1 + 1) (i := 13) (y := .slice ua' au.length uc') oa5 hg3
  have ou6 := own_far_lt (g := w.heap.size + 1 + 1) (i := 13) (y := .slice ua' au.length uc') ou hg4
  clear r0 r2 f2 x0 x1 x2 oq5 oa5 ou
  refine (hx _ (B4.setCell (by show w.heap.size ≤ w.heap.size + 1 + 1; omega) _)).mono ?_
  rintro e w5 ⟨vx, rfl, ox, b5⟩
  obtain ⟨xa', xc', hvx⟩ := own_sl ox
  subst hvx
  have x1 := blk_below A1 b5
  have x2 := blk_below A2 b5
  have B5 := Nm.below_two (B4.setCell (by show w.heap.size ≤ w.heap.size + 1 + 1; omega) _) b5
  have oq7 := own_below oq6 b5
  have oa7 := own_below oa6 b5
  have ou7 := own_below ou6 b5
  have hg5 : w.heap.size + 1 + 1 < (w4.setCell ⟨w.heap.size + 1 + 1, 13, none⟩ (.slice ua' au.length uc')).heap.size := blk_lt A2
  have A2 := blk_set x2 14 (.slice xa' ex.length xc')
  have A1 : Blk (w5.setCell ⟨w.heap.size + 1 + 1, 14, none⟩ (.slice xa' ex.length xc')) (w.heap.size + 1) _ _ := blk_far x1 (by omega)
  have oq8 := own_far_lt (g := w.heap.size + 1 + 1) (i := 14) (y := .slice xa' ex.length xc') oq7 hg2
  have oa8 := own_far_lt (g := w.heap.size + 1 + 1) (i := 14) (y := .slice xa' ex.length xc') oa7 hg3
  have ou8 := own_far_lt (g := w.heap.size + 1 + 1) (i := 14) (y := .slice xa' ex.length xc') ou7 hg4
  have ox8 := own_far_lt (g := w.heap.size + 1 + 1) (i := 14) (y := .slice xa' ex.length xc') ox hg5
  have B6 : Below w.heap.size w (w5.setCell ⟨w.heap.size + 1 + 1, 14, none⟩ (.slice xa' ex.length xc')) := B5.setCell (by show w.heap.size ≤ w.heap.size + 1 + 1; omega) _
  have p14 : w5.cell? ⟨w.heap.size + 1 + 1, 14, none⟩ = some (.slice none 0 0) := (blk_cell x2 14).trans rfl
  have pf := fun i => blk_frozen x2 i
  have r2 := fun i => blk_cell A2 i
  have r1 := fun i => blk_cell A1 i
  have f1 := fun i => blk_frozen A1 i
  clear x1 x2 oq7 oa7 ou7 ox B5 b5 oq6 oa6 ou6 B4
  go_wp2_with fail
  obtain ⟨W6, hW6⟩ : ∃ W, W = setAll (w5.setCell ⟨w.heap.size + 1 + 1, 14, none⟩ (.slice xa' ex.length xc')) (w.heap.size + 1) 0 [.int .i64 i0, .bool q1, .int .i64 i2, .bool q3, .bool q4, .bool q5, .bool q6, .bool q7, .bool q8, .bool q9, .int .i64 i10, .slice qa' qs.length qc', .slice aa' an.length ac', .slice ua' au.length uc', .slice xa' ex.length xc'] := ⟨_, rfl⟩
  have kz := setAll_new [.int .i64 i0, .bool q1, .int .i64 i2, .bool q3, .bool q4, .bool q5, .bool q6, .bool q7, .bool q8, .bool q9, .int .i64 i10, .slice qa' qs.length qc', .slice aa' an.length ac', .slice ua' au.length uc', .slice xa' ex.length xc'] A1 rfl
  have B7 := setAll_under (B := w.heap.size) (b := w.heap.size + 1) (by omega) [.int .i64 i0, .bool q1, .int .i64 i2, .bool q3, .bool q4, .bool q5, .bool q6, .bool q7, .bool q8, .bool q9, .int .i64 i10, .slice qa' qs.length qc', .slice aa' an.length ac', .slice ua' au.length uc', .slice xa' ex.length xc'] 0 _ B6
  have oq9 := own_setAll (g := w.heap.size + 1) (by omega) [.int .i64 i0, .bool q1, .int .i64 i2, .bool q3, .bool q4, .bool q5, .bool q6, .bool q7, .bool q8, .bool q9, .int .i64 i10, .slice qa' qs.length qc', .slice aa' an.length ac', .slice ua' au.length uc', .slice xa' ex.length xc'] 0 _ oq8
  have oa9 := own_setAll (g := w.heap.size + 1) (by omega) [.int .i64 i0, .bool q1, .int .i64 i2, .bool q3, .bool q4, .bool q5, .bool q6, .bool q7, .bool q8, .bool q9, .int .i64 i10, .slice qa' qs.length qc', .slice aa' an.length ac', .slice ua' au.length uc', .slice xa' ex.length xc'] 0 _ oa8
  have ou9 := own_setAll (g := w.heap.size + 1) (by omega) [.int .i64 i0, .bool q1, .int .i64 i2, .bool q3, .bool q4, .bool q5, .bool q6, .bool q7, .bool q8, .bool q9, .int .i64 i10, .slice qa' qs.length qc', .slice aa' an.length ac', .slice ua' au.length uc', .slice xa' ex.length xc'] 0 _ ou8
  have ox9 := own_setAll (g := w.heap.size + 1) (by omega) [.int .i64 i0, .bool q1, .int .i64 i2, .bool q3, .bool q4, .bool q5, .bool q6, .bool q7, .bool q8, .bool q9, .int .i64 i10, .slice qa' qs.length qc', .slice aa' an.length ac', .slice ua' au.length uc', .slice xa' ex.length xc'] 0 _ ox8
  rw [← hW6] at kz B7 oq9 oa9 ou9 ox9
  simp only [setAll, Nat.reduceAdd, Nat.zero_add] at hW6
  rw [← hW6]
  have rz := fun i => blk_cell kz i
  clear hW6 r1 r2 f1 A1 A2 oq8 oa8 ou8 ox8 B6
  refine bodyPost_ret (v := .agg #[.int .i64 i0, .bool q1, .int .i64 i2, .bool q3, .bool q4, .bool q5, .bool q6, .bool q7, .bool q8, .bool q9, .int .i64 i10, .slice qa' qs.length qc', .slice aa' an.length ac', .slice ua' au.length uc', .slice xa' ex.length xc']) ?_ rfl ⟨_, _, _, _, rfl, ⟨own_base oq9 (by omega), own_base oa9 (by omega), own_base ou9 (by omega), own_base ox9 (by omega)⟩, B7⟩
  simp [results, Tryz.results6, go_sem, Result.andThen, rz]
end Go.Proofs.YtmaopfagkffccaaGreat
