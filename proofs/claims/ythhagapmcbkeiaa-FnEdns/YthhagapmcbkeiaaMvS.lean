import Derived.Test.YthhagapmcbkeiaaJRbT
import Derived.Test.YthhagapmcbkeiaaJMvM
import Derived.Test.YthhagapmcbkeiaaJMath
/- impl.validQuestion, validHead, (impl.Message).lists, spec.l04AllSound by their contracts. -/
namespace Go.Proofs.Ythhagapmcbkeiaa
open Go.RowKit
set_option linter.unusedVariables false

set_option maxRecDepth 100000 in
set_option maxHeartbeats 1600000 in
theorem validQuestion_any (r : Qr) (w : World) (ho : r.nm.size ≤ 1048576) :
    Calls Try.prog 32 #[.agg #[.string r.nm, .int .i64 r.ty, .int .i64 r.cl]] w fun e w' => e = .returned (.bool (quOK r)) ∧ Below w.heap.size w w' := by
  have k0 := blk_new w #[.string r.nm, .int .i64 r.ty, .int .i64 r.cl] 83
  have hB0 := (Below.refl w.heap.size w).alloc (Nat.le_refl _) (.cells #[.string r.nm, .int .i64 r.ty, .int .i64 r.cl] 83)
  have hno := fun W => implNameOK_any r.nm W (by unfold maxLen; omega)
  have hi1 := fun W => within_any r.ty 65535 W
  have hi2 := fun W => within_any r.cl 65535 W
  have HM : Hid (quOK r = ((Nm.split r.nm).isSome && (decide (0 ≤ r.ty) && decide (r.ty ≤ 65535)) && (decide (0 ≤ r.cl) && decide (r.cl ≤ 65535)))) := rfl
  obtain ⟨o, ty, cl⟩ := r
  simp only at k0 hB0 hno hi1 hi2 HM ⊢
  generalize quOK ⟨o, ty, cl⟩ = M at *
  generalize (Nm.split o).isSome = B1 at *
  generalize (decide (0 ≤ ty) && decide (ty ≤ 65535)) = B2 at *
  generalize (decide (0 ≤ cl) && decide (cl ≤ 65535)) = B3 at *
  clear ho
  cases B1 with
  | false =>
    obtain rfl : M = false := by rw [HM.out]; simp
    go_enter Try.func32, Try.ntmps32
    go_wp2_with (first | (go_at_call 44; refine (hno _).mono ?_; rintro e w1 ⟨rfl, hb1⟩; have kk := blk_below k0 hb1; have c1 := (blk_cell kk 1).trans rfl; have c2 := (blk_cell kk 2).trans rfl) | (go_at_call 16; first | (with_reducible refine (hi1 _).mono ?_; rintro e wf ⟨rfl, hw⟩; obtain rfl := hw.symm; clear hw) | (with_reducible refine (hi2 _).mono ?_; rintro e wf ⟨rfl, hw⟩; obtain rfl := hw.symm; clear hw)))
    go_ret
    exact ⟨rfl, Nm.below_two hB0 hb1⟩
  | true =>
    cases B2 with
    | false =>
      obtain rfl : M = false := by rw [HM.out]; simp
      go_enter Try.func32, Try.ntmps32
      go_wp2_with (first | (go_at_call 44; refine (hno _).mono ?_; rintro e w1 ⟨rfl, hb1⟩; have kk := blk_below k0 hb1; have c1 := (blk_cell kk 1).trans rfl; have c2 := (blk_cell kk 2).trans rfl) | (go_at_call 16; first | (with_reducible refine (hi1 _).mono ?_; rintro e wf ⟨rfl, hw⟩; obtain rfl := hw.symm; clear hw) | (with_reducible refine (hi2 _).mono ?_; rintro e wf ⟨rfl, hw⟩; obtain rfl := hw.symm; clear hw)))
      go_ret
      exact ⟨rfl, Nm.below_two hB0 hb1⟩
    | true =>
      obtain rfl : M = B3 := by rw [HM.out]; simp
      go_enter Try.func32, Try.ntmps32
      go_wp2_with (first | (go_at_call 44; refine (hno _).mono ?_; rintro e w1 ⟨rfl, hb1⟩; have kk := blk_below k0 hb1; have c1 := (blk_cell kk 1).trans rfl; have c2 := (blk_cell kk 2).trans rfl) | (go_at_call 16; first | (with_reducible refine (hi1 _).mono ?_; rintro e wf ⟨rfl, hw⟩; obtain rfl := hw.symm; clear hw) | (with_reducible refine (hi2 _).mono ?_; rintro e wf ⟨rfl, hw⟩; obtain rfl := hw.symm; clear hw)))
      go_ret
      exact ⟨rfl, Nm.below_two hB0 hb1⟩

set_option maxRecDepth 100000 in
set_option maxHeartbeats 1600000 in
theorem validHead_any (h : Hr) (w : World) :
    Calls Try.prog 31 #[.agg (hrV h).toArray] w fun e w' => e = .returned (.bool (hdOK h)) ∧ Below w.heap.size w w' := by
  have hB0 := (Below.refl w.heap.size w).alloc (Nat.le_refl _) (.cells (hrV h).toArray 34)
  have hi1 := fun W => within_any h.id 65535 W
  have hi2 := fun W => within_any h.op 15 W
  have hi3 := fun W => within_any h.code 15 W
  have HM : Hid (hdOK h = ((decide (0 ≤ h.id) && decide (h.id ≤ 65535)) && (decide (0 ≤ h.op) && decide (h.op ≤ 15)) && (decide (0 ≤ h.code) && decide (h.code ≤ 15)))) := rfl
  obtain ⟨i0, q1, i2, q3, q4, q5, q6, q7, q8, q9, i10⟩ := h
  simp only [hrV] at hB0 hi1 hi2 hi3 HM ⊢
  generalize hdOK ⟨i0, q1, i2, q3, q4, q5, q6, q7, q8, q9, i10⟩ = M at *
  generalize (decide (0 ≤ i0) && decide (i0 ≤ 65535)) = B1 at *
  generalize (decide (0 ≤ i2) && decide (i2 ≤ 15)) = B2 at *
  generalize (decide (0 ≤ i10) && decide (i10 ≤ 15)) = B3 at *
  cases B1 with
  | false =>
    obtain rfl : M = false := by rw [HM.out]; simp
    go_enter Try.func31, Try.ntmps31
    go_wp2_with (go_at_call 16; first | (with_reducible refine (hi1 _).mono ?_; rintro e wf ⟨rfl, hw⟩; obtain rfl := hw.symm; clear hw) | (with_reducible refine (hi2 _).mono ?_; rintro e wf ⟨rfl, hw⟩; obtain rfl := hw.symm; clear hw) | (with_reducible refine (hi3 _).mono ?_; rintro e wf ⟨rfl, hw⟩; obtain rfl := hw.symm; clear hw))
    go_ret
    exact ⟨rfl, hB0⟩
  | true =>
    cases B2 with
    | false =>
      obtain rfl : M = false := by rw [HM.out]; simp
      go_enter Try.func31, Try.ntmps31
      go_wp2_with (go_at_call 16; first | (with_reducible refine (hi1 _).mono ?_; rintro e wf ⟨rfl, hw⟩; obtain rfl := hw.symm; clear hw) | (with_reducible refine (hi2 _).mono ?_; rintro e wf ⟨rfl, hw⟩; obtain rfl := hw.symm; clear hw) | (with_reducible refine (hi3 _).mono ?_; rintro e wf ⟨rfl, hw⟩; obtain rfl := hw.symm; clear hw))
      go_ret
      exact ⟨rfl, hB0⟩
    | true =>
      obtain rfl : M = B3 := by rw [HM.out]; simp
      go_enter Try.func31, Try.ntmps31
      go_wp2_with (go_at_call 16; first | (with_reducible refine (hi1 _).mono ?_; rintro e wf ⟨rfl, hw⟩; obtain rfl := hw.symm; clear hw) | (with_reducible refine (hi2 _).mono ?_; rintro e wf ⟨rfl, hw⟩; obtain rfl := hw.symm; clear hw) | (with_reducible refine (hi3 _).mono ?_; rintro e wf ⟨rfl, hw⟩; obtain rfl := hw.symm; clear hw))
      go_ret
      exact ⟨rfl, hB0⟩

set_option maxRecDepth 100000 in
set_option maxHeartbeats 1600000 in
theorem lists_any (h : Hr) (q a u x : Value) (w : World) {n1 n2 n3 n4 : Nat} (e1 : ∃ b c, q = .slice b n1 c) (e2 : ∃ b c, a = .slice b n2 c) (e3 : ∃ b c, u = .slice b n3 c) (e4 : ∃ b c, x = .slice b n4 c) :
    Calls Try.prog 33 #[.agg (mgV h q a u x)] w fun e w' => e = .returned (.agg #[a, u, x]) ∧ Below w.heap.size w w' := by
  obtain ⟨b1, c1, rfl⟩ := e1
  obtain ⟨b2, c2, rfl⟩ := e2
  obtain ⟨b3, c3, rfl⟩ := e3
  obtain ⟨b4, c4, rfl⟩ := e4
  obtain ⟨i0, q1, i2, q3, q4, q5, q6, q7, q8, q9, i10⟩ := h
  simp only [mgV]
  go_enter Try.func33, Try.ntmps33
  go_wp2
  refine bodyPost_ret (v := .agg #[.slice b2 n2 c2, .slice b3 n3 c3, .slice b4 n4 c4]) ?_ rfl ⟨rfl, ?_⟩
  · simp [results, Try.results33, go_sem, Result.andThen]
  · exact ((Below.refl _ _).alloc (Nat.le_refl _) _).alloc (by simp) _
end Go.Proofs.Ythhagapmcbkeiaa
