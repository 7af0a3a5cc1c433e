import Derived.Test.YthhagapmcbkeiaaJSgR
import Derived.Test.YthhagapmcbkeiaaCut
import Derived.Test.YthhagapmcbkeiaaJSgN
import Derived.Test.YthhagapmcbkeiaaJWiP
import Derived.Test.YthhagapmcbkeiaaJDraw1
/- A record that lies in a block. -/
namespace Go.Proofs.Ythhagapmcbkeiaa
open Go.RowKit
set_option linter.unusedVariables false

/-- The five cells of a record that lies in a block. -/
def RB (w : World) (g : Nat) (r : Rr) : Prop := w.cell? ⟨g, 0, none⟩ = some (.string r.own) ∧ w.cell? ⟨g, 1, none⟩ = some (.int .i64 r.ty) ∧ w.cell? ⟨g, 2, none⟩ = some (.int .i64 r.cl) ∧ w.cell? ⟨g, 3, none⟩ = some (.int .i64 r.tt) ∧ w.cell? ⟨g, 4, none⟩ = some (.string r.da)
theorem RB.below {w W : World} {g : Nat} {r : Rr} (h : RB w g r) (hb : Below w.heap.size w W) : RB W g r := by
  obtain ⟨a, b, c, d, e⟩ := h
  have put : ∀ {O : Nat} {z : Value}, w.cell? ⟨g, O, none⟩ = some z → W.cell? ⟨g, O, none⟩ = some z := fun h => (hb.cell (World.block_lt_of_cell? w _ h)).trans h
  exact ⟨put a, put b, put c, put d, put e⟩
theorem RB.new (w : World) (r : Rr) (t : Nat) : RB (w.alloc (.cells #[.string r.own, .int .i64 r.ty, .int .i64 r.cl, .int .i64 r.tt, .string r.da] t)) w.heap.size r := by
  refine ⟨?_, ?_, ?_, ?_, ?_⟩ <;> simp
end Go.Proofs.Ythhagapmcbkeiaa
/- impl.CheckData by its contract. -/
namespace Go.Proofs.Ythhagapmcbkeiaa
open Go.RowKit

set_option maxRecDepth 100000 in
set_option maxHeartbeats 400000 in
theorem implCheckData_any (t : Int) (d : ByteArray) (w : World) (hd : d.size ≤ 2000000) :
    Calls Try.prog 57 #[.int .i64 t, .string d] w fun e w' => e = .returned (.int .i64 (cutCode t d)) ∧ Below w.heap.size w w' := by
  have hcall := cutData_any t d w hd
  go_enter Try.func57, Try.ntmps57
  go_wp2_with (go_at_call 63; refine hcall.mono ?_; rintro e w2 ⟨v, rfl, _, _, hbel⟩)
  go_ret
  exact ⟨rfl, hbel⟩
end Go.Proofs.Ythhagapmcbkeiaa
/- impl.validRecord, validQuestion, spec.l04Sound by their contracts. -/
namespace Go.Proofs.Ythhagapmcbkeiaa
open Go.RowKit
set_option linter.unusedVariables false

set_option maxRecDepth 100000 in
set_option maxHeartbeats 3200000 in
theorem validRecord_any (r : Rr) (w : World) (ho : r.own.size ≤ 1048576) (hd : r.da.size ≤ 1048576) :
    Calls Try.prog 46 #[.agg #[.string r.own, .int .i64 r.ty, .int .i64 r.cl, .int .i64 r.tt, .string r.da]] w fun e w' => e = .returned (.bool (rcOK r)) ∧ Below w.heap.size w w' := by
  have hR0 := RB.new w r 27
  have hB0 := (Below.refl w.heap.size w).alloc (Nat.le_refl _) (.cells #[.string r.own, .int .i64 r.ty, .int .i64 r.cl, .int .i64 r.tt, .string r.da] 27)
  have hno := fun W => implNameOK_any r.own W (by unfold maxLen; omega)
  have hi1 := fun W => within_any r.ty 65535 W
  have hi2 := fun W => within_any r.cl 65535 W
  have hi3 := fun W => within_any r.tt 4294967295 W
  have hck := fun W => implCheckData_any r.ty r.da W (by omega)
  have HM : Hid (rcOK r = ((Nm.split r.own).isSome && (decide (0 ≤ r.ty) && decide (r.ty ≤ 65535)) && (decide (0 ≤ r.cl) && decide (r.cl ≤ 65535)) && (decide (0 ≤ r.tt) && decide (r.tt ≤ 4294967295)) && (decide (r.da.size = 0) || cutCode r.ty r.da == 0))) := rfl
  have he5 := str_empty (s := r.da)
  obtain ⟨o, ty, cl, tt, da⟩ := r
  simp only at hR0 hB0 hno hi1 hi2 hi3 hck HM he5 ⊢
  generalize rcOK ⟨o, ty, cl, tt, da⟩ = M at *
  generalize (Nm.split o).isSome = B1 at *
  generalize (decide (0 ≤ ty) && decide (ty ≤ 65535)) = B2 at *
  generalize (decide (0 ≤ cl) && decide (cl ≤ 65535)) = B3 at *
  generalize (decide (0 ≤ tt) && decide (tt ≤ 4294967295)) = B4 at *
  generalize cutCode ty da = C6 at *
  generalize decide (da.size = 0) = B5 at *
  clear ho hd
  cases B1 with
  | false =>
    obtain rfl : M = false := by rw [HM.out]; simp
    go_enter Try.func46, Try.ntmps46
    go_wp2_with (first | (go_at_call 44; refine (hno _).mono ?_; rintro e w1 ⟨rfl, hb1⟩; obtain ⟨c0, c1, c2, c3, c4⟩ := hR0.below hb1) | (go_at_call 16; first | (with_reducible refine (hi1 _).mono ?_; rintro e wf ⟨rfl, hw⟩; obtain rfl := hw.symm; clear hw) | (with_reducible refine (hi2 _).mono ?_; rintro e wf ⟨rfl, hw⟩; obtain rfl := hw.symm; clear hw) | (with_reducible refine (hi3 _).mono ?_; rintro e wf ⟨rfl, hw⟩; obtain rfl := hw.symm; clear hw)) | (go_at_call 57; refine (hck _).mono ?_; rintro e w2 ⟨rfl, hb2⟩))
    go_ret
    exact ⟨rfl, Nm.below_two hB0 hb1⟩
  | true =>
    cases B2 with
    | false =>
      obtain rfl : M = false := by rw [HM.out]; simp
      go_enter Try.func46, Try.ntmps46
      go_wp2_with (first | (go_at_call 44; refine (hno _).mono ?_; rintro e w1 ⟨rfl, hb1⟩; obtain ⟨c0, c1, c2, c3, c4⟩ := hR0.below hb1) | (go_at_call 16; first | (with_reducible refine (hi1 _).mono ?_; rintro e wf ⟨rfl, hw⟩; obtain rfl := hw.symm; clear hw) | (with_reducible refine (hi2 _).mono ?_; rintro e wf ⟨rfl, hw⟩; obtain rfl := hw.symm; clear hw) | (with_reducible refine (hi3 _).mono ?_; rintro e wf ⟨rfl, hw⟩; obtain rfl := hw.symm; clear hw)) | (go_at_call 57; refine (hck _).mono ?_; rintro e w2 ⟨rfl, hb2⟩))
      go_ret
      exact ⟨rfl, Nm.below_two hB0 hb1⟩
    | true =>
      cases B3 with
      | false =>
        obtain rfl : M = false := by rw [HM.out]; simp
        go_enter Try.func46, Try.ntmps46
        go_wp2_with (first | (go_at_call 44; refine (hno _).mono ?_; rintro e w1 ⟨rfl, hb1⟩; obtain ⟨c0, c1, c2, c3, c4⟩ := hR0.below hb1) | (go_at_call 16; first | (with_reducible refine (hi1 _).mono ?_; rintro e wf ⟨rfl, hw⟩; obtain rfl := hw.symm; clear hw) | (with_reducible refine (hi2 _).mono ?_; rintro e wf ⟨rfl, hw⟩; obtain rfl := hw.symm; clear hw) | (with_reducible refine (hi3 _).mono ?_; rintro e wf ⟨rfl, hw⟩; obtain rfl := hw.symm; clear hw)) | (go_at_call 57; refine (hck _).mono ?_; rintro e w2 ⟨rfl, hb2⟩))
        go_ret
        exact ⟨rfl, Nm.below_two hB0 hb1⟩
      | true =>
        cases B4 with
        | false =>
          obtain rfl : M = false := by rw [HM.out]; simp
          go_enter Try.func46, Try.ntmps46
          go_wp2_with (first | (go_at_call 44; refine (hno _).mono ?_; rintro e w1 ⟨rfl, hb1⟩; obtain ⟨c0, c1, c2, c3, c4⟩ := hR0.below hb1) | (go_at_call 16; first | (with_reducible refine (hi1 _).mono ?_; rintro e wf ⟨rfl, hw⟩; obtain rfl := hw.symm; clear hw) | (with_reducible refine (hi2 _).mono ?_; rintro e wf ⟨rfl, hw⟩; obtain rfl := hw.symm; clear hw) | (with_reducible refine (hi3 _).mono ?_; rintro e wf ⟨rfl, hw⟩; obtain rfl := hw.symm; clear hw)) | (go_at_call 57; refine (hck _).mono ?_; rintro e w2 ⟨rfl, hb2⟩))
          go_ret
          exact ⟨rfl, Nm.below_two hB0 hb1⟩
        | true =>
          cases B5 with
          | true =>
            obtain rfl : M = true := by rw [HM.out]; simp
            go_enter Try.func46, Try.ntmps46
            go_wp2_with (first | (go_at_call 44; refine (hno _).mono ?_; rintro e w1 ⟨rfl, hb1⟩; obtain ⟨c0, c1, c2, c3, c4⟩ := hR0.below hb1) | (go_at_call 16; first | (with_reducible refine (hi1 _).mono ?_; rintro e wf ⟨rfl, hw⟩; obtain rfl := hw.symm; clear hw) | (with_reducible refine (hi2 _).mono ?_; rintro e wf ⟨rfl, hw⟩; obtain rfl := hw.symm; clear hw) | (with_reducible refine (hi3 _).mono ?_; rintro e wf ⟨rfl, hw⟩; obtain rfl := hw.symm; clear hw)) | (go_at_call 57; refine (hck _).mono ?_; rintro e w2 ⟨rfl, hb2⟩))
            go_ret
            exact ⟨rfl, Nm.below_two hB0 hb1⟩
          | false =>
            obtain rfl : M = (C6 == 0) := by rw [HM.out]; simp
            go_enter Try.func46, Try.ntmps46
            go_wp2_with (first | (go_at_call 44; refine (hno _).mono ?_; rintro e w1 ⟨rfl, hb1⟩; obtain ⟨c0, c1, c2, c3, c4⟩ := hR0.below hb1) | (go_at_call 16; first | (with_reducible refine (hi1 _).mono ?_; rintro e wf ⟨rfl, hw⟩; obtain rfl := hw.symm; clear hw) | (with_reducible refine (hi2 _).mono ?_; rintro e wf ⟨rfl, hw⟩; obtain rfl := hw.symm; clear hw) | (with_reducible refine (hi3 _).mono ?_; rintro e wf ⟨rfl, hw⟩; obtain rfl := hw.symm; clear hw)) | (go_at_call 57; refine (hck _).mono ?_; rintro e w2 ⟨rfl, hb2⟩))
            go_ret
            exact ⟨rfl, Nm.below_two (Nm.below_two hB0 hb1) hb2⟩
end Go.Proofs.Ythhagapmcbkeiaa
