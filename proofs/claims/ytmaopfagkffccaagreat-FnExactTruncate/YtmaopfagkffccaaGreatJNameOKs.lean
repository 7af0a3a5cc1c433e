import Derived.Test.YtmaopfagkffccaaGreatJWiT
import Derived.Test.YtmaopfagkffccaaGreatJICheck
import Derived.Test.YtmaopfagkffccaaGreatJPartsM
import Derived.Test.YtmaopfagkffccaaGreatJMath
import Derived.Test.YtmaopfagkffccaaGreatJParts
import Derived.Test.YtmaopfagkffccaaGreatSCheck
/- spec.NameOK by its contract. -/
namespace Go.Proofs.YtmaopfagkffccaaGreat
open Go.RowKit

set_option maxRecDepth 100000 in
set_option maxHeartbeats 400000 in
theorem specNameOK_any (s : ByteArray) (w : World) (hs : s.size ≤ maxLen) :
    Calls Tryz.prog 33 #[.string s] w fun e w' => e = .returned (.bool (Nm.split s).isSome) ∧ Below w.heap.size w w' := by
  go_enter Tryz.func33, Tryz.ntmps33
  go_wp2_with (go_at_call 55; refine (l01Split_any s _ hs).mono ?_; rintro e w1 ⟨v, rfl, hown, hbel⟩)
  go_ret
  exact ⟨rfl, by assumption⟩
end Go.Proofs.YtmaopfagkffccaaGreat
/- impl.validRecord, validQuestion, spec.l04Sound by their contracts. -/
namespace Go.Proofs.YtmaopfagkffccaaGreat
open Go.RowKit
set_option linter.unusedVariables false

set_option maxRecDepth 100000 in
set_option maxHeartbeats 3200000 in
theorem l04Sound_any (r : Rr) (w : World) (ho : r.own.size ≤ 1048576) (hd : r.da.size ≤ 1048576) :
    Calls Tryz.prog 56 #[.agg #[.string r.own, .int .i64 r.ty, .int .i64 r.cl, .int .i64 r.tt, .string r.da]] w fun e w' => e = .returned (.bool (rcOK r)) ∧ Below w.heap.size w w' := by
  have hR0 := RB.new w r 72
  have hB0 := (Below.refl w.heap.size w).alloc (Nat.le_refl _) (.cells #[.string r.own, .int .i64 r.ty, .int .i64 r.cl, .int .i64 r.tt, .string r.da] 72)
  have hno := fun W => specNameOK_any r.own W (by unfold maxLen; omega)
  have hi1 := fun W => l04In_any r.ty 65535 W
  have hi2 := fun W => l04In_any r.cl 65535 W
  have hi3 := fun W => l04In_any r.tt 4294967295 W
  have hck := fun W => specCheckData_any r.ty r.da W
  have HM : Hid (rcOK r = ((Nm.split r.own).isSome && (decide (0 ≤ r.ty) && decide (r.ty ≤ 65535)) && (decide (0 ≤ r.cl) && decide (r.cl ≤ 65535)) && (decide (0 ≤ r.tt) && decide (r.tt ≤ 4294967295)) && (decide (r.da.size = 0) || cutCode r.ty r.da == 0))) := rfl
  have he5 := str_empty (s := r.da)
  obtain ⟨o, ty, cl, tt, da⟩ := r
  simp only at hR0 hB0 hno hi1 hi2 hi3 hck HM he5 ⊢
  generalize rcOK ⟨o, ty, cl, tt, da⟩ = M at *
  generalize (Nm.split o).isSome = B1 at *
  generalize (decide (0 ≤ ty) && decide (ty ≤ 65535)) = B2 at *
  generalize (decide (0 ≤ cl) && decide (cl ≤ 65535)) = B3 at *
  generalize (decide (0 ≤ tt) && decide (tt ≤ 4294967295)) = B4 at *
  generalize cutCode ty da = C6 at *
  generalize decide (da.size = 0) = B5 at *
  clear ho hd
  cases B1 with
  | false =>
    obtain rfl : M = false := by rw [HM.out]; simp
    go_enter Tryz.func56, Tryz.ntmps56
    go_wp2_with (first | (go_at_call 33; refine (hno _).mono ?_; rintro e w1 ⟨rfl, hb1⟩; obtain ⟨c0, c1, c2, c3, c4⟩ := hR0.below hb1) | (go_at_call 32; first | (with_reducible refine (hi1 _).mono ?_; rintro e wf ⟨rfl, hw⟩; obtain rfl := hw.symm; clear hw) | (with_reducible refine (hi2 _).mono ?_; rintro e wf ⟨rfl, hw⟩; obtain rfl := hw.symm; clear hw) | (with_reducible refine (hi3 _).mono ?_; rintro e wf ⟨rfl, hw⟩; obtain rfl := hw.symm; clear hw)) | (go_at_call 75; refine (hck _).mono ?_; rintro e w2 ⟨rfl, hb2⟩))
    go_ret
    exact ⟨rfl, Nm.below_two hB0 hb1⟩
  | true =>
    cases B2 with
    | false =>
      obtain rfl : M = false := by rw [HM.out]; simp
      go_enter Tryz.func56, Tryz.ntmps56
      go_wp2_with (first | (go_at_call 33; refine (hno _).mono ?_; rintro e w1 ⟨rfl, hb1⟩; obtain ⟨c0, c1, c2, c3, c4⟩ := hR0.below hb1) | (go_at_call 32; first | (with_reducible refine (hi1 _).mono ?_; rintro e wf ⟨rfl, hw⟩; obtain rfl := hw.symm; clear hw) | (with_reducible refine (hi2 _).mono ?_; rintro e wf ⟨rfl, hw⟩; obtain rfl := hw.symm; clear hw) | (with_reducible refine (hi3 _).mono ?_; rintro e wf ⟨rfl, hw⟩; obtain rfl := hw.symm; clear hw)) | (go_at_call 75; refine (hck _).mono ?_; rintro e w2 ⟨rfl, hb2⟩))
      go_ret
      exact ⟨rfl, Nm.below_two hB0 hb1⟩
    | true =>
      cases B3 with
      | false =>
        obtain rfl : M = false := by rw [HM.out]; simp
        go_enter Tryz.func56, Tryz.ntmps56
        go_wp2_with (first | (go_at_call 33; refine (hno _).mono ?_; rintro e w1 ⟨rfl, hb1⟩; obtain ⟨c0, c1, c2, c3, c4⟩ := hR0.below hb1) | (go_at_call 32; first | (with_reducible refine (hi1 _).mono ?_; rintro e wf ⟨rfl, hw⟩; obtain rfl := hw.symm; clear hw) | (with_reducible refine (hi2 _).mono ?_; rintro e wf ⟨rfl, hw⟩; obtain rfl := hw.symm; clear hw) | (with_reducible refine (hi3 _).mono ?_; rintro e wf ⟨rfl, hw⟩; obtain rfl := hw.symm; clear hw)) | (go_at_call 75; refine (hck _).mono ?_; rintro e w2 ⟨rfl, hb2⟩))
        go_ret
        exact ⟨rfl, Nm.below_two hB0 hb1⟩
      | true =>
        cases B4 with
        | false =>
          obtain rfl : M = false := by rw [HM.out]; simp
          go_enter Tryz.func56, Tryz.ntmps56
          go_wp2_with (first | (go_at_call 33; refine (hno _).mono ?_; rintro e w1 ⟨rfl, hb1⟩; obtain ⟨c0, c1, c2, c3, c4⟩ := hR0.below hb1) | (go_at_call 32; first | (with_reducible refine (hi1 _).mono ?_; rintro e wf ⟨rfl, hw⟩; obtain rfl := hw.symm; clear hw) | (with_reducible refine (hi2 _).mono ?_; rintro e wf ⟨rfl, hw⟩; obtain rfl := hw.symm; clear hw) | (with_reducible refine (hi3 _).mono ?_; rintro e wf ⟨rfl, hw⟩; obtain rfl := hw.symm; clear hw)) | (go_at_call 75; refine (hck _).mono ?_; rintro e w2 ⟨rfl, hb2⟩))
          go_ret
          exact ⟨rfl, Nm.below_two hB0 hb1⟩
        | true =>
          cases B5 with
          | true =>
            obtain rfl : M = true := by rw [HM.out]; simp
            go_enter Tryz.func56, Tryz.ntmps56
            go_wp2_with (first | (go_at_call 33; refine (hno _).mono ?_; rintro e w1 ⟨rfl, hb1⟩; obtain ⟨c0, c1, c2, c3, c4⟩ := hR0.below hb1) | (go_at_call 32; first | (with_reducible refine (hi1 _).mono ?_; rintro e wf ⟨rfl, hw⟩; obtain rfl := hw.symm; clear hw) | (with_reducible refine (hi2 _).mono ?_; rintro e wf ⟨rfl, hw⟩; obtain rfl := hw.symm; clear hw) | (with_reducible refine (hi3 _).mono ?_; rintro e wf ⟨rfl, hw⟩; obtain rfl := hw.symm; clear hw)) | (go_at_call 75; refine (hck _).mono ?_; rintro e w2 ⟨rfl, hb2⟩))
            go_ret
            exact ⟨rfl, Nm.below_two hB0 hb1⟩
          | false =>
            obtain rfl : M = (C6 == 0) := by rw [HM.out]; simp
            go_enter Tryz.func56, Tryz.ntmps56
            go_wp2_with (first | (go_at_call 33; refine (hno _).mono ?_; rintro e w1 ⟨rfl, hb1⟩; obtain ⟨c0, c1, c2, c3, c4⟩ := hR0.below hb1) | (go_at_call 32; first | (with_reducible refine (hi1 _).mono ?_; rintro e wf ⟨rfl, hw⟩; obtain rfl := hw.symm; clear hw) | (with_reducible refine (hi2 _).mono ?_; rintro e wf ⟨rfl, hw⟩; obtain rfl := hw.symm; clear hw) | (with_reducible refine (hi3 _).mono ?_; rintro e wf ⟨rfl, hw⟩; obtain rfl := hw.symm; clear hw)) | (go_at_call 75; refine (hck _).mono ?_; rintro e w2 ⟨rfl, hb2⟩))
            go_ret
            exact ⟨rfl, Nm.below_two (Nm.below_two hB0 hb1) hb2⟩
end Go.Proofs.YtmaopfagkffccaaGreat
