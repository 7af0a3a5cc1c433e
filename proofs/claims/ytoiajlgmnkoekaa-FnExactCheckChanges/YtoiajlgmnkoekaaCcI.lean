import Derived.Test.YtoiajlgmnkoekaaCcM
import Derived.Test.YtoiajlgmnkoekaaMvP
import Derived.Test.YtoiajlgmnkoekaaUnI
import Derived.Test.YtoiajlgmnkoekaaSplit
import Derived.Test.YtoiajlgmnkoekaaJBlkT
/- impl.isOwnData, isChange, isSound, checkChanges, CheckChanges by their contracts. -/
namespace Go.Proofs.Ytoiajlgmnkoekaa
open Go.RowKit
set_option linter.unusedVariables false

set_option maxRecDepth 100000 in
set_option maxHeartbeats 1600000 in
theorem isOwnData_any (t : Int) (d : ByteArray) (w : World) (hd : d.size ≤ 1048576) :
    Calls Try.prog 34 #[.int .i64 t, .string d] w fun e w' => e = .returned (.bool (ownB t d)) ∧ Below w.heap.size w w' := by
  have hme := fun W => isMeta_any t W
  have hck := fun W => implCheckData_any t d W (by omega)
  have HM : Hid (ownB t d = (!metaB t && (cutCode t d == 0))) := rfl
  generalize ownB t d = M at *
  generalize metaB t = T at *
  generalize cutCode t d = C at *
  cases T with
  | true =>
    obtain rfl : M = false := by rw [HM.out]; simp
    go_enter Try.func34, Try.ntmps34
    go_wp2_with (go_at_call 35; refine (hme _).mono ?_; rintro e wf ⟨rfl, hw⟩; obtain rfl := hw.symm; clear hw)
    go_ret
    exact ⟨rfl, Below.refl _ _⟩
  | false =>
    obtain rfl : M = (C == 0) := by rw [HM.out]; simp
    go_enter Try.func34, Try.ntmps34
    go_wp2_with (first | (go_at_call 35; refine (hme _).mono ?_; rintro e wf ⟨rfl, hw⟩; obtain rfl := hw.symm; clear hw) | (go_at_call 44; refine (hck _).mono ?_; rintro e w1 ⟨rfl, hb1⟩))
    go_ret
    exact ⟨rfl, hb1⟩

set_option maxRecDepth 100000 in
set_option maxHeartbeats 3200000 in
theorem isChange_any (r : Rr) (w : World) (hd : r.da.size ≤ 1048576) :
    Calls Try.prog 24 #[.agg #[.string r.own, .int .i64 r.ty, .int .i64 r.cl, .int .i64 r.tt, .string r.da]] w fun e w' => e = .returned (.bool (chB r)) ∧ Below w.heap.size w w' := by
  have hR0 := RB.new w r 36
  have hB0 := (Below.refl w.heap.size w).alloc (Nat.le_refl _) (.cells #[.string r.own, .int .i64 r.ty, .int .i64 r.cl, .int .i64 r.tt, .string r.da] 36)
  have how := fun W => isOwnData_any r.ty r.da W hd
  have hme := fun W => isMeta_any r.ty W
  have he5 := str_empty (s := r.da)
  have HM : Hid (chB r = if r.cl = 1 then ownB r.ty r.da && decide (r.tt ≤ 2147483647) else if r.cl = 255 then decide (r.tt = 0) && decide (r.da.size = 0) && (decide (r.ty = 255) || !metaB r.ty) else if r.cl = 254 then decide (r.tt = 0) && ownB r.ty r.da else false) := rfl
  obtain ⟨o, ty, cl, tt, da⟩ := r
  have hR1 := hR0
  obtain ⟨c0, c1, c2, c3, c4⟩ := hR1
  simp only at hR0 hB0 how hme HM he5 c0 c1 c2 c3 c4 ⊢
  generalize chB ⟨o, ty, cl, tt, da⟩ = M at *
  generalize metaB ty = T at *
  generalize ownB ty da = O at *
  generalize decide (da.size = 0) = E at *
  clear hd
  by_cases h1 : cl = 1
  · subst h1
    obtain rfl : M = (O && decide (tt ≤ 2147483647)) := by rw [HM.out]; simp
    cases O with
    | false =>
      go_enter Try.func24, Try.ntmps24
      go_wp2_with (first | (go_at_call 34; refine (how _).mono ?_; rintro e w1 ⟨rfl, hb1⟩; obtain ⟨d0, d1, d2, d3, d4⟩ := hR0.below hb1) | (go_at_call 35; refine (hme _).mono ?_; rintro e wf ⟨rfl, hw⟩; obtain rfl := hw.symm; clear hw))
      go_ret
      exact ⟨rfl, Nm.below_two hB0 hb1⟩
    | true =>
      go_enter Try.func24, Try.ntmps24
      go_wp2_with (first | (go_at_call 34; refine (how _).mono ?_; rintro e w1 ⟨rfl, hb1⟩; obtain ⟨d0, d1, d2, d3, d4⟩ := hR0.below hb1) | (go_at_call 35; refine (hme _).mono ?_; rintro e wf ⟨rfl, hw⟩; obtain rfl := hw.symm; clear hw))
      go_ret
      exact ⟨rfl, Nm.below_two hB0 hb1⟩
  · by_cases h2 : cl = 255
    · subst h2
      by_cases ht : tt = 0
      · subst ht
        cases E with
        | false =>
          obtain rfl : M = false := by rw [HM.out]; simp
          go_enter Try.func24, Try.ntmps24
          go_wp2_with (first | (go_at_call 34; refine (how _).mono ?_; rintro e w1 ⟨rfl, hb1⟩; obtain ⟨d0, d1, d2, d3, d4⟩ := hR0.below hb1) | (go_at_call 35; refine (hme _).mono ?_; rintro e wf ⟨rfl, hw⟩; obtain rfl := hw.symm; clear hw))
          go_ret
          exact ⟨rfl, hB0⟩
        | true =>
          by_cases hy : ty = 255
          · subst hy
            obtain rfl : M = true := by rw [HM.out]; simp
            go_enter Try.func24, Try.ntmps24
            go_wp2_with (first | (go_at_call 34; refine (how _).mono ?_; rintro e w1 ⟨rfl, hb1⟩; obtain ⟨d0, d1, d2, d3, d4⟩ := hR0.below hb1) | (go_at_call 35; refine (hme _).mono ?_; rintro e wf ⟨rfl, hw⟩; obtain rfl := hw.symm; clear hw))
            go_ret
            exact ⟨rfl, hB0⟩
          · obtain rfl : M = !T := by rw [HM.out]; simp [hy]
            have hy' : (ty == 255) = false := by simpa using hy
            go_enter Try.func24, Try.ntmps24
            go_wp2_with (first | (go_at_call 34; refine (how _).mono ?_; rintro e w1 ⟨rfl, hb1⟩; obtain ⟨d0, d1, d2, d3, d4⟩ := hR0.below hb1) | (go_at_call 35; refine (hme _).mono ?_; rintro e wf ⟨rfl, hw⟩; obtain rfl := hw.symm; clear hw))
            go_ret
            exact ⟨rfl, hB0⟩
      · obtain rfl : M = false := by rw [HM.out]; simp [ht]
        go_enter Try.func24, Try.ntmps24
        go_wp2_with (first | (go_at_call 34; refine (how _).mono ?_; rintro e w1 ⟨rfl, hb1⟩; obtain ⟨d0, d1, d2, d3, d4⟩ := hR0.below hb1) | (go_at_call 35; refine (hme _).mono ?_; rintro e wf ⟨rfl, hw⟩; obtain rfl := hw.symm; clear hw))
        go_ret
        exact ⟨rfl, hB0⟩
    · by_cases h3 : cl = 254
      · subst h3
        by_cases ht : tt = 0
        · subst ht
          obtain rfl : M = O := by rw [HM.out]; simp
          go_enter Try.func24, Try.ntmps24
          go_wp2_with (first | (go_at_call 34; refine (how _).mono ?_; rintro e w1 ⟨rfl, hb1⟩; obtain ⟨d0, d1, d2, d3, d4⟩ := hR0.below hb1) | (go_at_call 35; refine (hme _).mono ?_; rintro e wf ⟨rfl, hw⟩; obtain rfl := hw.symm; clear hw))
          go_ret
          exact ⟨rfl, Nm.below_two hB0 hb1⟩
        · obtain rfl : M = false := by rw [HM.out]; simp [ht]
          go_enter Try.func24, Try.ntmps24
          go_wp2_with (first | (go_at_call 34; refine (how _).mono ?_; rintro e w1 ⟨rfl, hb1⟩; obtain ⟨d0, d1, d2, d3, d4⟩ := hR0.below hb1) | (go_at_call 35; refine (hme _).mono ?_; rintro e wf ⟨rfl, hw⟩; obtain rfl := hw.symm; clear hw))
          go_ret
          exact ⟨rfl, hB0⟩
      · obtain rfl : M = false := by rw [HM.out]; simp [h1, h2, h3]
        go_enter Try.func24, Try.ntmps24
        go_wp2_with (first | (go_at_call 34; refine (how _).mono ?_; rintro e w1 ⟨rfl, hb1⟩; obtain ⟨d0, d1, d2, d3, d4⟩ := hR0.below hb1) | (go_at_call 35; refine (hme _).mono ?_; rintro e wf ⟨rfl, hw⟩; obtain rfl := hw.symm; clear hw))
        go_ret
        exact ⟨rfl, hB0⟩
end Go.Proofs.Ytoiajlgmnkoekaa
