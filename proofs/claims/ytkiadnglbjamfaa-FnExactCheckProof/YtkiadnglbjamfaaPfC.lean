import Derived.Test.YtkiadnglbjamfaaJPfB
import Derived.Test.YtkiadnglbjamfaaJSameS
import Derived.Test.YtkiadnglbjamfaaSCmp
import Derived.Test.YtkiadnglbjamfaaJBlkT
/- spec.l08Strictly, l08Covers, l08Useful by their contracts. -/
namespace Go.Proofs.Ytkiadnglbjamfaa
open Go.RowKit
set_option linter.unusedVariables false

set_option maxRecDepth 100000 in
set_option maxHeartbeats 800000 in
theorem l08Strictly_any (a b : ByteArray) (xs ys : List ByteArray) (w : World) (ha : Nm.split a = some xs) (hb : Nm.split b = some ys) (hsa : a.size ≤ maxLen) (hsb : b.size ≤ maxLen) :
    Calls Try.prog 16 #[.string a, .string b] w fun e w' => e = .returned (.bool (strB xs ys)) ∧ Below w.heap.size w w' := by
  have hu := fun W => specIsUnder_any a b W hsa hsb
  have hs := fun W => specSameName_any a b W hsa hsb
  rw [isUnder_some ha hb] at hu
  rw [same_cmp ha hb] at hs
  rw [str_eq]
  generalize decide (Nm.cmpLs xs ys = 0) = S at *
  go_enter Try.func16, Try.ntmps16
  cases hU : underB xs ys with
  | false =>
    rw [hU] at hu
    go_wp2_with fail
    refine (hu _).mono ?_
    rintro e w1 ⟨rfl, b1⟩
    go_wp2
    go_ret
    exact ⟨rfl, b1⟩
  | true =>
    rw [hU] at hu
    go_wp2_with fail
    refine (hu _).mono ?_
    rintro e w1 ⟨rfl, b1⟩
    go_wp2_with fail
    refine (hs _).mono ?_
    rintro e w2 ⟨rfl, b2⟩
    cases S
    · go_wp2
      go_ret
      exact ⟨rfl, Nm.below_two b1 b2⟩
    · go_wp2
      go_ret
      exact ⟨rfl, Nm.below_two b1 b2⟩

set_option maxRecDepth 100000 in
set_option maxHeartbeats 800000 in
theorem l08Covers_any (x0 x4 x5 b s : ByteArray) (x1 x2 x3 : Int) (l : Lk) (x : List ByteArray) (w : World) (h0 : Nm.split x0 = some l.ow) (h5 : Nm.split x5 = some l.nx) (hx : Nm.split s = some x) (z0 : x0.size ≤ maxLen) (z5 : x5.size ≤ maxLen) (zs : s.size ≤ maxLen) :
    Calls Try.prog 34 #[.agg #[.string x0, .int .i64 x1, .int .i64 x2, .int .i64 x3, .string x4, .string x5, .string b], .string s] w fun e w' => e = .returned (.bool (covB l x)) ∧ Below w.heap.size w w' := by
  have hc1 := fun W => specCompareNames_any x0 s W z0 zs
  have hc2 := fun W => specCompareNames_any s x5 W zs z5
  have hc3 := fun W => specCompareNames_any x5 x0 W z5 z0
  rw [cmpS_some h0 hx] at hc1
  rw [cmpS_some hx h5] at hc2
  rw [cmpS_some h5 h0] at hc3
  rw [covB]
  generalize Nm.cmpLs l.ow x = A at *
  generalize Nm.cmpLs x l.nx = B at *
  generalize Nm.cmpLs l.nx l.ow = C at *
  have hB0 := (Below.refl w.heap.size w).alloc (Nat.le_refl _) (.cells #[.string x0, .int .i64 x1, .int .i64 x2, .int .i64 x3, .string x4, .string x5, .string b] 38)
  have k0 := blk_new w #[.string x0, .int .i64 x1, .int .i64 x2, .int .i64 x3, .string x4, .string x5, .string b] 38
  go_enter Try.func34, Try.ntmps34
  by_cases hA : A < 0
  · have hA' : ¬ (0 ≤ A) := by omega
    go_wp2_with fail
    refine (hc1 _).mono ?_
    rintro e w1 ⟨rfl, b1⟩
    have k1 := blk_below k0 b1
    have B1 := Nm.below_two hB0 b1
    have r1 := fun i => blk_cell k1 i
    clear hc1 k0 hB0 b1
    go_wp2_with fail
    refine (hc2 _).mono ?_
    rintro e w2 ⟨rfl, b2⟩
    have k2 := blk_below k1 b2
    have B2 := Nm.below_two B1 b2
    have r2 := fun i => blk_cell k2 i
    clear hc2 k1 r1 B1 b2
    by_cases hB : B < 0
    · have HV := Nm.hide (show (decide (A < 0) && (decide (B < 0) || decide (C ≤ 0))) = true by rw [decide_eq_true hA, decide_eq_true hB]; rfl)
      go_wp2
      go_ret
      rw [HV.out]
      exact ⟨rfl, B2⟩
    · have hB' : 0 ≤ B := by omega
      have HV := Nm.hide (show (decide (A < 0) && (decide (B < 0) || decide (C ≤ 0))) = (decide (B < 0) || decide (C ≤ 0)) by rw [decide_eq_true hA]; rfl)
      go_wp2_with fail
      refine (hc3 _).mono ?_
      rintro e w3 ⟨rfl, b3⟩
      go_wp2
      go_ret
      rw [HV.out]
      exact ⟨rfl, Nm.below_two B2 b3⟩
  · have hA' : 0 ≤ A := by omega
    have HV := Nm.hide (show (decide (A < 0) && (decide (B < 0) || decide (C ≤ 0))) = false by rw [decide_eq_false hA]; rfl)
    go_wp2_with fail
    refine (hc1 _).mono ?_
    rintro e w1 ⟨rfl, b1⟩
    go_wp2
    go_ret
    rw [HV.out]
    exact ⟨rfl, Nm.below_two hB0 b1⟩

set_option maxRecDepth 100000 in
set_option maxHeartbeats 800000 in
theorem l08Useful_any (x0 x4 x5 b s : ByteArray) (x1 x2 x3 : Int) (l : Lk) (x : List ByteArray) (w : World) (h0 : Nm.split x0 = some l.ow) (hty : l.ty = tysOf b) (hx : Nm.split s = some x) (z0 : x0.size ≤ maxLen) (zb : b.size ≤ 2000000) (zs : s.size ≤ maxLen) :
    Calls Try.prog 32 #[.agg #[.string x0, .int .i64 x1, .int .i64 x2, .int .i64 x3, .string x4, .string x5, .string b], .string s] w fun e w' => e = .returned (.bool (useB l x)) ∧ Below w.heap.size w w' := by
  have hsm := fun W => specSameName_any x0 s W z0 zs
  have hun := fun W => specIsUnder_any s x0 W zs z0
  have hb2 := fun W => l08Bit_any x0 x4 x5 b x1 x2 x3 2 W zb
  have hb6 := fun W => l08Bit_any x0 x4 x5 b x1 x2 x3 6 W zb
  have hb39 := fun W => l08Bit_any x0 x4 x5 b x1 x2 x3 39 W zb
  rw [same_cmp h0 hx] at hsm
  rw [isUnder_some hx h0] at hun
  rw [use_eq, atB, hty]
  generalize decide (Nm.cmpLs l.ow x = 0) = S at *
  generalize underB x l.ow = U at *
  generalize hasB (tysOf b) 2 = H2 at *
  generalize hasB (tysOf b) 6 = H6 at *
  generalize hasB (tysOf b) 39 = H39 at *
  have hB0 := (Below.refl w.heap.size w).alloc (Nat.le_refl _) (.cells #[.string x0, .int .i64 x1, .int .i64 x2, .int .i64 x3, .string x4, .string x5, .string b] 38)
  have k0 := blk_new w #[.string x0, .int .i64 x1, .int .i64 x2, .int .i64 x3, .string x4, .string x5, .string b] 38
  go_enter Try.func32, Try.ntmps32
  go_wp2_with fail
  refine (hsm _).mono ?_
  rintro e wn ⟨rfl, bn⟩
  replace k0 := blk_below k0 bn
  replace hB0 := Nm.below_two hB0 bn
  have rr := fun i => blk_cell k0 i
  clear bn
  cases S with
  | true =>
    go_wp2_with fail
    refine (hb2 _).mono ?_
    rintro e wn ⟨rfl, bn⟩
    replace k0 := blk_below k0 bn
    replace hB0 := Nm.below_two hB0 bn
    have rr := fun i => blk_cell k0 i
    clear bn
    cases H2 with
    | false =>
      go_wp2
      go_ret
      exact ⟨rfl, hB0⟩
    | true =>
      go_wp2_with fail
      refine (hb6 _).mono ?_
      rintro e wn ⟨rfl, bn⟩
      replace k0 := blk_below k0 bn
      replace hB0 := Nm.below_two hB0 bn
      have rr := fun i => blk_cell k0 i
      clear bn
      cases H6 <;> (
        go_wp2
        go_ret
        exact ⟨rfl, hB0⟩)
  | false =>
    go_wp2_with fail
    refine (hun _).mono ?_
    rintro e wn ⟨rfl, bn⟩
    replace k0 := blk_below k0 bn
    replace hB0 := Nm.below_two hB0 bn
    have rr := fun i => blk_cell k0 i
    clear bn
    cases U with
    | false =>
      go_wp2
      go_ret
      exact ⟨rfl, hB0⟩
    | true =>
      go_wp2_with fail
      refine (hb2 _).mono ?_
      rintro e wn ⟨rfl, bn⟩
      replace k0 := blk_below k0 bn
      replace hB0 := Nm.below_two hB0 bn
      have rr := fun i => blk_cell k0 i
      clear bn
      cases H2 with
      | false =>
        go_wp2_with fail
        refine (hb39 _).mono ?_
        rintro e wn ⟨rfl, bn⟩
        replace k0 := blk_below k0 bn
        replace hB0 := Nm.below_two hB0 bn
        have rr := fun i => blk_cell k0 i
        clear bn
        cases H39 <;> (
          go_wp2
          go_ret
          exact ⟨rfl, hB0⟩)
      | true =>
        go_wp2_with fail
        refine (hb6 _).mono ?_
        rintro e wn ⟨rfl, bn⟩
        replace k0 := blk_below k0 bn
        replace hB0 := Nm.below_two hB0 bn
        have rr := fun i => blk_cell k0 i
        clear bn
        cases H6 with
        | false =>
          go_wp2
          go_ret
          exact ⟨rfl, hB0⟩
        | true =>
          go_wp2_with fail
          refine (hb39 _).mono ?_
          rintro e wn ⟨rfl, bn⟩
          replace k0 := blk_below k0 bn
          replace hB0 := Nm.below_two hB0 bn
          have rr := fun i => blk_cell k0 i
          clear bn
          cases H39 <;> (
            go_wp2
            go_ret
            exact ⟨rfl, hB0⟩)
end Go.Proofs.Ytkiadnglbjamfaa
