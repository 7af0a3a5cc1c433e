import Derived.Test.YtkiadnglbjamfaaPfQ
import Derived.Test.YtkiadnglbjamfaaPfE
import Derived.Test.YtkiadnglbjamfaaRrS
import Derived.Test.YtkiadnglbjamfaaJEqV
/- The law of CheckProof: its walk. -/
namespace Go.Proofs.Ytkiadnglbjamfaa
open Go.RowKit
set_option linter.unusedVariables false

set_option maxRecDepth 100000 in
set_option maxHeartbeats 1600000 in
theorem fnExactCheckProof_walk (a0 a1 : ByteArray) (a2 : Int) (v : Value) (xs : List Rr) (w : World) (z0 : a0.size ≤ maxLen) (z1 : a1.size ≤ maxLen) (h : CRow w v xs.length 5 (rvVs xs)) (hx : ∀ r ∈ xs, r.own.size ≤ maxLen ∧ r.da.size ≤ maxLen) :
    Calls Try.prog 3 #[.string a0, .string a1, .int .i64 a2, v] w fun e w' => e = .returned (.bool true) ∧ Below w.heap.size w w' := by
  have hsz := fun W (hW : Below w.heap.size w W) => szRRS_any v xs 1048576 W (h.below hW) hx (by decide) (by decide)
  by_cases h0 : 1048576 < a0.size
  · have h0' : (1048576 : Int) < (a0.size : Int) := by omega
    obtain ⟨_, va, vc, rfl, _⟩ := h
    go_enter Try.func3, Try.ntmps3
    go_wp2
    go_ret
    exact ⟨rfl, Below.refl _ _⟩
  have h0' : (a0.size : Int) ≤ 1048576 := by omega
  by_cases h1 : 1048576 < a1.size
  · have h1' : (1048576 : Int) < (a1.size : Int) := by omega
    obtain ⟨_, va, vc, rfl, _⟩ := h
    go_enter Try.func3, Try.ntmps3
    go_wp2
    go_ret
    exact ⟨rfl, Below.refl _ _⟩
  have h1' : (a1.size : Int) ≤ 1048576 := by omega
  by_cases hb : (xs.length : Int) + (rsum xs : Int) ≤ 1048576
  · have e1 : szRS xs 1048576 = 1048576 - xs.length - rsum xs := if_pos hb
    rw [e1] at hsz
    have hlen : xs.length ≤ 1048576 := by omega
    have hxs : ∀ r ∈ xs, r.own.size ≤ maxLen ∧ r.da.size ≤ 2000000 := by
      intro r hr
      have := rsum_mem xs r hr
      exact ⟨(hx r hr).1, by omega⟩
    have hto := fun W (hW : Below w.heap.size w W) => toRRS_any v xs W (h.below hW) hlen
    have hsp := fun V W hV => specCheckProof_any a0 a1 a2 V xs W z0 z1 hV hxs
    have him := fun V W hV => implCheckProof_any a0 a1 a2 V xs W z0 z1 hV hxs
    have heq := fun V U W => eqRVS_any V U xs W
    have hi : (proofS a0 a1 a2 xs != proofS a0 a1 a2 xs) = false := by simp
    generalize proofS a0 a1 a2 xs = P at *
    have hnn : 0 ≤ 1048576 - (xs.length : Int) - (rsum xs : Int) := by omega
    generalize (1048576 - (xs.length : Int) - (rsum xs : Int)) = L at *
    obtain ⟨_, va, vc, rfl, _⟩ := h
    clear e1 hxs hx hb
    go_enter Try.func3, Try.ntmps3
    go_wp2_with fail
    refine (hsz _ (Below.refl _ _)).mono ?_
    rintro e w1 ⟨rfl, b1⟩
    go_wp2_with fail
    refine (hto _ b1).mono ?_
    rintro e w2 ⟨v2, rfl, o2, b2⟩
    have B2 := Nm.below_two b1 b2
    obtain ⟨x2, y2, rfl⟩ := own_sl o2
    go_wp2_with fail
    refine (hsp _ _ (CRow.of_owns o2)).mono ?_
    rintro e w3 ⟨rfl, b3⟩
    have B3 := Nm.below_two B2 b3
    clear b1 b2 b3 B2 o2 hsp hsz
    go_wp2_with fail
    refine (hto _ B3).mono ?_
    rintro e w4 ⟨v4, rfl, o4, b4⟩
    have B4 := Nm.below_two B3 b4
    obtain ⟨x4, y4, rfl⟩ := own_sl o4
    go_wp2_with fail
    refine (him _ _ (CRow.of_owns o4)).mono ?_
    rintro e w5 ⟨rfl, b5⟩
    have B5 := Nm.below_two B4 b5
    have o5 := own_below o4 b5
    clear b4 b5 B3 B4 o4 him
    go_wp2_with fail
    refine (hto _ B5).mono ?_
    rintro e w6 ⟨v6, rfl, o6, b6⟩
    have B6 := Nm.below_two B5 b6
    have o56 := own_below o5 b6
    obtain ⟨x6, y6, rfl⟩ := own_sl o6
    go_wp2_with fail
    refine (heq _ _ _ (CRow.of_owns o56) (CRow.of_owns o6)).mono ?_
    rintro e w7 ⟨rfl, b7⟩
    go_wp2
    go_ret
    exact ⟨rfl, Nm.below_two B6 b7⟩
  · have e1 : szRS xs 1048576 = -1 := if_neg hb
    rw [e1] at hsz
    obtain ⟨_, va, vc, rfl, _⟩ := h
    clear hb e1 hx
    go_enter Try.func3, Try.ntmps3
    go_wp2_with fail
    refine (hsz _ (Below.refl _ _)).mono ?_
    rintro e w1 ⟨rfl, b1⟩
    go_wp2
    go_ret
    exact ⟨rfl, b1⟩
end Go.Proofs.Ytkiadnglbjamfaa
