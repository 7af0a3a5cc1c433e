import Derived.Test.YtoiajlgmnkoekaaCcS
import Derived.Test.YtoiajlgmnkoekaaCcJ
import Derived.Test.YtoiajlgmnkoekaaEqV
import Derived.Test.YtoiajlgmnkoekaaRrS
import Derived.Test.YtoiajlgmnkoekaaRrO
/- The law of CheckChanges: its walk. -/
namespace Go.Proofs.Ytoiajlgmnkoekaa
open Go.RowKit
set_option linter.unusedVariables false

set_option maxRecDepth 100000 in
set_option maxHeartbeats 1600000 in
theorem fnExactCheckChanges_walk (ap : ByteArray) (hap : ap.size ≤ maxLen) (v : Value) (xs : List Rr) (w : World) (h : CRow w v xs.length 5 (rvVs xs)) (hx : ∀ r ∈ xs, r.own.size ≤ maxLen ∧ r.da.size ≤ maxLen) :
    Calls Try.prog 3 #[.string ap, v] w fun e w' => e = .returned (.bool true) ∧ Below w.heap.size w w' := by
  have hsz := szRRS_any v xs 1048576 w h hx (by decide) (by decide)
  by_cases hl : 1048576 < ap.size
  · have hl' : (1048576 : Int) < (ap.size : Int) := by omega
    obtain ⟨_, a, cap, rfl, _⟩ := h
    clear hsz hx
    go_enter Try.func3, Try.ntmps3
    go_wp2
    go_ret
    exact ⟨rfl, Below.refl _ _⟩
  have hl' : ¬ (1048576 : Int) < (ap.size : Int) := by omega
  by_cases hb : (xs.length : Int) + (rsum xs : Int) ≤ 1048576
  · have e1 : szRS xs 1048576 = 1048576 - xs.length - rsum xs := if_pos hb
    rw [e1] at hsz
    have hlen : xs.length ≤ 1048576 := by omega
    have hxs : ∀ r ∈ xs, r.own.size ≤ 1048576 ∧ r.da.size ≤ 1048576 := by
      intro r hr
      have := rsum_mem xs r hr
      omega
    have hto := fun W hq => toRRS_any v xs W hq hlen
    have hsp := fun V W hV => specCheckChanges_any ap V xs W (by omega) hV hxs
    have him := fun V W hV => implCheckChanges_any ap V xs W (by omega) hV hxs
    have hi1 : ((if ccB ap xs = true then chS ap xs else 0) != (if ccB ap xs = true then chS ap xs else 0)) = false := by simp
    have hi2 : ((if ccB ap xs = true then (0 : Int) else 32) != (if ccB ap xs = true then (0 : Int) else 32)) = false := by simp
    generalize (if ccB ap xs = true then chS ap xs else 0) = r at *
    generalize (if ccB ap xs = true then (0 : Int) else 32) = c at *
    have hnn : 0 ≤ 1048576 - (xs.length : Int) - (rsum xs : Int) := by omega
    have heq := fun V U W => eqRVS_any V U xs W
    generalize (1048576 - (xs.length : Int) - (rsum xs : Int)) = L at *
    clear e1 hxs hx hb hap
    go_enter Try.func3, Try.ntmps3
    go_wp2_with fail
    refine hsz.mono ?_
    rintro e w1 ⟨rfl, b1⟩
    go_wp2_with fail
    refine (hto _ (h.below b1)).mono ?_
    rintro e w2 ⟨u2, rfl, hown2, hbel2⟩
    have b2 := Nm.below_two b1 hbel2
    go_wp2_with fail
    refine (hsp u2 _ (CRow.of_owns hown2)).mono ?_
    rintro e w3 ⟨rfl, hbel3⟩
    have b3 := Nm.below_two b2 hbel3
    go_wp2_with fail
    refine (hto _ (h.below b3)).mono ?_
    rintro e w4 ⟨u4, rfl, hown4, hbel4⟩
    have b4 := Nm.below_two b3 hbel4
    go_wp2_with fail
    refine (him u4 _ (CRow.of_owns hown4)).mono ?_
    rintro e w5 ⟨rfl, hbel5⟩
    have b5 := Nm.below_two b4 hbel5
    have r5 := (CRow.of_owns hown4).below hbel5
    go_wp2_with fail
    refine (hto _ (h.below b5)).mono ?_
    rintro e w6 ⟨u6, rfl, hown6, hbel6⟩
    have b6 := Nm.below_two b5 hbel6
    go_wp2_with fail
    refine (heq u4 u6 _ (r5.below hbel6) (CRow.of_owns hown6)).mono ?_
    rintro e w7 ⟨rfl, hbel7⟩
    have b7 := Nm.below_two b6 hbel7
    go_wp2
    go_ret
    exact ⟨rfl, b7⟩
  · have e1 : szRS xs 1048576 = -1 := if_neg hb
    rw [e1] at hsz
    clear hx hb e1
    go_enter Try.func3, Try.ntmps3
    go_wp2_with fail
    refine hsz.mono ?_
    rintro e w1 ⟨rfl, b1⟩
    go_wp2
    go_ret
    exact ⟨rfl, b1⟩
end Go.Proofs.Ytoiajlgmnkoekaa
