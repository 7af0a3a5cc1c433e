import Derived.Test.YtilcbdhcojgcbaaJMath
import Derived.Test.YtilcbdhcojgcbaaJTrM
import Derived.Test.YtilcbdhcojgcbaaTrJ
/- The law of Triage: its walk. -/
namespace Go.Proofs.Ytilcbdhcojgcbaa
open Go.RowKit
set_option linter.unusedVariables false

set_option maxRecDepth 100000 in
set_option maxHeartbeats 1600000 in
theorem fnExactTriage_walk (a0 : Option Addr) (len0 cap0 : Nat) (z0 : List Int) (w : World) (w0 : RowB w a0 len0 cap0 z0) :
    Calls Try.prog 3 #[.slice a0 len0 cap0] w fun e w' => e = .returned (.bool true) ∧ Below w.heap.size w w' := by
  obtain ⟨l, hlen, hrow⟩ := rowB w0
  by_cases hl : 1048576 < len0
  · have hl' : (1048576 : Int) < (len0 : Int) := by omega
    go_enter Try.func3, Try.ntmps3
    go_wp2
    go_ret
    exact ⟨rfl, Below.refl _ _⟩
  · have hl' : (len0 : Int) ≤ 1048576 := by omega
    subst hlen
    have hto := fun V W (h : BySl W V l) => toByteS_any V l W h (by omega)
    have hsp := fun V W (h : BySl W V l) => specTriage_any V l W h (by omega)
    have him := fun V W (h : BySl W V l) => implTriage_any V l W h (by omega)
    have heq := fun V U W (h : BySl W V l) (h' : BySl W U l) => eqByteS_any V U l W h h' (by omega)
    generalize triN l = TR at *
    have hcc : (TR != TR) = false := by simp
    clear w0
    go_enter Try.func3, Try.ntmps3
    go_wp2_with fail
    refine (hto _ _ hrow).mono ?_
    rintro e w1 ⟨v1, rfl, c1, b1⟩
    go_wp2_with fail
    refine (hsp _ _ c1).mono ?_
    rintro e w2 ⟨rfl, b2⟩
    have b02 := Nm.below_two b1 b2
    go_wp2_with fail
    refine (hto _ _ (hrow.below b02)).mono ?_
    rintro e w3 ⟨v3, rfl, c3, b3⟩
    have b03 := Nm.below_two b02 b3
    go_wp2_with fail
    refine (him _ _ c3).mono ?_
    rintro e w4 ⟨rfl, b4⟩
    have b04 := Nm.below_two b03 b4
    have c4 := c3.below b4
    go_wp2_with fail
    refine (hto _ _ (hrow.below b04)).mono ?_
    rintro e w8 ⟨v8, rfl, c8, b8⟩
    have b08 := Nm.below_two b04 b8
    have c78 := c4.below b8
    go_wp2_with fail
    refine (heq _ _ _ c78 c8).mono ?_
    rintro e w9 ⟨rfl, b9⟩
    go_wp2
    go_ret
    exact ⟨rfl, Nm.below_two b08 b9⟩
end Go.Proofs.Ytilcbdhcojgcbaa
