/- The law of DecodeName: its walk. -/
import Derived.Test.YtakonfkefoeenabSDn
import Derived.Test.YtakonfkefoeenabDc1
namespace Go.Proofs.Ytakonfkefoeenab
open Go.RowKit
set_option linter.unusedVariables false

theorem dnl_same (s : ByteArray) : (s.toList == s.toList) = true ∧ (s.toList != s.toList) = false := by simp
theorem dnl_int (n : Int) : (n != n) = false := by simp

set_option maxRecDepth 100000 in
set_option maxHeartbeats 800000 in
theorem fnExactDecodeName_walk (a0 : Option Addr) (len0 cap0 : Nat) (z0 : List Int) (a1 : Int) (w1 : (Lit.int .i64 a1).wf = true) (w : World) (w0 : RowB w a0 len0 cap0 z0) :
    Calls Try.prog 6 #[.slice a0 len0 cap0, .int .i64 a1] w fun e w' => e = .returned (.bool true) ∧ Below w.heap.size w w' := by
  obtain ⟨l, hlen, hrow⟩ := rowB w0
  by_cases hl : 1048576 < len0
  · have hl' : (1048576 : Int) < (len0 : Int) := by omega
    go_enter Try.func6, Try.ntmps6
    go_wp2
    go_ret
    exact ⟨rfl, Below.refl _ _⟩
  · have hl' : (len0 : Int) ≤ 1048576 := by omega
    subst hlen
    have hto := fun V W (h : BySl W V l) => toByteS_any V l W h (by omega)
    have hsp := fun V W (h : BySl W V l) => specDecodeName_any V l a1 W h (by omega)
    have him := fun V W (h : BySl W V l) => implDecodeName_any V l a1 W h (by omega) w1
    have heq := fun V U W (h : BySl W V l) (h' : BySl W U l) => eqByteS_any V U l W h h' (by omega)
    obtain ⟨h1, h2⟩ := dnl_same ⟨(dnS l a1).1.toArray⟩
    have h3 := dnl_int (dnS l a1).2.1
    have h4 := dnl_int (dnS l a1).2.2
    generalize (⟨(dnS l a1).1.toArray⟩ : ByteArray) = r1 at *
    generalize (dnS l a1).2.1 = r2 at *
    generalize (dnS l a1).2.2 = r3 at *
    clear w0 w1
    go_enter Try.func6, Try.ntmps6
    go_wp2_with fail
    refine (hto _ _ hrow).mono ?_
    rintro e w1 ⟨v1, rfl, c1, b1⟩
    go_wp2_with fail
    refine (hsp _ _ c1).mono ?_
    rintro e w2 ⟨rfl, b2⟩
    have b02 := Nm.below_two b1 b2
    go_wp2_with fail
    refine (hto _ _ (hrow.below b02)).mono ?_
    rintro e w3 ⟨v3, rfl, c3, b3⟩
    have b03 := Nm.below_two b02 b3
    go_wp2_with fail
    refine (him _ _ c3).mono ?_
    rintro e w4 ⟨rfl, b4⟩
    have b04 := Nm.below_two b03 b4
    have c4 := c3.below b4
    go_wp2_with fail
    refine (hto _ _ (hrow.below b04)).mono ?_
    rintro e w5 ⟨v5, rfl, c5, b5⟩
    have b05 := Nm.below_two b04 b5
    have c45 := c4.below b5
    go_wp2_with fail
    refine (heq _ _ _ c45 c5).mono ?_
    rintro e w6 ⟨rfl, b6⟩
    go_wp2
    go_ret
    exact ⟨rfl, Nm.below_two b05 b6⟩
end Go.Proofs.Ytakonfkefoeenab
