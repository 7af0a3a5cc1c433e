/- The law of DataNames: its walk. -/
import Derived.Test.YtakonfkefoeenafSNames
import Derived.Test.YtakonfkefoeenafSpanL2
namespace Go.Proofs.Ytakonfkefoeenaf
open Go.RowKit
set_option linter.unusedVariables false

set_option maxRecDepth 100000 in
set_option maxHeartbeats 800000 in
theorem fnExactDataNames_walk (a0 : Int) (w0 : (Lit.int .i64 a0).wf = true) (a1 : ByteArray) (w1 : a1.size ≤ maxLen) (w : World) :
    Calls Try.prog 6 #[.int .i64 a0, .string a1] w fun e w' => e = .returned (.bool true) ∧ Below w.heap.size w w' := by
  by_cases hl : 1048576 < a1.size
  · have hl' : (1048576 : Int) < (a1.size : Int) := by omega
    go_enter Try.func6, Try.ntmps6
    go_wp2
    go_ret
    exact ⟨rfl, Below.refl _ _⟩
  · have hl' : (a1.size : Int) ≤ 1048576 := by omega
    have hsp := specDataNames_any a0 a1 w
    have him := fun W => implDataNames_any a0 a1 W (by omega)
    have hlen := cut_few a0 a1
    generalize (cutS a0 a1).getD [] = ls at *
    have hmk := fun V B xs W h1 => markSpanS_any V ls.length B 1 xs W h1 (by omega) (by omega)
    have hhd := fun V W h => heldSpanS_any V ls.length 1 W h (by omega) (by omega)
    have heq := fun V U W h1 h2 => eqSpanS_any V U ls W h1 h2 (by omega)
    have c1 : ((1 : Nat) : Int) = 1 := rfl
    rw [c1] at hmk hhd
    have d0 : decide (((1 + ls.length * 2 : Nat) : Int) < 0) = false := by simp; omega
    have d1 : (((1 + ls.length * 2 : Nat) : Int) != ((1 + ls.length * 2 : Nat) : Int)) = false := by simp
    generalize ((1 + ls.length * 2 : Nat) : Int) = M at *
    clear c1
    go_enter Try.func6, Try.ntmps6
    go_wp2_with fail
    refine hsp.mono ?_
    rintro e w1 ⟨v1, rfl, hown1, hb1⟩
    go_wp2_with fail
    refine (him w1).mono ?_
    rintro e w2 ⟨v2, rfl, hown2, hb2⟩
    have r1 := CRow.of_owns hown1
    go_wp2_with fail
    refine (heq v2 v1 _ (CRow.of_owns hown2) (r1.below hb2)).mono ?_
    rintro e w3 ⟨rfl, hb3⟩
    have hown3 := own_below hown2 hb3
    have b13 := Nm.below_two hb2 hb3
    go_wp2_with fail
    refine (hmk v2 w1.heap.size _ _ hown3).mono ?_
    rintro e w4 ⟨rfl, hown4, hb4⟩
    have b14 := b13.trans hb4
    have h4 := CRow.of_owns hown4
    go_wp2_with fail
    refine (hhd v2 _ h4).mono ?_
    rintro e w5 ⟨rfl, hw5⟩
    obtain rfl : w4 = w5 := hw5.symm
    go_wp2_with fail
    refine (him _).mono ?_
    rintro e w6 ⟨v6, rfl, hown6, hb6⟩
    have h6 := h4.below hb6
    have b16 := Nm.below_two b14 hb6
    go_wp2_with fail
    refine (heq v6 v1 _ (CRow.of_owns hown6) (r1.below b16)).mono ?_
    rintro e w7 ⟨rfl, hb7⟩
    have h7 := h6.below hb7
    have b17 := Nm.below_two b16 hb7
    go_wp2_with fail
    refine (hhd v2 _ h7).mono ?_
    rintro e w8 ⟨rfl, hw8⟩
    obtain rfl : w7 = w8 := hw8.symm
    go_wp2
    go_ret
    exact ⟨rfl, Nm.below_two hb1 b17⟩
end Go.Proofs.Ytakonfkefoeenaf
