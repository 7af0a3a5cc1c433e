/- The law of Labels: its walk. -/
import Derived.Test.YtakonfkefoeenacLabels
import Derived.Test.YtakonfkefoeenacEqStr
import Derived.Test.YtakonfkefoeenacMark
namespace Go.Proofs.Ytakonfkefoeenac
open Go.RowKit
set_option linter.unusedVariables false

set_option maxRecDepth 100000 in
set_option maxHeartbeats 800000 in
theorem fnExactLabels_walk (a0 : ByteArray) (w0 : a0.size ≤ maxLen) (w : World) :
    Calls Try.prog 4 #[.string a0] w fun e w' => e = .returned (.bool true) ∧ Below w.heap.size w w' := by
  by_cases hl : 1048576 < a0.size
  · have hl' : (1048576 : Int) < (a0.size : Int) := by omega
    go_enter Try.func4, Try.ntmps4
    go_wp2
    go_ret
    exact ⟨rfl, Below.refl _ _⟩
  · have hl' : (a0.size : Int) ≤ 1048576 := by omega
    have hsp := specLabels_any a0 w w0
    have him := fun W => implLabels_any a0 W w0
    have hlen : ((Nm.split a0).getD []).length ≤ 255 := by
      cases hq : Nm.split a0 with
      | none => simp
      | some ls =>
        have h1 := Nm.split_size hq
        have h2 := Nm.length_le_wsum ls
        simp; omega
    generalize (Nm.split a0).getD [] = ls at *
    have hmk := fun V B xs W h1 h2 => markStringS_any V ls.length B 1 xs W h1 h2 (by omega) (by omega)
    have hhd := fun V W h => heldStringS_any V ls.length 1 W h (by omega) (by omega)
    have heq := fun V U W h1 h2 => eqStringS_any V U ls W h1 h2 (by omega)
    have c1 : ((1 : Nat) : Int) = 1 := rfl
    rw [c1] at hmk hhd
    have d0 : decide (((1 + ls.length : Nat) : Int) < 0) = false := by simp; omega
    have d1 : (((1 + ls.length : Nat) : Int) != ((1 + ls.length : Nat) : Int)) = false := by simp
    generalize ((1 + ls.length : Nat) : Int) = M at *
    clear c1
    go_enter Try.func4, Try.ntmps4
    go_wp2_with fail
    refine hsp.mono ?_
    rintro e w1 ⟨v1, rfl, hown1, hb1⟩
    go_wp2_with fail
    refine (him w1).mono ?_
    rintro e w2 ⟨v2, rfl, hown2, hb2⟩
    have r1 := Nm.SRow.of_owns hown1
    go_wp2_with fail
    refine (heq v2 v1 _ (Nm.SRow.of_owns hown2) (r1.below hb2)).mono ?_
    rintro e w3 ⟨rfl, hb3⟩
    have hown3 := owns_below hown2 hb3
    have b13 := Nm.below_two hb2 hb3
    go_wp2_with fail
    refine (hmk v2 w1.heap.size _ _ hown3 b13.size).mono ?_
    rintro e w4 ⟨rfl, hown4, hb4⟩
    have b14 := b13.trans hb4
    have h4 : Nm.SRow w4 v2 (mks 1 ls.length) := Nm.SRow.of_owns (by rw [mks_len]; exact hown4)
    go_wp2_with fail
    refine (hhd v2 _ h4).mono ?_
    rintro e w5 ⟨rfl, hb5⟩
    have h5 := h4.below hb5
    have b15 := Nm.below_two b14 hb5
    go_wp2_with fail
    refine (him _).mono ?_
    rintro e w6 ⟨v6, rfl, hown6, hb6⟩
    have h6 := h5.below hb6
    have b16 := Nm.below_two b15 hb6
    go_wp2_with fail
    refine (heq v6 v1 _ (Nm.SRow.of_owns hown6) (r1.below b16)).mono ?_
    rintro e w7 ⟨rfl, hb7⟩
    have h7 := h6.below hb7
    have b17 := Nm.below_two b16 hb7
    go_wp2_with fail
    refine (hhd v2 _ h7).mono ?_
    rintro e w8 ⟨rfl, hb8⟩
    have b18 := Nm.below_two b17 hb8
    go_wp2
    go_ret
    exact ⟨rfl, Nm.below_two hb1 b18⟩
end Go.Proofs.Ytakonfkefoeenac
