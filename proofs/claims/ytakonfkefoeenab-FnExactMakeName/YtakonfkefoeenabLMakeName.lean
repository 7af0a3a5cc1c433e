/- The law of MakeName: its walk. -/
import Derived.Test.YtakonfkefoeenabMake
import Derived.Test.YtakonfkefoeenabSMake
import Derived.Test.YtakonfkefoeenabEqStr
import Derived.Test.YtakonfkefoeenabSls
namespace Go.Proofs.Ytakonfkefoeenab
open Go.RowKit

set_option maxRecDepth 100000 in
set_option maxHeartbeats 800000 in
theorem fnExactMakeName_walk (v : Value) (ls : List ByteArray) (w : World) (h : Nm.SRow w v ls) (hx : ∀ x ∈ ls, x.size ≤ maxLen) :
    Calls Try.prog 7 #[v] w fun e w' => e = .returned (.bool true) ∧ Below w.heap.size w w' := by
  have hsz := szStringS_any v ls 1048576 w h hx (by decide) (by decide)
  by_cases hb : (ls.length : Int) + (ssum ls : Int) ≤ 1048576
  · have e1 : szS ls 1048576 = 1048576 - ls.length - ssum ls := if_pos hb
    rw [e1] at hsz
    have hlen : ls.length ≤ 1048576 := by omega
    have hto := fun W hq => toStringS_any v ls W hq hlen
    have hs : ((makeS ls).1.toList == (makeS ls).1.toList) = true := by simp
    have hi : ((makeS ls).2 != (makeS ls).2) = false := by simp
    have hsp := fun V W => specMakeName_any V ls W
    have him := fun V W => implMakeName_any V ls W
    generalize (makeS ls).1 = r at *
    generalize (makeS ls).2 = c at *
    have hnn : decide (1048576 - (ls.length : Int) - (ssum ls : Int) < 0) = false := by simp; omega
    have heq := fun V U W => eqStringS_any V U ls W
    generalize (1048576 - (ls.length : Int) - (ssum ls : Int)) = L at *
    clear e1
    go_enter Try.func7, Try.ntmps7
    go_wp2_with fail
    refine hsz.mono ?_
    rintro e w1 ⟨rfl, rfl⟩
    go_wp2_with fail
    refine (hto _ h).mono ?_
    rintro e w2 ⟨u2, rfl, hown2, hbel2⟩
    go_wp2_with fail
    refine (hsp u2 _ (Nm.SRow.of_owns hown2)).mono ?_
    rintro e w3 ⟨rfl, hbel3⟩
    have b3 := Nm.below_two hbel2 hbel3
    go_wp2_with fail
    refine (hto _ (h.below b3)).mono ?_
    rintro e w4 ⟨u4, rfl, hown4, hbel4⟩
    have b4 := Nm.below_two b3 hbel4
    go_wp2_with fail
    refine (him u4 _ (Nm.SRow.of_owns hown4)).mono ?_
    rintro e w5 ⟨rfl, hbel5⟩
    have b5 := Nm.below_two b4 hbel5
    have r5 := (Nm.SRow.of_owns hown4).below hbel5
    go_wp2_with fail
    refine (hto _ (h.below b5)).mono ?_
    rintro e w6 ⟨u6, rfl, hown6, hbel6⟩
    have b6 := Nm.below_two b5 hbel6
    go_wp2_with fail
    refine (heq u4 u6 _ (r5.below hbel6) (Nm.SRow.of_owns hown6) (by omega)).mono ?_
    rintro e w7 ⟨rfl, hbel7⟩
    have b7 := Nm.below_two b6 hbel7
    go_wp2
    go_ret
    exact ⟨rfl, b7⟩
  · have e1 : szS ls 1048576 = -1 := if_neg hb
    rw [e1] at hsz
    go_enter Try.func7, Try.ntmps7
    go_wp2_with fail
    refine hsz.mono ?_
    rintro e w1 ⟨rfl, rfl⟩
    go_wp2
    go_ret
    exact ⟨rfl, Below.refl _ _⟩
end Go.Proofs.Ytakonfkefoeenab
