/- impl.SameName by its contract. -/
import Derived.Test.YtakonfkefoeenagSameM
import Derived.Test.YtakonfkefoeenagCmp
import Derived.Test.YtakonfkefoeenagNameOKi
namespace Go.Proofs.Ytakonfkefoeenag
open Go.RowKit

set_option maxRecDepth 100000 in
set_option maxHeartbeats 800000 in
theorem implSameName_any (a b : ByteArray) (w : World) (ha : a.size ≤ maxLen) (hb : b.size ≤ maxLen) :
    Calls Try.prog 14 #[.string a, .string b] w fun e w' => e = .returned (.bool (sameS a b)) ∧ Below w.heap.size w w' := by
  have hsa := implNameOK_any a w ha
  have hsb := fun W => implNameOK_any b W hb
  cases hqa : Nm.split a with
  | none =>
    have HA := Nm.hide (same_left (b := b) hqa)
    rw [hqa] at hsa
    clear hqa
    go_enter Try.func14, Try.ntmps14
    go_wp2_with fail
    refine hsa.mono ?_
    rintro e w1 ⟨rfl, hbel⟩
    go_wp2
    go_ret
    rw [HA.out]
    exact ⟨rfl, hbel⟩
  | some xs =>
    have hza := Nm.split_size hqa
    rw [hqa] at hsa
    cases hqb : Nm.split b with
    | none =>
      have HA := Nm.hide (same_right (a := a) hqb)
      rw [hqb] at hsb
      clear hqa hqb
      go_enter Try.func14, Try.ntmps14
      go_wp2_with fail
      refine hsa.mono ?_
      rintro e w1 ⟨rfl, hbel⟩
      go_wp2_with fail
      refine (hsb _).mono ?_
      rintro e w2 ⟨rfl, hbel2⟩
      go_wp2
      go_ret
      rw [HA.out]
      exact ⟨rfl, Nm.below_two hbel hbel2⟩
    | some ys =>
      have HA := Nm.hide (same_some hqa hqb)
      have hcf := fun W => compareFolded_any a b W (by omega)
      rw [hqb] at hsb
      clear hqa hqb
      generalize Nm.ordS a b = o at *
      have HD : Hid ((o == 0) = decide (o = 0)) := by show _ = _; rw [Bool.eq_iff_iff]; simp
      go_enter Try.func14, Try.ntmps14
      go_wp2_with fail
      refine hsa.mono ?_
      rintro e w1 ⟨rfl, hbel⟩
      go_wp2_with fail
      refine (hsb _).mono ?_
      rintro e w2 ⟨rfl, hbel2⟩
      go_wp2_with fail
      refine (hcf _).mono ?_
      rintro e w3 ⟨rfl, m, rfl⟩
      go_wp2
      go_ret
      rw [HA.out, ← HD.out]
      exact ⟨rfl, Go.below_drewN (Nm.below_two hbel hbel2) _⟩

end Go.Proofs.Ytakonfkefoeenag
