import Derived.Test.YtoiajlgmnkoekaaSameM
import Derived.Test.YtoiajlgmnkoekaaFold
/- spec.SameName by its contract. -/
namespace Go.Proofs.Ytoiajlgmnkoekaa
open Go.RowKit

set_option maxRecDepth 100000 in
set_option maxHeartbeats 800000 in
theorem specSameName_any (a b : ByteArray) (w : World) (ha : a.size ≤ maxLen) (hb : b.size ≤ maxLen) :
    Calls Try.prog 37 #[.string a, .string b] w fun e w' => e = .returned (.bool (sameS a b)) ∧ Below w.heap.size w w' := by
  have hsa := specFoldName_any a w ha
  have hsb := fun W => specFoldName_any b W hb
  cases hqa : Nm.split a with
  | none =>
    have HA := Nm.hide (same_left (b := b) hqa)
    rw [Nm.foldS_none hqa] at hsa
    have he : (ByteArray.empty).toList.isEmpty = true := Nm.tl_empty rfl
    clear hqa
    go_enter Try.func37, Try.ntmps37
    go_wp2_with fail
    refine hsa.mono ?_
    rintro e w1 ⟨rfl, hbel⟩
    go_wp2
    go_ret
    rw [HA.out]
    exact ⟨rfl, hbel⟩
  | some xs =>
    rw [Nm.foldS_some hqa] at hsa
    have he := small_pos hqa
    cases hqb : Nm.split b with
    | none =>
      have HA := Nm.hide (same_right (a := a) hqb)
      rw [Nm.foldS_none hqb] at hsb
      have hne : ((Nm.small a).toList == (ByteArray.empty).toList) = false := by
        rw [beq_eq_false_iff_ne]
        intro e
        rw [e] at he
        rw [Nm.tl_empty rfl] at he
        simp at he
      clear hqa hqb
      generalize Nm.small a = x at *
      go_enter Try.func37, Try.ntmps37
      go_wp2_with fail
      refine hsa.mono ?_
      rintro e w1 ⟨rfl, hbel⟩
      go_wp2_with fail
      refine (hsb _).mono ?_
      rintro e w2 ⟨rfl, hbel2⟩
      go_wp2
      go_ret
      rw [HA.out]
      exact ⟨rfl, Nm.below_two hbel hbel2⟩
    | some ys =>
      have HA := Nm.hide (same_some hqa hqb)
      have HE := Nm.hide (small_eq a b)
      rw [Nm.foldS_some hqb] at hsb
      clear hqa hqb
      generalize Nm.small a = x at *
      generalize Nm.small b = y at *
      go_enter Try.func37, Try.ntmps37
      go_wp2_with fail
      refine hsa.mono ?_
      rintro e w1 ⟨rfl, hbel⟩
      go_wp2_with fail
      refine (hsb _).mono ?_
      rintro e w2 ⟨rfl, hbel2⟩
      go_wp2
      go_ret
      rw [HA.out, ← HE.out]
      exact ⟨rfl, Nm.below_two hbel hbel2⟩
end Go.Proofs.Ytoiajlgmnkoekaa
