/- impl.CompareNames by its contract. -/
import Derived.Test.YtakonfkefoeenafCmp2
import Derived.Test.YtakonfkefoeenafSplit
import Derived.Deep.RegionHeld3
namespace Go.Proofs.Ytakonfkefoeenaf
open Go.RowKit

theorem cmpS_left {a b : ByteArray} (h : Nm.split a = none) : Nm.cmpS a b = 0 := by simp [Nm.cmpS, h]
theorem cmpS_right {a b : ByteArray} (h : Nm.split b = none) : Nm.cmpS a b = 0 := by
  cases ha : Nm.split a <;> simp [Nm.cmpS, h, ha]
theorem cmpS_some {a b : ByteArray} {xs ys : List ByteArray} (ha : Nm.split a = some xs) (hb : Nm.split b = some ys) : Nm.cmpS a b = Nm.cmpLs xs ys := by simp [Nm.cmpS, ha, hb]

set_option maxRecDepth 100000 in
set_option maxHeartbeats 800000 in
theorem implCompareNames_any (a b : ByteArray) (w : World) (ha : a.size ≤ maxLen) (hb : b.size ≤ maxLen) :
    Calls Try.prog 22 #[.string a, .string b] w fun e w' => e = .returned (.int .i64 (Nm.cmpS a b)) ∧ Below w.heap.size w w' := by
  have hsa := splitName_any a w ha
  have hsb := fun W => splitName_any b W hb
  cases hqa : Nm.split a with
  | none =>
    have HA := Nm.hide (cmpS_left (b := b) hqa)
    rw [hqa] at hsa
    clear hqa
    go_enter Try.func22, Try.ntmps22
    go_wp2_with fail
    refine hsa.mono ?_
    rintro e w1 ⟨v, rfl, hown, hbel⟩
    go_wp2_with fail
    refine (hsb _).mono ?_
    rintro e w2 ⟨v2, rfl, hown2, hbel2⟩
    go_wp2
    go_ret
    rw [HA.out]
    exact ⟨rfl, Nm.below_two hbel hbel2⟩
  | some xs =>
    rw [hqa] at hsa
    cases hqb : Nm.split b with
    | none =>
      have HA := Nm.hide (cmpS_right (a := a) hqb)
      rw [hqb] at hsb
      clear hqa hqb
      go_enter Try.func22, Try.ntmps22
      go_wp2_with fail
      refine hsa.mono ?_
      rintro e w1 ⟨v, rfl, hown, hbel⟩
      go_wp2_with fail
      refine (hsb _).mono ?_
      rintro e w2 ⟨v2, rfl, hown2, hbel2⟩
      go_wp2
      go_ret
      rw [HA.out]
      exact ⟨rfl, Nm.below_two hbel hbel2⟩
    | some ys =>
      have HA := Nm.hide (cmpS_some hqa hqb)
      have hxs := (Nm.split_join hqa).2
      have hza := Nm.split_size hqa
      have hzb := Nm.split_size hqb
      have hla := Nm.length_le_wsum xs
      have hlb := Nm.length_le_wsum ys
      rw [hqb] at hsb
      clear hqa hqb
      go_enter Try.func22, Try.ntmps22
      go_wp2_with fail
      refine hsa.mono ?_
      rintro e w1 ⟨v, rfl, hown, hbel⟩
      go_wp2_with fail
      refine (hsb _).mono ?_
      rintro e w2 ⟨v2, rfl, hown2, hbel2⟩
      have r1 := (Nm.SRow.of_owns hown).below hbel2
      have r2 := Nm.SRow.of_owns hown2
      simp only [Option.getD_some] at r1 r2
      go_wp2_with fail
      refine (compare_any v v2 xs ys _ r1 r2 (fun x hx => by have := hxs x hx; omega) (by omega) (by omega)).mono ?_
      rintro e w3 ⟨rfl, m, rfl⟩
      go_wp2
      go_ret
      rw [HA.out]
      exact ⟨rfl, Go.below_drewN (Nm.below_two hbel hbel2) _⟩
end Go.Proofs.Ytakonfkefoeenaf
