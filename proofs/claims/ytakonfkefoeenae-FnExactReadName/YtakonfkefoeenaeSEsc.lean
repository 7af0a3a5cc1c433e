/- spec.l01Digit, spec.l01Escape by their contracts. -/
import Derived.Test.YtakonfkefoeenaeEscM
import Derived.Test.YtakonfkefoeenaeSDig
import Derived.Test.YtakonfkefoeenaeRows
import Derived.WalkSpells
import Derived.WalkLawsBesides
import Derived.RegionTactic
import Derived.BigRegion
import Derived.BigQuiet
import Derived.Deep.QuietTactic
namespace Go.Proofs.Ytakonfkefoeenae
open Go.RowKit

set_option maxRecDepth 100000 in
set_option maxHeartbeats 800000 in
theorem l01Escape_any (t : ByteArray) (r : Option (UInt8 × Nat)) (w : World) (hr : Hid (Nm.escF t.data.toList = r)) (hs : t.size ≤ 1000000000) :
    Calls Try.prog 32 #[.string t] w fun e w' => e = .returned (.tuple #[.int .u8 (escB r), .int .i64 (escN r)]) ∧ ∃ m, w' = w.drewN m := by
  by_cases h1 : t.size = 0
  · have HE : r = none := by
      rw [← hr.out, List.length_eq_zero_iff.1 (show t.data.toList.length = 0 by simpa using h1)]; rfl
    have he := Nm.tl_empty h1
    subst HE
    go_enter Try.func32, Try.ntmps32
    go_wp2
    go_ret2
    exact ⟨rfl, 0, rfl⟩
  · have hp1 : 0 < t.size := by omega
    have he := Nm.tl_not_empty hp1
    cases hd : Nm.digB t[0] with
    | false =>
      have HE : r = some (t[0], 1) := by
        rw [← hr.out, ← List.drop_zero (l := t.data.toList), Nm.drop_at hp1]; exact Nm.esc_byte _ hd
      subst HE
      go_enter Try.func32, Try.ntmps32
      go_wp2_with (go_at_call 47; refine (l01Digit_any _ _).mono ?_; rintro e w1 ⟨rfl, rfl⟩)
      go_ret2
      exact ⟨rfl, 0, rfl⟩
    | true =>
      by_cases h4 : t.size < 3
      · have HE : r = none := by
          rw [← hr.out, ← List.drop_zero (l := t.data.toList), Nm.drop_at hp1]; exact Nm.esc_short hd (by simp; omega)
        have h4' : decide ((t.size : Int) < 3) = true := by simp; omega
        subst HE
        go_enter Try.func32, Try.ntmps32
        go_wp2_with (go_at_call 47; refine (l01Digit_any _ _).mono ?_; rintro e w1 ⟨rfl, rfl⟩)
        go_ret2
        exact ⟨rfl, 0, rfl⟩
      · have h4' : decide ((t.size : Int) < 3) = false := by simp; omega
        have hp2 : 1 < t.size := by omega
        have hp3 : 2 < t.size := by omega
        have hthree : Nm.escF t.data.toList = if Nm.digB t[1] = true ∧ Nm.digB t[2] = true then (if Nm.num3 t[0] t[1] t[2] ≤ 255 then some (UInt8.ofNat (Nm.num3 t[0] t[1] t[2]), 3) else none) else none := by
          rw [← List.drop_zero (l := t.data.toList), drop_three (by omega : 0 + 3 ≤ t.size)]
          exact Nm.esc_three hd
        cases hd2 : Nm.digB t[1] with
        | false =>
          have HE : r = none := by rw [← hr.out, hthree, if_neg (by simp [hd2])]
          clear hthree
          subst HE
          go_enter Try.func32, Try.ntmps32
          go_wp2_with (go_at_call 47; refine (l01Digit_any _ _).mono ?_; rintro e w1 ⟨rfl, rfl⟩)
          go_ret2
          exact ⟨rfl, 0, rfl⟩
        | true =>
          cases hd3 : Nm.digB t[2] with
          | false =>
            have HE : r = none := by rw [← hr.out, hthree, if_neg (by simp [hd3])]
            clear hthree
            subst HE
            go_enter Try.func32, Try.ntmps32
            go_wp2_with (go_at_call 47; refine (l01Digit_any _ _).mono ?_; rintro e w1 ⟨rfl, rfl⟩)
            go_ret2
            exact ⟨rfl, 0, rfl⟩
          | true =>
            have b1 := dig_bounds hd
            have b2 := dig_bounds hd2
            have b3 := dig_bounds hd3
            have i1 : (0 : Int) < (t.size : Int) := by omega
            have i2 : (1 : Int) < (t.size : Int) := by omega
            have i3 : (2 : Int) < (t.size : Int) := by omega
            rw [if_pos ⟨hd2, hd3⟩] at hthree
            have HN : Hid (((t[0].toNat : Int) - (48 : Int)) * (100 : Int) + ((t[1].toNat : Int) - (48 : Int)) * (10 : Int) + ((t[2].toNat : Int) - (48 : Int)) = (Nm.num3 t[0] t[1] t[2] : Int)) := by
              show _ = _
              unfold Nm.num3; omega
            by_cases hN : Nm.num3 t[0] t[1] t[2] ≤ 255
            · have HE : r = some (UInt8.ofNat (Nm.num3 t[0] t[1] t[2]), 3) := by rw [← hr.out, hthree, if_pos hN]
              have hle : ((t[0].toNat : Int) - (48 : Int)) * (100 : Int) + ((t[1].toNat : Int) - (48 : Int)) * (10 : Int) + ((t[2].toNat : Int) - (48 : Int)) ≤ (255 : Int) := by have := HN.out; omega
              have HV : Hid (((UInt8.ofNat (Nm.num3 t[0] t[1] t[2])).toNat : Int) = ((t[0].toNat : Int) - (48 : Int)) * (100 : Int) + ((t[1].toNat : Int) - (48 : Int)) * (10 : Int) + ((t[2].toNat : Int) - (48 : Int))) := by
                show _ = _
                have h1 := HN.out
                have h2 : (UInt8.ofNat (Nm.num3 t[0] t[1] t[2])).toNat = Nm.num3 t[0] t[1] t[2] := by simp; omega
                rw [h2]; omega
              clear hthree hN
              subst HE
              go_enter Try.func32, Try.ntmps32
              go_wp2_with (go_at_call 47; refine (l01Digit_any _ _).mono ?_; rintro e w1 ⟨rfl, rfl⟩)
              go_region
              go_wp2
              go_ret2
              simp only [escB, HV.out]
              exact ⟨rfl, 1, rfl⟩
            · have HE : r = none := by rw [← hr.out, hthree, if_neg hN]
              have hgt : (255 : Int) < ((t[0].toNat : Int) - (48 : Int)) * (100 : Int) + ((t[1].toNat : Int) - (48 : Int)) * (10 : Int) + ((t[2].toNat : Int) - (48 : Int)) := by have := HN.out; omega
              clear hthree hN
              subst HE
              go_enter Try.func32, Try.ntmps32
              go_wp2_with (go_at_call 47; refine (l01Digit_any _ _).mono ?_; rintro e w1 ⟨rfl, rfl⟩)
              go_region
              go_wp2
              go_ret2
              exact ⟨rfl, 1, rfl⟩
end Go.Proofs.Ytakonfkefoeenae
