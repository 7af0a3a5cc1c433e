import Derived.Test.YtjokdmmlofbknaaDoorJTyM
import Derived.Test.YtjokdmmlofbknaaDoorJFoldB
import Derived.Test.YtjokdmmlofbknaaDoorRows
import Derived.WalkSpells
import Derived.WalkLawsBesides
import Derived.RegionTactic
import Derived.BigRegion
import Derived.BigQuiet
import Derived.Deep.QuietTactic
/- impl.isDigit, impl.readEscape by their contracts. -/
namespace Go.Proofs.YtjokdmmlofbknaaDoor
open Go.RowKit

set_option maxRecDepth 100000 in
set_option maxHeartbeats 800000 in
theorem readEscape_any (t : ByteArray) (r : Option (UInt8 × Nat)) (w : World) (hr : Hid (Nm.escF (t.data.toList.drop 1) = r)) (h0 : 0 < t.size) (hs : t.size ≤ 1000000000) :
    Calls Tryd.prog 37 #[.string t] w fun e w' => e = .returned (.tuple #[.int .u8 (escB r), .int .i64 (escM r), .bool (escO r)]) ∧ ∃ m, w' = w.drewN m := by
  by_cases h1 : t.size < 2
  · have HE : r = none := by
      rw [← hr.out, List.drop_of_length_le (by simp; omega)]; rfl
    have h1' : (t.size : Int) < 2 := by omega
    subst HE
    go_enter Tryd.func37, Tryd.ntmps37
    go_wp2
    go_ret3
    exact ⟨rfl, 0, rfl⟩
  · have h1' : (2 : Int) ≤ (t.size : Int) := by omega
    have hp1 : 1 < t.size := by omega
    cases hd : Nm.digB t[1] with
    | false =>
      have HE : r = some (t[1], 1) := by
        rw [← hr.out, Nm.drop_at hp1]; exact Nm.esc_byte _ hd
      subst HE
      go_enter Tryd.func37, Tryd.ntmps37
      go_wp2_with (go_at_call 49; refine (isDigit_any _ _).mono ?_; rintro e w1 ⟨rfl, rfl⟩)
      go_ret3
      exact ⟨rfl, 0, rfl⟩
    | true =>
      by_cases h4 : t.size < 4
      · have HE : r = none := by
          rw [← hr.out, Nm.drop_at hp1]; exact Nm.esc_short hd (by simp; omega)
        have h4' : decide ((t.size : Int) < 4) = true := by simp; omega
        subst HE
        go_enter Tryd.func37, Tryd.ntmps37
        go_wp2_with (go_at_call 49; refine (isDigit_any _ _).mono ?_; rintro e w1 ⟨rfl, rfl⟩)
        go_ret3
        exact ⟨rfl, 0, rfl⟩
      · have h4' : decide ((t.size : Int) < 4) = false := by simp; omega
        have hp2 : 2 < t.size := by omega
        have hp3 : 3 < t.size := by omega
        have hthree : Nm.escF (t.data.toList.drop 1) = if Nm.digB t[2] = true ∧ Nm.digB t[3] = true then (if Nm.num3 t[1] t[2] t[3] ≤ 255 then some (UInt8.ofNat (Nm.num3 t[1] t[2] t[3]), 3) else none) else none := by
          rw [drop_three (by omega : 1 + 3 ≤ t.size)]
          exact Nm.esc_three hd
        cases hd2 : Nm.digB t[2] with
        | false =>
          have HE : r = none := by rw [← hr.out, hthree, if_neg (by simp [hd2])]
          clear hthree
          subst HE
          go_enter Tryd.func37, Tryd.ntmps37
          go_wp2_with (go_at_call 49; refine (isDigit_any _ _).mono ?_; rintro e w1 ⟨rfl, rfl⟩)
          go_ret3
          exact ⟨rfl, 0, rfl⟩
        | true =>
          cases hd3 : Nm.digB t[3] with
          | false =>
            have HE : r = none := by rw [← hr.out, hthree, if_neg (by simp [hd3])]
            clear hthree
            subst HE
            go_enter Tryd.func37, Tryd.ntmps37
            go_wp2_with (go_at_call 49; refine (isDigit_any _ _).mono ?_; rintro e w1 ⟨rfl, rfl⟩)
            go_ret3
            exact ⟨rfl, 0, rfl⟩
          | true =>
            have b1 := dig_bounds hd
            have b2 := dig_bounds hd2
            have b3 := dig_bounds hd3
            have i1 : (1 : Int) < (t.size : Int) := by omega
            have i2 : (2 : Int) < (t.size : Int) := by omega
            have i3 : (3 : Int) < (t.size : Int) := by omega
            rw [if_pos ⟨hd2, hd3⟩] at hthree
            have HN : Hid (((t[1].toNat : Int) - (48 : Int)) * (100 : Int) + ((t[2].toNat : Int) - (48 : Int)) * (10 : Int) + ((t[3].toNat : Int) - (48 : Int)) = (Nm.num3 t[1] t[2] t[3] : Int)) := by
              show _ = _
              unfold Nm.num3; omega
            by_cases hN : Nm.num3 t[1] t[2] t[3] ≤ 255
            · have HE : r = some (UInt8.ofNat (Nm.num3 t[1] t[2] t[3]), 3) := by rw [← hr.out, hthree, if_pos hN]
              have hle : ((t[1].toNat : Int) - (48 : Int)) * (100 : Int) + ((t[2].toNat : Int) - (48 : Int)) * (10 : Int) + ((t[3].toNat : Int) - (48 : Int)) ≤ (255 : Int) := by have := HN.out; omega
              have HV : Hid (((UInt8.ofNat (Nm.num3 t[1] t[2] t[3])).toNat : Int) = ((t[1].toNat : Int) - (48 : Int)) * (100 : Int) + ((t[2].toNat : Int) - (48 : Int)) * (10 : Int) + ((t[3].toNat : Int) - (48 : Int))) := by
                show _ = _
                have h1 := HN.out
                have h2 : (UInt8.ofNat (Nm.num3 t[1] t[2] t[3])).toNat = Nm.num3 t[1] t[2] t[3] := by simp; omega
                rw [h2]; omega
              clear hthree hN
              subst HE
              go_enter Tryd.func37, Tryd.ntmps37
              go_wp2_with (go_at_call 49; refine (isDigit_any _ _).mono ?_; rintro e w1 ⟨rfl, rfl⟩)
              go_region
              go_wp2
              go_ret3
              simp only [escB, HV.out]
              exact ⟨rfl, 1, rfl⟩
            · have HE : r = none := by rw [← hr.out, hthree, if_neg hN]
              have hgt : (255 : Int) < ((t[1].toNat : Int) - (48 : Int)) * (100 : Int) + ((t[2].toNat : Int) - (48 : Int)) * (10 : Int) + ((t[3].toNat : Int) - (48 : Int)) := by have := HN.out; omega
              clear hthree hN
              subst HE
              go_enter Tryd.func37, Tryd.ntmps37
              go_wp2_with (go_at_call 49; refine (isDigit_any _ _).mono ?_; rintro e w1 ⟨rfl, rfl⟩)
              go_region
              go_wp2
              go_ret3
              exact ⟨rfl, 1, rfl⟩
end Go.Proofs.YtjokdmmlofbknaaDoor
