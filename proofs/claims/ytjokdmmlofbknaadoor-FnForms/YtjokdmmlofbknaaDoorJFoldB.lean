import Derived.Test.YtjokdmmlofbknaaDoorJFoldM
import Derived.Test.YtjokdmmlofbknaaDoorRows
import Derived.WalkSpells
import Derived.WalkLawsBesides
import Derived.Test.YtjokdmmlofbknaaDoorJReadM
import Derived.Test.YtjokdmmlofbknaaDoorJV4T
/- impl.foldByte by its contract. -/
namespace Go.Proofs.YtjokdmmlofbknaaDoor
open Go.RowKit

theorem ret_u8 {a b : Int} (h : a = b) : Ending.returned (.int .u8 a) = .returned (.int .u8 b) := by rw [h]

set_option maxRecDepth 100000 in
set_option maxHeartbeats 400000 in
theorem foldByte_any (c : UInt8) (w : World) :
    Calls Tryd.prog 51 #[.int .u8 c.toNat] w fun e w' => e = .returned (.int .u8 (Nm.low c).toNat) ∧ w' = w := by
  have hcl : (c.toNat : Int) < 256 := by have := c.toNat_lt; omega
  by_cases hup : 65 ≤ c.toNat ∧ c.toNat ≤ 90
  · have HL := Nm.hide (Nm.low_up hup)
    have d1 : decide ((65 : Int) ≤ (c.toNat : Int)) = true := by simp; omega
    have d2 : decide ((c.toNat : Int) ≤ 90) = true := by simp; omega
    have hb1 : (c.toNat : Int) ≤ 90 := by omega
    clear hup
    go_enter Tryd.func51, Tryd.ntmps51
    go_wp2
    go_ret
    rw [HL.out]
    exact ⟨rfl, rfl⟩
  · have HL := Nm.hide (Nm.low_id hup)
    by_cases hlo : 65 ≤ c.toNat
    · have d1 : decide ((65 : Int) ≤ (c.toNat : Int)) = true := by simp; omega
      have d2 : decide ((c.toNat : Int) ≤ 90) = false := by simp; omega
      clear hup
      go_enter Tryd.func51, Tryd.ntmps51
      go_wp2
      go_ret
      rw [HL.out]
      exact ⟨rfl, rfl⟩
    · have d1 : decide ((65 : Int) ≤ (c.toNat : Int)) = false := by simp; omega
      clear hup
      go_enter Tryd.func51, Tryd.ntmps51
      go_wp2
      go_ret
      rw [HL.out]
      exact ⟨rfl, rfl⟩

end Go.Proofs.YtjokdmmlofbknaaDoor
/- impl.isDigit by its contract. -/
namespace Go.Proofs.YtjokdmmlofbknaaDoor
open Go.RowKit

set_option maxRecDepth 100000 in
set_option maxHeartbeats 400000 in
theorem isDigit_any (c : UInt8) (w : World) :
    Calls Tryd.prog 49 #[.int .u8 c.toNat] w fun e w' => e = .returned (.bool (Nm.digB c)) ∧ w' = w := by
  by_cases h1 : 48 ≤ c.toNat
  · have d1 : decide ((48 : Int) ≤ (c.toNat : Int)) = true := by simp; omega
    have HE : Hid (Nm.digB c = decide ((c.toNat : Int) ≤ 57)) := by
      show _ = _
      rw [Nm.digB, decide_eq_true h1, Bool.true_and, Bool.eq_iff_iff]
      simp; omega
    go_enter Tryd.func49, Tryd.ntmps49
    go_wp2
    go_ret
    rw [HE.out]
    exact ⟨rfl, rfl⟩
  · have d1 : decide ((48 : Int) ≤ (c.toNat : Int)) = false := by simp; omega
    have HE : Hid (Nm.digB c = false) := by
      show _ = _
      rw [Nm.digB, decide_eq_false h1]; rfl
    go_enter Tryd.func49, Tryd.ntmps49
    go_wp2
    go_ret
    rw [HE.out]
    exact ⟨rfl, rfl⟩

end Go.Proofs.YtjokdmmlofbknaaDoor
/- impl.hexValue by its contract. -/
namespace Go.Proofs.YtjokdmmlofbknaaDoor
open Go.RowKit

theorem hex_low (c : UInt8) : hexV c = if Nm.digB (Nm.low c) = true then ((Nm.low c).toNat : Int) - 48 else if 97 ≤ (Nm.low c).toNat ∧ (Nm.low c).toNat ≤ 102 then ((Nm.low c).toNat : Int) - 97 + 10 else -1 := by
  by_cases hup : 65 ≤ c.toNat ∧ c.toNat ≤ 90
  · have hl := Nm.low_up hup
    have d1 : Nm.digB c = false := by simp [Nm.digB]; omega
    have d2 : Nm.digB (Nm.low c) = false := by simp [Nm.digB]; omega
    unfold hexV
    simp only [d1, d2, Bool.false_eq_true, if_false]
    rw [if_neg (show ¬ (97 ≤ c.toNat ∧ c.toNat ≤ 102) by omega)]
    by_cases h : c.toNat ≤ 70
    · rw [if_pos (show 65 ≤ c.toNat ∧ c.toNat ≤ 70 by omega), if_pos (show 97 ≤ (Nm.low c).toNat ∧ (Nm.low c).toNat ≤ 102 by omega)]; omega
    · rw [if_neg (show ¬ (65 ≤ c.toNat ∧ c.toNat ≤ 70) by omega), if_neg (show ¬ (97 ≤ (Nm.low c).toNat ∧ (Nm.low c).toNat ≤ 102) by omega)]
  · rw [Nm.low_id hup]
    unfold hexV
    split
    · rfl
    · split
      · rfl
      · rw [if_neg (by omega)]

def hexR (v : Int) : Value := if 0 ≤ v then .tuple #[.int .u8 v, .bool true] else .tuple #[.int .u8 0, .bool false]
theorem hexR_yes (n : Nat) : hexR (n : Int) = .tuple #[.int .u8 (n : Int), .bool true] := by rw [hexR, if_pos (by omega)]
theorem hexR_no {v : Int} (h : v < 0) : hexR v = .tuple #[.int .u8 0, .bool false] := by rw [hexR, if_neg (by omega)]

set_option maxRecDepth 100000 in
set_option maxHeartbeats 400000 in
theorem hexValue_any (c : UInt8) (w : World) :
    Calls Tryd.prog 62 #[.int .u8 c.toNat] w fun e w' => e = .returned (hexR (hexV c)) ∧ w' = w := by
  have hf := foldByte_any c w
  have hd := isDigit_any (Nm.low c) w
  have hx := hex_low c
  have hcl : ((Nm.low c).toNat : Int) < 256 := by have := (Nm.low c).toNat_lt; omega
  obtain ⟨R, HR⟩ : ∃ R, Hid (R = hexR (hexV c)) := ⟨_, rfl⟩
  rw [← HR.out]
  cases hD : Nm.digB (Nm.low c) with
  | true =>
    have hb : 48 ≤ (Nm.low c).toNat ∧ (Nm.low c).toNat ≤ 57 := by simpa [Nm.digB] using hD
    have HN : Hid (R = .tuple #[.int .u8 (((Nm.low c).toNat : Int) - 48), .bool true]) := by
      show _ = _
      rw [HR.out, hx, if_pos hD, hexR, if_pos (by omega)]
    rw [hD] at hd
    have h1 : (48 : Int) ≤ ((Nm.low c).toNat : Int) := by omega
    have h2 : ((Nm.low c).toNat : Int) ≤ 57 := by omega
    clear hD hb hx HR
    generalize ((Nm.low c).toNat : Int) = d at *
    go_enter Tryd.func62, Tryd.ntmps62
    go_wp2_with (first | (go_at_call 51; refine hf.mono ?_; rintro e w1 ⟨rfl, hw⟩; obtain rfl : w = w1 := hw.symm; clear hw) | (go_at_call 49; refine hd.mono ?_; rintro e w1 ⟨rfl, hw⟩; obtain rfl : w = w1 := hw.symm; clear hw))
    go_ret2
    rw [HN.out]
    exact ⟨rfl, rfl⟩
  | false =>
    rw [hD] at hd
    by_cases h1 : 97 ≤ (Nm.low c).toNat
    · by_cases h2 : (Nm.low c).toNat ≤ 102
      · have HN : Hid (R = .tuple #[.int .u8 (((Nm.low c).toNat : Int) - 97 + 10), .bool true]) := by
          show _ = _
          rw [HR.out, hx, if_neg (by simp [hD]), if_pos ⟨h1, h2⟩, hexR, if_pos (by omega)]
        have h1' : (97 : Int) ≤ ((Nm.low c).toNat : Int) := by omega
        have h2' : ((Nm.low c).toNat : Int) ≤ 102 := by omega
        clear hD hx HR h1 h2
        generalize ((Nm.low c).toNat : Int) = d at *
        go_enter Tryd.func62, Tryd.ntmps62
        go_wp2_with (first | (go_at_call 51; refine hf.mono ?_; rintro e w1 ⟨rfl, hw⟩; obtain rfl : w = w1 := hw.symm; clear hw) | (go_at_call 49; refine hd.mono ?_; rintro e w1 ⟨rfl, hw⟩; obtain rfl : w = w1 := hw.symm; clear hw))
        go_ret2
        rw [HN.out]
        exact ⟨rfl, rfl⟩
      · have HN : Hid (R = .tuple #[.int .u8 0, .bool false]) := by
          show _ = _
          rw [HR.out, hx, if_neg (by simp [hD]), if_neg (by omega)]; rfl
        have h1' : (97 : Int) ≤ ((Nm.low c).toNat : Int) := by omega
        have h2' : (102 : Int) < ((Nm.low c).toNat : Int) := by omega
        clear hD hx HR h1 h2
        generalize ((Nm.low c).toNat : Int) = d at *
        go_enter Tryd.func62, Tryd.ntmps62
        go_wp2_with (first | (go_at_call 51; refine hf.mono ?_; rintro e w1 ⟨rfl, hw⟩; obtain rfl : w = w1 := hw.symm; clear hw) | (go_at_call 49; refine hd.mono ?_; rintro e w1 ⟨rfl, hw⟩; obtain rfl : w = w1 := hw.symm; clear hw))
        go_ret2
        rw [HN.out]
        exact ⟨rfl, rfl⟩
    · have HN : Hid (R = .tuple #[.int .u8 0, .bool false]) := by
        show _ = _
        rw [HR.out, hx, if_neg (by simp [hD]), if_neg (by omega)]; rfl
      have h1' : ((Nm.low c).toNat : Int) < 97 := by omega
      clear hD hx HR h1
      generalize ((Nm.low c).toNat : Int) = d at *
      go_enter Tryd.func62, Tryd.ntmps62
      go_wp2_with (first | (go_at_call 51; refine hf.mono ?_; rintro e w1 ⟨rfl, hw⟩; obtain rfl : w = w1 := hw.symm; clear hw) | (go_at_call 49; refine hd.mono ?_; rintro e w1 ⟨rfl, hw⟩; obtain rfl : w = w1 := hw.symm; clear hw))
      go_ret2
      rw [HN.out]
      exact ⟨rfl, rfl⟩
end Go.Proofs.YtjokdmmlofbknaaDoor
