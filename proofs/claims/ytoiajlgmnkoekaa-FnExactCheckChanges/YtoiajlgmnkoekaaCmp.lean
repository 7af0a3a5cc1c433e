import Derived.Test.YtoiajlgmnkoekaaCmpM
import Derived.Test.YtoiajlgmnkoekaaJNameOKi
import Derived.Deep.QuietTactic
import Derived.BigQuiet
/- impl.compareFolded, (labelList).compare by their contracts. -/
namespace Go.Proofs.Ytoiajlgmnkoekaa
open Go.RowKit

set_option maxRecDepth 100000 in
set_option maxHeartbeats 400000 in
theorem cmpByte_any (a b : UInt8) (w : World) :
    Calls Try.prog 53 #[.int .u8 a.toNat, .int .u8 b.toNat] w fun e w' => e = .returned (.int .i64 (Nm.cmpI a.toNat b.toNat)) ∧ w' = w := by
  have ha : ((a.toNat : Int) != (a.toNat : Int)) = false := by simp
  have hb : ((b.toNat : Int) != (b.toNat : Int)) = false := by simp
  by_cases h1 : (a.toNat : Int) < (b.toNat : Int)
  · have HC := Nm.hide (Nm.cmpI_lt h1)
    have d1 : decide ((a.toNat : Int) < (b.toNat : Int)) = true := by simpa using h1
    go_enter Try.func53, Try.ntmps53
    go_wp2
    go_ret
    rw [HC.out]
    exact ⟨rfl, rfl⟩
  · have d1 : decide ((a.toNat : Int) < (b.toNat : Int)) = false := by simpa using h1
    by_cases h2 : (b.toNat : Int) < (a.toNat : Int)
    · have HC := Nm.hide (Nm.cmpI_gt h2)
      have d2 : decide ((b.toNat : Int) < (a.toNat : Int)) = true := by simpa using h2
      go_enter Try.func53, Try.ntmps53
      go_wp2
      go_ret
      rw [HC.out]
      exact ⟨rfl, rfl⟩
    · have HC := Nm.hide (Nm.cmpI_eq (show (a.toNat : Int) = (b.toNat : Int) by omega))
      have d2 : decide ((b.toNat : Int) < (a.toNat : Int)) = false := by simpa using h2
      go_enter Try.func53, Try.ntmps53
      go_wp2
      go_ret
      rw [HC.out]
      exact ⟨rfl, rfl⟩

set_option maxRecDepth 100000 in
set_option maxHeartbeats 400000 in
theorem cmpInt_any (a b : Int) (w : World) :
    Calls Try.prog 46 #[.int .i64 a, .int .i64 b] w fun e w' => e = .returned (.int .i64 (Nm.cmpI a b)) ∧ w' = w := by
  have ha : (a != a) = false := by simp
  have hb : (b != b) = false := by simp
  by_cases h1 : a < b
  · have HC := Nm.hide (Nm.cmpI_lt h1)
    go_enter Try.func46, Try.ntmps46
    go_wp2
    go_ret
    rw [HC.out]
    exact ⟨rfl, rfl⟩
  · by_cases h2 : b < a
    · have HC := Nm.hide (Nm.cmpI_gt h2)
      go_enter Try.func46, Try.ntmps46
      go_wp2
      go_ret
      rw [HC.out]
      exact ⟨rfl, rfl⟩
    · have HC := Nm.hide (Nm.cmpI_eq (show a = b by omega))
      go_enter Try.func46, Try.ntmps46
      go_wp2
      go_ret
      rw [HC.out]
      exact ⟨rfl, rfl⟩

set_option maxRecDepth 100000 in
set_option maxHeartbeats 800000 in
theorem compareFolded_any (a b : ByteArray) (w : World) (ha : a.size ≤ 1000000000) :
    Calls Try.prog 45 #[.string a, .string b] w fun e w' => e = .returned (.int .i64 (Nm.ordS a b)) ∧ ∃ m, w' = w.drewN m := by
  go_enter Try.func45, Try.ntmps45
  go_wp2
  go_loopw [5] (fun i wr => ∃ k : Nat, k ≤ a.size ∧ k ≤ b.size ∧ i = .int .i64 k ∧ Hid ((Nm.smallL a.data.toList).take k = (Nm.smallL b.data.toList).take k) ∧ ∃ m, Hid (wr = w.drewN m))
    (fun i _ => a.size - (intOf i).toNat)
  case atStart => exact ⟨0, Nat.zero_le _, Nat.zero_le _, rfl, by show _ = _; simp, 0, rfl⟩
  case round =>
    obtain ⟨k, hka, hkb, rfl, HT, m, HW⟩ := hrel
    by_cases h1 : k < a.size ∧ k < b.size
    · obtain ⟨h1, h2⟩ := h1
      have d1 : decide ((k : Int) < (a.size : Int)) = true := by simp; omega
      have d2 : decide ((k : Int) < (b.size : Int)) = true := by simp; omega
      have i1 : (k : Int) < (a.size : Int) := by omega
      have i2 : (k : Int) < (b.size : Int) := by omega
      by_cases he : Nm.low a[k] = Nm.low b[k]
      · have HN : Hid ((Nm.smallL a.data.toList).take (k + 1) = (Nm.smallL b.data.toList).take (k + 1)) := Nm.take_snoc_eq HT.out (Nm.small_get h1) (Nm.small_get h2) he
        have hc : (Nm.cmpI (Nm.low a[k]).toNat (Nm.low b[k]).toNat != 0) = false := by rw [Nm.cmpI_eq (by rw [he])]; rfl
        clear he
        go_wp2
        go_quiet (first | (go_at_call 54; exact Calls.quiet_of_same (foldByte_any _ _)) | (go_at_call 53; exact Calls.quiet_of_same (cmpByte_any _ _ _)))
        go_wp2
        go_roundw
        case rel => exact ⟨k + 1, by omega, by omega, by go_num, HN, _, by show _ = _; rw [HW.out, World.drewN_drewN]⟩
        case measure => simp [intOf]; omega
      · have HO : Hid (Nm.ordS a b = Nm.cmpI (Nm.low a[k]).toNat (Nm.low b[k]).toNat) := Nm.ord_at k _ _ _ _ HT.out (Nm.small_get h1) (Nm.small_get h2) he
        have hc : (Nm.cmpI (Nm.low a[k]).toNat (Nm.low b[k]).toNat != 0) = true := by
          rw [bne_iff_ne]
          exact Nm.cmpI_ne (fun e => he (UInt8.toNat_inj.1 (by omega)))
        clear he
        go_wp2
        go_quiet (first | (go_at_call 54; exact Calls.quiet_of_same (foldByte_any _ _)) | (go_at_call 53; exact Calls.quiet_of_same (cmpByte_any _ _ _)))
        go_wp2
        go_ret
        rw [HO.out]
        exact ⟨rfl, _, by rw [HW.out, World.drewN_drewN]⟩
    · have HO : Hid (Nm.ordS a b = Nm.cmpI a.size b.size) := by
        show _ = _
        have := Nm.ord_end k _ _ HT.out (by rw [Nm.smallL_length]; omega) (by rw [Nm.smallL_length]; omega) (by rw [Nm.smallL_length, Nm.smallL_length]; omega)
        rw [Nm.smallL_length, Nm.smallL_length] at this
        exact this
      by_cases h2 : k < a.size
      · have g2 : b.size ≤ k := by omega
        have d2 : decide (k < b.size) = false := by simp; omega
        clear h1
        go_wp2_with fail
        refine (cmpInt_any _ _ _).mono ?_
        rintro e w3 ⟨rfl, rfl⟩
        go_wp2
        go_ret
        rw [HO.out]
        exact ⟨rfl, _, HW.out⟩
      · have g2 : a.size ≤ k := by omega
        have d2 : decide (k < a.size) = false := by simp; omega
        clear h1
        go_wp2_with fail
        refine (cmpInt_any _ _ _).mono ?_
        rintro e w3 ⟨rfl, rfl⟩
        go_wp2
        go_ret
        rw [HO.out]
        exact ⟨rfl, _, HW.out⟩
end Go.Proofs.Ytoiajlgmnkoekaa
