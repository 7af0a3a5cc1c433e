import Derived.Test.YtjokdmmlofbknaaDoorJPowT
import Derived.Test.YtjokdmmlofbknaaDoorRows
import Derived.Lib.AppendIntMem
import Derived.Lib.ItoaMem
import Derived.WalkSpells
import Derived.WalkLawsBesides
import Derived.Test.YtjokdmmlofbknaaDoorJFmB
import Derived.Test.YtjokdmmlofbknaaDoorJTyM
import Derived.Test.YtjokdmmlofbknaaDoorJFoldB
import Derived.Deep.QuietTactic
import Derived.BigQuiet
/- strconv.FormatInt at base 10 by its contract. -/
namespace Go.Proofs.YtjokdmmlofbknaaDoor
open Go.RowKit

set_option maxRecDepth 100000 in
set_option maxHeartbeats 400000 in
theorem formatInt10_any (n : Nat) (w : World) (hn : n < 9223372036854775808) (htab : PowTab w) :
    Calls Tryd.prog 23 #[.int .i64 (n : Int), .int .i64 10] w fun e w' => e = .returned (.string (decS n)) ∧ Below w.heap.size w w' := by
  have hc := Tryd.internal_strconv_FormatInt_10 (n : Int) (by omega) (by omega) w htab
  have he : (⟨(Lib.itoa (n : Int)).toArray⟩ : ByteArray) = decS n := by rw [Lib.itoa_nonneg, dec_lib]; rfl
  rw [he] at hc
  clear he
  generalize decS n = D at *
  go_enter Tryd.func23, Tryd.ntmps23
  go_wp2_with (go_at_call 40; refine hc.mono ?_; rintro e w1 ⟨rfl, k, os, hw⟩; have hb : Below w.heap.size w w1 := (by rw [hw]; exact Lib.below_grow _ w (Nat.le_refl _) k os); clear hw)
  go_ret
  exact ⟨rfl, hb⟩
end Go.Proofs.YtjokdmmlofbknaaDoor
/- impl.ShowType by its contract. -/
namespace Go.Proofs.YtjokdmmlofbknaaDoor
open Go.RowKit

set_option maxRecDepth 100000 in
set_option maxHeartbeats 1600000 in
theorem implShowType_any (t : Int) (w : World) (hM : MnemAt w) (hT : PowTab w) :
    Calls Tryd.prog 11 #[.int .i64 t] w fun e w' => e = .returned (.string (showTypeS t)) ∧ Below w.heap.size w w' := by
  by_cases h : t < 0 ∨ 65535 < t
  · have HR := Nm.hide (showType_out h)
    by_cases h0 : t < 0
    · clear h
      go_enter Tryd.func11, Tryd.ntmps11
      go_wp2
      go_ret
      rw [HR.out]
      exact ⟨rfl, Below.refl _ _⟩
    · have h1 : 65535 < t := by omega
      have h2 : 0 ≤ t := by omega
      clear h
      go_enter Tryd.func11, Tryd.ntmps11
      go_wp2
      go_ret
      rw [HR.out]
      exact ⟨rfl, Below.refl _ _⟩
  · have h1 : t ≤ 65535 := by omega
    have h2 : 0 ≤ t := by omega
    obtain ⟨bt, bf, hblk⟩ := hM
    generalize hmc : mnemCells = mc at hblk
    have HMC := Nm.hide hmc
    have hsz : (Tryd.prog.info? 62).map (·.size) = some mc.size := by rw [← hmc]; kernel_rfl
    clear hmc
    go_enter Tryd.func11, Tryd.ntmps11
    go_wp2_with (guard_target = wpList _ _ _ ({ dst := some 11, op := Go.Op.load 62 (Go.Operand.global 0), type := _, pos := _, after := _, guard := none } :: _) _ _; refine wpList_load_row rfl 62 (.global 0) rfl 0 rfl bt mc bf _ hblk Tryd.underlying62 rfl hsz ?_)
    go_loopw [12] (fun i wr => ∃ k : Nat, k ≤ 19 ∧ i = .int .i64 k ∧ Hid (∀ j, j < k → mnN j ≠ t) ∧ Below w.heap.size w wr)
      (fun i _ => 19 - (intOf i).toNat)
    case atStart => exact ⟨0, by omega, rfl, fun j h => by omega, Below.refl _ _⟩
    case round =>
      obtain ⟨k, hk, rfl, HNO, hbel⟩ := hrel
      have hszb := hbel.size
      by_cases hlt : k < 19
      · have hlt' : (k : Int) < 19 := by omega
        have hidx := fun W => mnem_index k hlt W
        rw [HMC.out] at hidx
        have HA := Nm.hide (mn_all hlt)
        have HX : Hid (∃ n, n = mnN k) := ⟨_, rfl⟩
        by_cases he : mnN k = t
        · have HR : Hid (showTypeS t = mnT k) := by
            show _ = _
            rw [← he, showType_mn (by have := HA.out; omega) (by rw [HA.out.1]; exact HA.out.2.2.2), HA.out.1]
          rw [he] at hidx
          clear HA HX he
          generalize mnT k = T at *
          go_wp2
          go_ret
          rw [HR.out]
          exact ⟨rfl, hbel.alloc hszb _⟩
        · have hne : (mnN k == t) = false := by rw [beq_eq_false_iff_ne]; exact he
          have HN : Hid (∀ j, j < k + 1 → mnN j ≠ t) := by
            show ∀ j, _
            intro j hj
            by_cases e : j = k
            · subst e; exact he
            · exact HNO.out j (by omega)
          clear HA HX he
          generalize mnN k = N at *
          generalize mnT k = T at *
          go_wp2
          go_roundw
          case rel => exact ⟨k + 1, by omega, by go_num, HN, hbel.alloc hszb _⟩
          case measure => simp [intOf]; omega
      · have hke : k = 19 := by omega
        subst hke
        have HR := Nm.hide (showType_num h (mn_none HNO.out))
        obtain ⟨n, rfl⟩ := Int.eq_ofNat_of_zero_le h2
        rw [Int.toNat_natCast] at HR
        have hf := formatInt10_any n wr (by omega) (hT.below hbel)
        have hz : (decS n).size ≤ 20 := by
          have := decL_len20 (n := n) (by omega)
          show (decL n).toArray.size ≤ 20
          simpa using this
        generalize decS n = D at *
        have hsum : 4 + D.size ≤ 9223372036854775807 := by omega
        clear h HNO
        go_wp2_with (go_at_call 23; refine hf.mono ?_; rintro e w2 ⟨rfl, hb2⟩)
        go_ret
        rw [HR.out]
        exact ⟨rfl, Nm.below_two hbel hb2⟩
end Go.Proofs.YtjokdmmlofbknaaDoor
/- impl.compareFolded, (labelList).compare by their contracts. -/
namespace Go.Proofs.YtjokdmmlofbknaaDoor
open Go.RowKit

set_option maxRecDepth 100000 in
set_option maxHeartbeats 400000 in
theorem cmpByte_any (a b : UInt8) (w : World) :
    Calls Tryd.prog 50 #[.int .u8 a.toNat, .int .u8 b.toNat] w fun e w' => e = .returned (.int .i64 (Nm.cmpI a.toNat b.toNat)) ∧ w' = w := by
  have ha : ((a.toNat : Int) != (a.toNat : Int)) = false := by simp
  have hb : ((b.toNat : Int) != (b.toNat : Int)) = false := by simp
  by_cases h1 : (a.toNat : Int) < (b.toNat : Int)
  · have HC := Nm.hide (Nm.cmpI_lt h1)
    have d1 : decide ((a.toNat : Int) < (b.toNat : Int)) = true := by simpa using h1
    go_enter Tryd.func50, Tryd.ntmps50
    go_wp2
    go_ret
    rw [HC.out]
    exact ⟨rfl, rfl⟩
  · have d1 : decide ((a.toNat : Int) < (b.toNat : Int)) = false := by simpa using h1
    by_cases h2 : (b.toNat : Int) < (a.toNat : Int)
    · have HC := Nm.hide (Nm.cmpI_gt h2)
      have d2 : decide ((b.toNat : Int) < (a.toNat : Int)) = true := by simpa using h2
      go_enter Tryd.func50, Tryd.ntmps50
      go_wp2
      go_ret
      rw [HC.out]
      exact ⟨rfl, rfl⟩
    · have HC := Nm.hide (Nm.cmpI_eq (show (a.toNat : Int) = (b.toNat : Int) by omega))
      have d2 : decide ((b.toNat : Int) < (a.toNat : Int)) = false := by simpa using h2
      go_enter Tryd.func50, Tryd.ntmps50
      go_wp2
      go_ret
      rw [HC.out]
      exact ⟨rfl, rfl⟩

set_option maxRecDepth 100000 in
set_option maxHeartbeats 400000 in
theorem cmpInt_any (a b : Int) (w : World) :
    Calls Tryd.prog 52 #[.int .i64 a, .int .i64 b] w fun e w' => e = .returned (.int .i64 (Nm.cmpI a b)) ∧ w' = w := by
  have ha : (a != a) = false := by simp
  have hb : (b != b) = false := by simp
  by_cases h1 : a < b
  · have HC := Nm.hide (Nm.cmpI_lt h1)
    go_enter Tryd.func52, Tryd.ntmps52
    go_wp2
    go_ret
    rw [HC.out]
    exact ⟨rfl, rfl⟩
  · by_cases h2 : b < a
    · have HC := Nm.hide (Nm.cmpI_gt h2)
      go_enter Tryd.func52, Tryd.ntmps52
      go_wp2
      go_ret
      rw [HC.out]
      exact ⟨rfl, rfl⟩
    · have HC := Nm.hide (Nm.cmpI_eq (show a = b by omega))
      go_enter Tryd.func52, Tryd.ntmps52
      go_wp2
      go_ret
      rw [HC.out]
      exact ⟨rfl, rfl⟩

set_option maxRecDepth 100000 in
set_option maxHeartbeats 800000 in
theorem compareFolded_any (a b : ByteArray) (w : World) (ha : a.size ≤ 1000000000) :
    Calls Tryd.prog 34 #[.string a, .string b] w fun e w' => e = .returned (.int .i64 (Nm.ordS a b)) ∧ ∃ m, w' = w.drewN m := by
  go_enter Tryd.func34, Tryd.ntmps34
  go_wp2
  go_loopw [5] (fun i wr => ∃ k : Nat, k ≤ a.size ∧ k ≤ b.size ∧ i = .int .i64 k ∧ Hid ((Nm.smallL a.data.toList).take k = (Nm.smallL b.data.toList).take k) ∧ ∃ m, Hid (wr = w.drewN m))
    (fun i _ => a.size - (intOf i).toNat)
  case atStart => exact ⟨0, Nat.zero_le _, Nat.zero_le _, rfl, by show _ = _; simp, 0, rfl⟩
  case round =>
    obtain ⟨k, hka, hkb, rfl, HT, m, HW⟩ := hrel
    by_cases h1 : k < a.size ∧ k < b.size
    · obtain ⟨h1, h2⟩ := h1
      have d1 : decide ((k : Int) < (a.size : Int)) = true := by simp; omega
      have d2 : decide ((k : Int) < (b.size : Int)) = true := by simp; omega
      have i1 : (k : Int) < (a.size : Int) := by omega
      have i2 : (k : Int) < (b.size : Int) := by omega
      by_cases he : Nm.low a[k] = Nm.low b[k]
      · have HN : Hid ((Nm.smallL a.data.toList).take (k + 1) = (Nm.smallL b.data.toList).take (k + 1)) := Nm.take_snoc_eq HT.out (Nm.small_get h1) (Nm.small_get h2) he
        have hc : (Nm.cmpI (Nm.low a[k]).toNat (Nm.low b[k]).toNat != 0) = false := by rw [Nm.cmpI_eq (by rw [he])]; rfl
        clear he
        go_wp2
        go_quiet (first | (go_at_call 51; exact Calls.quiet_of_same (foldByte_any _ _)) | (go_at_call 50; exact Calls.quiet_of_same (cmpByte_any _ _ _)))
        go_wp2
        go_roundw
        case rel => exact ⟨k + 1, by omega, by omega, by go_num, HN, _, by show _ = _; rw [HW.out, World.drewN_drewN]⟩
        case measure => simp [intOf]; omega
      · have HO : Hid (Nm.ordS a b = Nm.cmpI (Nm.low a[k]).toNat (Nm.low b[k]).toNat) := Nm.ord_at k _ _ _ _ HT.out (Nm.small_get h1) (Nm.small_get h2) he
        have hc : (Nm.cmpI (Nm.low a[k]).toNat (Nm.low b[k]).toNat != 0) = true := by
          rw [bne_iff_ne]
          exact Nm.cmpI_ne (fun e => he (UInt8.toNat_inj.1 (by omega)))
        clear he
        go_wp2
        go_quiet (first | (go_at_call 51; exact Calls.quiet_of_same (foldByte_any _ _)) | (go_at_call 50; exact Calls.quiet_of_same (cmpByte_any _ _ _)))
        go_wp2
        go_ret
        rw [HO.out]
        exact ⟨rfl, _, by rw [HW.out, World.drewN_drewN]⟩
    · have HO : Hid (Nm.ordS a b = Nm.cmpI a.size b.size) := by
        show _ = _
        have := Nm.ord_end k _ _ HT.out (by rw [Nm.smallL_length]; omega) (by rw [Nm.smallL_length]; omega) (by rw [Nm.smallL_length, Nm.smallL_length]; omega)
        rw [Nm.smallL_length, Nm.smallL_length] at this
        exact this
      by_cases h2 : k < a.size
      · have g2 : b.size ≤ k := by omega
        have d2 : decide (k < b.size) = false := by simp; omega
        clear h1
        go_wp2_with fail
        refine (cmpInt_any _ _ _).mono ?_
        rintro e w3 ⟨rfl, rfl⟩
        go_wp2
        go_ret
        rw [HO.out]
        exact ⟨rfl, _, HW.out⟩
      · have g2 : a.size ≤ k := by omega
        have d2 : decide (k < a.size) = false := by simp; omega
        clear h1
        go_wp2_with fail
        refine (cmpInt_any _ _ _).mono ?_
        rintro e w3 ⟨rfl, rfl⟩
        go_wp2
        go_ret
        rw [HO.out]
        exact ⟨rfl, _, HW.out⟩
end Go.Proofs.YtjokdmmlofbknaaDoor
