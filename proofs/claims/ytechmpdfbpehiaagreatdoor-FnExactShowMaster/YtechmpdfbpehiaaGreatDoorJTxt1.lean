import Derived.Test.YtechmpdfbpehiaaGreatDoorJIShowT
import Derived.Test.YtechmpdfbpehiaaGreatDoorJTxt5A
import Derived.Deep.RegionWith
/- spec.l03Dec by its contract. -/
namespace Go.Proofs.YtechmpdfbpehiaaGreatDoor
open Go.RowKit

theorem conv_kept {m : Int} {W w1 : World} (hb : Below (W.alloc (.cells #[.int .u8 m] 5)).drew.heap.size (W.alloc (.cells #[.int .u8 m] 5)).drew w1) :
    (convert 44 9 (.slice (some ⟨W.heap.size, 0, none⟩) 1 1)).run Tryz.prog w1 = .ok (.string ⟨#[UInt8.ofNat m.toNat]⟩) w1 := by
  have hc : w1.cell? ⟨W.heap.size, 0, none⟩ = some (.int .u8 m) := by
    rw [hb.cell (by simp)]
    exact World.cell?_alloc_new W _ _ 0
  rw [run_convert_bytes_string _ 44 9 5 _ _ _ Tryz.underlying44 Tryz.underlying5 Tryz.underlying9]
  have hl := run_loadCells_list (P := Tryz.prog) w1 ⟨W.heap.size, 0, none⟩ ([m].map (Value.int .u8)) (fun j v hj => by
    match j, hj with
    | 0, hj => simp at hj; subst hj; rw [Nm.addr_add]; exact hc)
  rw [run_bytesToString _ _ 1 1 [m] hl]
  rfl

set_option maxRecDepth 100000 in
set_option maxHeartbeats 1600000 in
theorem l03Dec_any : ∀ (n : Nat) (w : World), n < 9223372036854775808 →
    Calls Tryz.prog 16 #[.int .i64 (n : Int)] w fun e w' => e = .returned (.string (decS n)) ∧ Below w.heap.size w w' := by
  intro n
  induction n using Nat.strongRecOn with
  | _ n ih =>
    intro w hn
    by_cases h10 : n < 10
    · have hcv := fun m W => conv_one m W
      have HE : Hid (decS n = ⟨#[UInt8.ofNat (48 + n)]⟩) := by show _ = _; rw [decS, decL_small h10]
      have h10' : (n : Int) < 10 := by omega
      clear ih
      go_enter Tryz.func16, Tryz.ntmps16
      go_wp2
      go_ret
      rw [HE.out]
      exact ⟨rfl, (Below.refl _ _).alloc (Nat.le_refl _) _⟩
    · have hcv := fun m W => conv_one m W
      have h10' : (10 : Int) ≤ (n : Int) := by omega
      have hih := fun w => ih (n / 10) (by omega) w (by omega)
      have hdz : (decS (n / 10)).size ≤ 20 := by
        have := decL_len20 (n := n / 10) (by omega)
        show (decL (n / 10)).toArray.size ≤ 20
        simpa using this
      have HE : Hid (decS n = decS (n / 10) ++ ⟨#[UInt8.ofNat (48 + n % 10)]⟩) := by
        show _ = _
        apply Nm.ba_ext
        simp [decS, decL_step h10]
      have hcast : ((n / 10 : Nat) : Int) = (n : Int) / 10 := by omega
      rw [hcast] at hih
      have hsum : (decS (n / 10)).size + 1 ≤ 9223372036854775807 := by omega
      have hcvd := fun m W => conv_one_drew m W
      have htm : (n : Int).tmod 10 = (n : Int) % 10 := Int.tmod_eq_emod_of_nonneg (by omega)
      have hw1 : IntKind.i64.wrap ((n : Int) / 10) = (n : Int) / 10 := Go.wrap_small _ (by omega) (by omega)
      have hw2 : IntKind.i64.wrap ((n : Int) % 10) = (n : Int) % 10 := Go.wrap_small _ (by omega) (by omega)
      have hw3 : IntKind.i64.wrap (48 + (n : Int) % 10) = 48 + (n : Int) % 10 := Go.wrap_small _ (by omega) (by omega)
      have hw4 : IntKind.u8.wrap (48 + (n : Int) % 10) = 48 + (n : Int) % 10 := by rw [IntKind.wrap_u8']; omega
      generalize decS (n / 10) = D at *
      clear ih hcast
      go_enter Tryz.func16, Tryz.ntmps16
      go_wp2
      go_region_with (go_at_call 16; refine (hih _).mono ?_; rintro e w1 ⟨rfl, hb1⟩; try (have hcx := conv_kept hb1))
      all_goals
        go_wp2
        go_ret
        rw [HE.out]
        have hbA : Below w.heap.size w w1 := by
          first
            | exact Nm.below_two ((Below.refl _ w).drew) hb1
            | exact Nm.below_two (((Below.refl _ w).alloc (Nat.le_refl _) _).drew) hb1
        refine ⟨by first | rfl | simp [Act.put], ?_⟩
        first
          | exact hbA
          | exact hbA.alloc hbA.size _
          | exact (hbA.alloc hbA.size _).drew
end Go.Proofs.YtechmpdfbpehiaaGreatDoor
/- spec.l03Mnemonic, spec.ShowType by their contracts. -/
namespace Go.Proofs.YtechmpdfbpehiaaGreatDoor
open Go.RowKit

/-- What ShowType answers. -/
def showTypeS (t : Int) : ByteArray :=
  if t < 0 ∨ 65535 < t then ⟨#[]⟩ else if (mnemS t).size = 0 then ⟨#[84, 89, 80, 69]⟩ ++ decS t.toNat else mnemS t
theorem showType_out {t : Int} (h : t < 0 ∨ 65535 < t) : showTypeS t = ⟨#[]⟩ := by rw [showTypeS, if_pos h]
theorem showType_num {t : Int} (h : ¬ (t < 0 ∨ 65535 < t)) (h1 : (mnemS t).size = 0) : showTypeS t = ⟨#[84, 89, 80, 69]⟩ ++ decS t.toNat := by rw [showTypeS, if_neg h, if_pos h1]
theorem showType_mn {t : Int} (h : ¬ (t < 0 ∨ 65535 < t)) (h1 : (mnemS t).size ≠ 0) : showTypeS t = mnemS t := by rw [showTypeS, if_neg h, if_neg h1]

theorem emptyB {s : ByteArray} (h : s.size = 0) : (s.toList == []) = true ∧ (s.toList != []) = false := by
  have : s.toList = [] := List.length_eq_zero_iff.1 (by rw [Nm.tl_len]; exact h)
  simp [this]
theorem fullB {s : ByteArray} (h : s.size ≠ 0) : (s.toList == []) = false ∧ (s.toList != []) = true := by
  have : s.toList ≠ [] := by
    intro e
    have h9 := congrArg List.length e
    rw [Nm.tl_len] at h9
    exact h h9
  simp [this]

set_option maxRecDepth 100000 in
set_option maxHeartbeats 800000 in
theorem specShowType_any (t : Int) (w : World) :
    Calls Tryz.prog 17 #[.int .i64 t] w fun e w' => e = .returned (.string (showTypeS t)) ∧ Below w.heap.size w w' := by
  by_cases h : t < 0 ∨ 65535 < t
  · have HR := Nm.hide (showType_out h)
    by_cases h0 : t < 0
    · clear h
      go_enter Tryz.func17, Tryz.ntmps17
      go_wp2
      go_ret
      rw [HR.out]
      exact ⟨rfl, Below.refl _ _⟩
    · have h1 : 65535 < t := by omega
      have h2 : 0 ≤ t := by omega
      clear h
      go_enter Tryz.func17, Tryz.ntmps17
      go_wp2
      go_ret
      rw [HR.out]
      exact ⟨rfl, Below.refl _ _⟩
  · have h1 : t ≤ 65535 := by omega
    have h2 : 0 ≤ t := by omega
    have hmn := l03Mnemonic_any t
    by_cases hm : (mnemS t).size = 0
    · have HR := Nm.hide (showType_num h hm)
      obtain ⟨e1, e2⟩ := emptyB hm
      obtain ⟨n, rfl⟩ := Int.eq_ofNat_of_zero_le h2
      have hdec := fun w => l03Dec_any n w (by omega)
      have hz : (decS n).size ≤ 20 := by
        have := decL_len20 (n := n) (by omega)
        show (decL n).toArray.size ≤ 20
        simpa using this
      rw [Int.toNat_natCast] at HR
      generalize decS n = D at *
      generalize mnemS (n : Int) = mn at *
      have hsum : 4 + D.size ≤ 9223372036854775807 := by omega
      clear h hm
      go_enter Tryz.func17, Tryz.ntmps17
      go_wp2_with (first | (go_at_call 36; refine (hmn _).mono ?_; rintro e w1 ⟨rfl, hw⟩; obtain rfl : w = w1 := hw.symm; clear hw) | (go_at_call 16; refine (hdec _).mono ?_; rintro e w2 ⟨rfl, hb2⟩))
      go_ret
      rw [HR.out]
      exact ⟨rfl, hb2⟩
    · have HR := Nm.hide (showType_mn h hm)
      obtain ⟨e1, e2⟩ := fullB hm
      generalize mnemS t = mn at *
      clear h hm
      go_enter Tryz.func17, Tryz.ntmps17
      go_wp2_with (go_at_call 36; refine (hmn _).mono ?_; rintro e w1 ⟨rfl, hw⟩; obtain rfl : w = w1 := hw.symm; clear hw)
      go_ret
      rw [HR.out]
      exact ⟨rfl, Below.refl _ _⟩
end Go.Proofs.YtechmpdfbpehiaaGreatDoor
