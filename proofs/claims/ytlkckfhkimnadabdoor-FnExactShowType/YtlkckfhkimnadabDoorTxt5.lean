/- spec.l03Mnemonic, spec.ShowType by their contracts. -/
import Derived.Test.YtlkckfhkimnadabDoorTxt1
namespace Go.Proofs.YtlkckfhkimnadabDoor
open Go.RowKit

def mnemS (t : Int) : ByteArray :=
  if t = 1 then ⟨#[65]⟩
  else if t = 2 then ⟨#[78, 83]⟩
  else if t = 5 then ⟨#[67, 78, 65, 77, 69]⟩
  else if t = 6 then ⟨#[83, 79, 65]⟩
  else if t = 12 then ⟨#[80, 84, 82]⟩
  else if t = 13 then ⟨#[72, 73, 78, 70, 79]⟩
  else if t = 15 then ⟨#[77, 88]⟩
  else if t = 16 then ⟨#[84, 88, 84]⟩
  else if t = 28 then ⟨#[65, 65, 65, 65]⟩
  else if t = 33 then ⟨#[83, 82, 86]⟩
  else if t = 35 then ⟨#[78, 65, 80, 84, 82]⟩
  else if t = 39 then ⟨#[68, 78, 65, 77, 69]⟩
  else if t = 41 then ⟨#[79, 80, 84]⟩
  else if t = 47 then ⟨#[78, 83, 69, 67]⟩
  else if t = 250 then ⟨#[84, 83, 73, 71]⟩
  else if t = 251 then ⟨#[73, 88, 70, 82]⟩
  else if t = 252 then ⟨#[65, 88, 70, 82]⟩
  else if t = 255 then ⟨#[65, 78, 89]⟩
  else if t = 257 then ⟨#[67, 65, 65]⟩
  else ⟨#[]⟩

def isMnem (t : Int) : Prop := t = 1 ∨ t = 2 ∨ t = 5 ∨ t = 6 ∨ t = 12 ∨ t = 13 ∨ t = 15 ∨ t = 16 ∨ t = 28 ∨ t = 33 ∨ t = 35 ∨ t = 39 ∨ t = 41 ∨ t = 47 ∨ t = 250 ∨ t = 251 ∨ t = 252 ∨ t = 255 ∨ t = 257

set_option maxRecDepth 100000 in
set_option maxHeartbeats 1600000 in
theorem l03Mnemonic_any (t : Int) (w : World) :
    Calls Tryd.prog 6 #[.int .i64 t] w fun e w' => e = .returned (.string (mnemS t)) ∧ w' = w := by
  by_cases h : isMnem t
  · unfold isMnem at h
    rcases h with rfl | rfl | rfl | rfl | rfl | rfl | rfl | rfl | rfl | rfl | rfl | rfl | rfl | rfl | rfl | rfl | rfl | rfl | rfl
    all_goals
      go_enter Tryd.func6, Tryd.ntmps6
      go_wp2
      go_ret
      exact ⟨rfl, rfl⟩
  · unfold isMnem at h
    have HA : Hid (mnemS t = ⟨#[]⟩) := by
      show _ = _
      unfold mnemS
      simp only [show ¬ t = 1 by omega, show ¬ t = 2 by omega, show ¬ t = 5 by omega, show ¬ t = 6 by omega, show ¬ t = 12 by omega, show ¬ t = 13 by omega, show ¬ t = 15 by omega, show ¬ t = 16 by omega, show ¬ t = 28 by omega, show ¬ t = 33 by omega, show ¬ t = 35 by omega, show ¬ t = 39 by omega, show ¬ t = 41 by omega, show ¬ t = 47 by omega, show ¬ t = 250 by omega, show ¬ t = 251 by omega, show ¬ t = 252 by omega, show ¬ t = 255 by omega, show ¬ t = 257 by omega, if_false]
    have b1 : (t == 1) = false := by rw [beq_eq_false_iff_ne]; omega
    have b2 : (t == 2) = false := by rw [beq_eq_false_iff_ne]; omega
    have b3 : (t == 5) = false := by rw [beq_eq_false_iff_ne]; omega
    have b4 : (t == 6) = false := by rw [beq_eq_false_iff_ne]; omega
    have b5 : (t == 12) = false := by rw [beq_eq_false_iff_ne]; omega
    have b6 : (t == 13) = false := by rw [beq_eq_false_iff_ne]; omega
    have b7 : (t == 15) = false := by rw [beq_eq_false_iff_ne]; omega
    have b8 : (t == 16) = false := by rw [beq_eq_false_iff_ne]; omega
    have b9 : (t == 28) = false := by rw [beq_eq_false_iff_ne]; omega
    have b10 : (t == 33) = false := by rw [beq_eq_false_iff_ne]; omega
    have b11 : (t == 35) = false := by rw [beq_eq_false_iff_ne]; omega
    have b12 : (t == 39) = false := by rw [beq_eq_false_iff_ne]; omega
    have b13 : (t == 41) = false := by rw [beq_eq_false_iff_ne]; omega
    have b14 : (t == 47) = false := by rw [beq_eq_false_iff_ne]; omega
    have b15 : (t == 250) = false := by rw [beq_eq_false_iff_ne]; omega
    have b16 : (t == 251) = false := by rw [beq_eq_false_iff_ne]; omega
    have b17 : (t == 252) = false := by rw [beq_eq_false_iff_ne]; omega
    have b18 : (t == 255) = false := by rw [beq_eq_false_iff_ne]; omega
    have b19 : (t == 257) = false := by rw [beq_eq_false_iff_ne]; omega
    clear h
    go_enter Tryd.func6, Tryd.ntmps6
    go_wp2
    go_ret
    rw [HA.out]
    exact ⟨rfl, rfl⟩

/-- What ShowType answers. -/
def showTypeS (t : Int) : ByteArray :=
  if t < 0 ∨ 65535 < t then ⟨#[]⟩ else if (mnemS t).size = 0 then ⟨#[84, 89, 80, 69]⟩ ++ decS t.toNat else mnemS t
theorem showType_out {t : Int} (h : t < 0 ∨ 65535 < t) : showTypeS t = ⟨#[]⟩ := by rw [showTypeS, if_pos h]
theorem showType_num {t : Int} (h : ¬ (t < 0 ∨ 65535 < t)) (h1 : (mnemS t).size = 0) : showTypeS t = ⟨#[84, 89, 80, 69]⟩ ++ decS t.toNat := by rw [showTypeS, if_neg h, if_pos h1]
theorem showType_mn {t : Int} (h : ¬ (t < 0 ∨ 65535 < t)) (h1 : (mnemS t).size ≠ 0) : showTypeS t = mnemS t := by rw [showTypeS, if_neg h, if_neg h1]

theorem emptyB {s : ByteArray} (h : s.size = 0) : (s.toList == []) = true ∧ (s.toList != []) = false := by
  have : s.toList = [] := List.length_eq_zero_iff.1 (by rw [Nm.tl_len]; exact h)
  simp [this]
theorem fullB {s : ByteArray} (h : s.size ≠ 0) : (s.toList == []) = false ∧ (s.toList != []) = true := by
  have : s.toList ≠ [] := by
    intro e
    have h9 := congrArg List.length e
    rw [Nm.tl_len] at h9
    exact h h9
  simp [this]

set_option maxRecDepth 100000 in
set_option maxHeartbeats 800000 in
theorem specShowType_any (t : Int) (w : World) :
    Calls Tryd.prog 4 #[.int .i64 t] w fun e w' => e = .returned (.string (showTypeS t)) ∧ Below w.heap.size w w' := by
  by_cases h : t < 0 ∨ 65535 < t
  · have HR := Nm.hide (showType_out h)
    by_cases h0 : t < 0
    · clear h
      go_enter Tryd.func4, Tryd.ntmps4
      go_wp2
      go_ret
      rw [HR.out]
      exact ⟨rfl, Below.refl _ _⟩
    · have h1 : 65535 < t := by omega
      have h2 : 0 ≤ t := by omega
      clear h
      go_enter Tryd.func4, Tryd.ntmps4
      go_wp2
      go_ret
      rw [HR.out]
      exact ⟨rfl, Below.refl _ _⟩
  · have h1 : t ≤ 65535 := by omega
    have h2 : 0 ≤ t := by omega
    have hmn := l03Mnemonic_any t
    by_cases hm : (mnemS t).size = 0
    · have HR := Nm.hide (showType_num h hm)
      obtain ⟨e1, e2⟩ := emptyB hm
      obtain ⟨n, rfl⟩ := Int.eq_ofNat_of_zero_le h2
      have hdec := fun w => l03Dec_any n w (by omega)
      have hz : (decS n).size ≤ 20 := by
        have := decL_len20 (n := n) (by omega)
        show (decL n).toArray.size ≤ 20
        simpa using this
      rw [Int.toNat_natCast] at HR
      generalize decS n = D at *
      generalize mnemS (n : Int) = mn at *
      have hsum : 4 + D.size ≤ 9223372036854775807 := by omega
      clear h hm
      go_enter Tryd.func4, Tryd.ntmps4
      go_wp2_with (first | (go_at_call 6; refine (hmn _).mono ?_; rintro e w1 ⟨rfl, hw⟩; obtain rfl : w = w1 := hw.symm; clear hw) | (go_at_call 7; refine (hdec _).mono ?_; rintro e w2 ⟨rfl, hb2⟩))
      go_ret
      rw [HR.out]
      exact ⟨rfl, hb2⟩
    · have HR := Nm.hide (showType_mn h hm)
      obtain ⟨e1, e2⟩ := fullB hm
      generalize mnemS t = mn at *
      clear h hm
      go_enter Tryd.func4, Tryd.ntmps4
      go_wp2_with (go_at_call 6; refine (hmn _).mono ?_; rintro e w1 ⟨rfl, hw⟩; obtain rfl : w = w1 := hw.symm; clear hw)
      go_ret
      rw [HR.out]
      exact ⟨rfl, Below.refl _ _⟩
end Go.Proofs.YtlkckfhkimnadabDoor
