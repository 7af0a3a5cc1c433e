/- spec.l03Mnemonic, spec.ShowType by their contracts. -/
import Derived.Test.YtakonfkefoeenabDoorTxt1
import Derived.Test.YtakonfkefoeenabDoorTxt5A
namespace Go.Proofs.YtakonfkefoeenabDoor
open Go.RowKit

/-- What ShowType answers. -/
def showTypeS (t : Int) : ByteArray :=
  if t < 0 ∨ 65535 < t then ⟨#[]⟩ else if (mnemS t).size = 0 then ⟨#[84, 89, 80, 69]⟩ ++ decS t.toNat else mnemS t
theorem showType_out {t : Int} (h : t < 0 ∨ 65535 < t) : showTypeS t = ⟨#[]⟩ := by rw [showTypeS, if_pos h]
theorem showType_num {t : Int} (h : ¬ (t < 0 ∨ 65535 < t)) (h1 : (mnemS t).size = 0) : showTypeS t = ⟨#[84, 89, 80, 69]⟩ ++ decS t.toNat := by rw [showTypeS, if_neg h, if_pos h1]
theorem showType_mn {t : Int} (h : ¬ (t < 0 ∨ 65535 < t)) (h1 : (mnemS t).size ≠ 0) : showTypeS t = mnemS t := by rw [showTypeS, if_neg h, if_neg h1]

theorem emptyB {s : ByteArray} (h : s.size = 0) : (s.toList == []) = true ∧ (s.toList != []) = false := by
  have : s.toList = [] := List.length_eq_zero_iff.1 (by rw [Nm.tl_len]; exact h)
  simp [this]
theorem fullB {s : ByteArray} (h : s.size ≠ 0) : (s.toList == []) = false ∧ (s.toList != []) = true := by
  have : s.toList ≠ [] := by
    intro e
    have h9 := congrArg List.length e
    rw [Nm.tl_len] at h9
    exact h h9
  simp [this]

set_option maxRecDepth 100000 in
set_option maxHeartbeats 800000 in
theorem specShowType_any (t : Int) (w : World) :
    Calls Tryd.prog 4 #[.int .i64 t] w fun e w' => e = .returned (.string (showTypeS t)) ∧ Below w.heap.size w w' := by
  by_cases h : t < 0 ∨ 65535 < t
  · have HR := Nm.hide (showType_out h)
    by_cases h0 : t < 0
    · clear h
      go_enter Tryd.func4, Tryd.ntmps4
      go_wp2
      go_ret
      rw [HR.out]
      exact ⟨rfl, Below.refl _ _⟩
    · have h1 : 65535 < t := by omega
      have h2 : 0 ≤ t := by omega
      clear h
      go_enter Tryd.func4, Tryd.ntmps4
      go_wp2
      go_ret
      rw [HR.out]
      exact ⟨rfl, Below.refl _ _⟩
  · have h1 : t ≤ 65535 := by omega
    have h2 : 0 ≤ t := by omega
    have hmn := l03Mnemonic_any t
    by_cases hm : (mnemS t).size = 0
    · have HR := Nm.hide (showType_num h hm)
      obtain ⟨e1, e2⟩ := emptyB hm
      obtain ⟨n, rfl⟩ := Int.eq_ofNat_of_zero_le h2
      have hdec := fun w => l03Dec_any n w (by omega)
      have hz : (decS n).size ≤ 20 := by
        have := decL_len20 (n := n) (by omega)
        show (decL n).toArray.size ≤ 20
        simpa using this
      rw [Int.toNat_natCast] at HR
      generalize decS n = D at *
      generalize mnemS (n : Int) = mn at *
      have hsum : 4 + D.size ≤ 9223372036854775807 := by omega
      clear h hm
      go_enter Tryd.func4, Tryd.ntmps4
      go_wp2_with (first | (go_at_call 6; refine (hmn _).mono ?_; rintro e w1 ⟨rfl, hw⟩; obtain rfl : w = w1 := hw.symm; clear hw) | (go_at_call 7; refine (hdec _).mono ?_; rintro e w2 ⟨rfl, hb2⟩))
      go_ret
      rw [HR.out]
      exact ⟨rfl, hb2⟩
    · have HR := Nm.hide (showType_mn h hm)
      obtain ⟨e1, e2⟩ := fullB hm
      generalize mnemS t = mn at *
      clear h hm
      go_enter Tryd.func4, Tryd.ntmps4
      go_wp2_with (go_at_call 6; refine (hmn _).mono ?_; rintro e w1 ⟨rfl, hw⟩; obtain rfl : w = w1 := hw.symm; clear hw)
      go_ret
      rw [HR.out]
      exact ⟨rfl, Below.refl _ _⟩
end Go.Proofs.YtakonfkefoeenabDoor
