/- spec.l03Mnemonic by its contract. -/
import Derived.Test.YtakonfkefoeenabDoorMath
import Derived.Test.YtakonfkefoeenabDoorRows
import Derived.WalkSpells
import Derived.WalkLawsBesides
namespace Go.Proofs.YtakonfkefoeenabDoor
open Go.RowKit

def mnemS (t : Int) : ByteArray :=
  if t = 1 then ⟨#[65]⟩
  else if t = 2 then ⟨#[78, 83]⟩
  else if t = 5 then ⟨#[67, 78, 65, 77, 69]⟩
  else if t = 6 then ⟨#[83, 79, 65]⟩
  else if t = 12 then ⟨#[80, 84, 82]⟩
  else if t = 13 then ⟨#[72, 73, 78, 70, 79]⟩
  else if t = 15 then ⟨#[77, 88]⟩
  else if t = 16 then ⟨#[84, 88, 84]⟩
  else if t = 28 then ⟨#[65, 65, 65, 65]⟩
  else if t = 33 then ⟨#[83, 82, 86]⟩
  else if t = 35 then ⟨#[78, 65, 80, 84, 82]⟩
  else if t = 39 then ⟨#[68, 78, 65, 77, 69]⟩
  else if t = 41 then ⟨#[79, 80, 84]⟩
  else if t = 47 then ⟨#[78, 83, 69, 67]⟩
  else if t = 250 then ⟨#[84, 83, 73, 71]⟩
  else if t = 251 then ⟨#[73, 88, 70, 82]⟩
  else if t = 252 then ⟨#[65, 88, 70, 82]⟩
  else if t = 255 then ⟨#[65, 78, 89]⟩
  else if t = 257 then ⟨#[67, 65, 65]⟩
  else ⟨#[]⟩

def isMnem (t : Int) : Prop := t = 1 ∨ t = 2 ∨ t = 5 ∨ t = 6 ∨ t = 12 ∨ t = 13 ∨ t = 15 ∨ t = 16 ∨ t = 28 ∨ t = 33 ∨ t = 35 ∨ t = 39 ∨ t = 41 ∨ t = 47 ∨ t = 250 ∨ t = 251 ∨ t = 252 ∨ t = 255 ∨ t = 257

set_option maxRecDepth 100000 in
set_option maxHeartbeats 1600000 in
theorem l03Mnemonic_any (t : Int) (w : World) :
    Calls Tryd.prog 6 #[.int .i64 t] w fun e w' => e = .returned (.string (mnemS t)) ∧ w' = w := by
  by_cases h : isMnem t
  · unfold isMnem at h
    rcases h with rfl | rfl | rfl | rfl | rfl | rfl | rfl | rfl | rfl | rfl | rfl | rfl | rfl | rfl | rfl | rfl | rfl | rfl | rfl
    all_goals
      go_enter Tryd.func6, Tryd.ntmps6
      go_wp2
      go_ret
      exact ⟨rfl, rfl⟩
  · unfold isMnem at h
    have HA : Hid (mnemS t = ⟨#[]⟩) := by
      show _ = _
      unfold mnemS
      simp only [show ¬ t = 1 by omega, show ¬ t = 2 by omega, show ¬ t = 5 by omega, show ¬ t = 6 by omega, show ¬ t = 12 by omega, show ¬ t = 13 by omega, show ¬ t = 15 by omega, show ¬ t = 16 by omega, show ¬ t = 28 by omega, show ¬ t = 33 by omega, show ¬ t = 35 by omega, show ¬ t = 39 by omega, show ¬ t = 41 by omega, show ¬ t = 47 by omega, show ¬ t = 250 by omega, show ¬ t = 251 by omega, show ¬ t = 252 by omega, show ¬ t = 255 by omega, show ¬ t = 257 by omega, if_false]
    have b1 : (t == 1) = false := by rw [beq_eq_false_iff_ne]; omega
    have b2 : (t == 2) = false := by rw [beq_eq_false_iff_ne]; omega
    have b3 : (t == 5) = false := by rw [beq_eq_false_iff_ne]; omega
    have b4 : (t == 6) = false := by rw [beq_eq_false_iff_ne]; omega
    have b5 : (t == 12) = false := by rw [beq_eq_false_iff_ne]; omega
    have b6 : (t == 13) = false := by rw [beq_eq_false_iff_ne]; omega
    have b7 : (t == 15) = false := by rw [beq_eq_false_iff_ne]; omega
    have b8 : (t == 16) = false := by rw [beq_eq_false_iff_ne]; omega
    have b9 : (t == 28) = false := by rw [beq_eq_false_iff_ne]; omega
    have b10 : (t == 33) = false := by rw [beq_eq_false_iff_ne]; omega
    have b11 : (t == 35) = false := by rw [beq_eq_false_iff_ne]; omega
    have b12 : (t == 39) = false := by rw [beq_eq_false_iff_ne]; omega
    have b13 : (t == 41) = false := by rw [beq_eq_false_iff_ne]; omega
    have b14 : (t == 47) = false := by rw [beq_eq_false_iff_ne]; omega
    have b15 : (t == 250) = false := by rw [beq_eq_false_iff_ne]; omega
    have b16 : (t == 251) = false := by rw [beq_eq_false_iff_ne]; omega
    have b17 : (t == 252) = false := by rw [beq_eq_false_iff_ne]; omega
    have b18 : (t == 255) = false := by rw [beq_eq_false_iff_ne]; omega
    have b19 : (t == 257) = false := by rw [beq_eq_false_iff_ne]; omega
    clear h
    go_enter Tryd.func6, Tryd.ntmps6
    go_wp2
    go_ret
    rw [HA.out]
    exact ⟨rfl, rfl⟩

end Go.Proofs.YtakonfkefoeenabDoor
