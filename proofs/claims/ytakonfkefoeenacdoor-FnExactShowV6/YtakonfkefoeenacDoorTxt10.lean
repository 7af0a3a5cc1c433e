/- spec.l03Row by its contract. -/
import Derived.Test.YtakonfkefoeenacDoorTxt9
import Derived.Test.YtakonfkefoeenacDoorData4
import Derived.Test.YtakonfkefoeenacDoorGrpM
namespace Go.Proofs.YtakonfkefoeenacDoor
open Go.RowKit

set_option maxRecDepth 100000 in
set_option maxHeartbeats 1600000 in
theorem l03Row_any (s : ByteArray) (a b : Nat) (w : World) (hs : s.size = 16) (hab : a ≤ b) (hb : b ≤ 8) :
    Calls Tryd.prog 6 #[.string s, .int .i64 (a : Int), .int .i64 (b : Int)] w fun e w' => e = .returned (.string (rowS s a (b - a))) ∧ ∃ m, w' = w.drewN m := by
  have hs' : (s.size : Int) = 16 := by omega
  obtain ⟨Z, HZ⟩ : ∃ Z, Hid (Z = rowS s a (b - a)) := ⟨_, rfl⟩
  rw [← HZ.out]
  go_enter Tryd.func6, Tryd.ntmps6
  go_wp2
  go_loopw [7, 8] (fun u v wr => ∃ k m : Nat, a + k ≤ b ∧ v = .int .i64 ((a : Int) + (k : Int)) ∧ u = .string (rowS s a k) ∧ wr = w.drewN m) (fun _ v _ => b - (intOf v).toNat)
  case atStart => exact ⟨0, 0, by omega, by go_num, rfl, rfl⟩
  case round =>
    obtain ⟨k, m, hk, rfl, rfl, rfl⟩ := hrel
    have hz := rowS_size s a k
    by_cases hlt : a + k < b
    · have hlt' : (a : Int) + (k : Int) < (b : Int) := by omega
      have hg := grp_lt s (a + k)
      have hx := hexS_size hg
      have hno := fun W => l02Num_any (s.extract (2 * (a + k)) (2 * (a + k) + 2)) W (by simp; omega)
      have hhx := fun W => l03HexOf_any (grp s (a + k)) W hg
      have e1 : numL (s.extract (2 * (a + k)) (2 * (a + k) + 2)).data.toList = grp s (a + k) := rfl
      rw [e1] at hno
      obtain ⟨E, HEE, hno⟩ : ∃ E, Hid (E = s.extract (2 * (a + k)) (2 * (a + k) + 2)) ∧ ∀ W, Calls Tryd.prog 12 #[.string E] W fun e w' => e = .returned (.int .i64 ((grp s (a + k) : Nat) : Int)) ∧ w' = W := ⟨_, rfl, hno⟩
      have hcut : s.extract (2 * ((a : Int) + (k : Int))).toNat (2 * ((a : Int) + (k : Int)) + 2).toNat = E := by
        rw [HEE.out]; congr 1
      by_cases h0 : 0 < k
      · have h0' : (a : Int) < (a : Int) + (k : Int) := by omega
        have HR : Hid (rowS s a (k + 1) = rowS s a k ++ ⟨#[58]⟩ ++ hexS (grp s (a + k))) := by show _ = _; rw [rowS, if_pos h0]
        clear e1
        generalize hexS (grp s (a + k)) = X at *
        generalize grp s (a + k) = G at *
        generalize rowS s a k = Y at *
        go_wp2_with (first | (go_at_call 12; refine (hno _).mono ?_; rintro e w1 ⟨rfl, hw⟩; obtain rfl : w.drewN m = w1 := hw.symm; clear hw) | (go_at_call 11; refine (hhx _).mono ?_; rintro e w1 ⟨rfl, m2, rfl⟩))
        go_roundw
        case rel => exact ⟨k + 1, m + m2, by omega, by go_num, by rw [HR.out], rfl⟩
        case measure => simp [intOf]; omega
      · have h0' : (a : Int) + (k : Int) ≤ (a : Int) := by omega
        have HR : Hid (rowS s a (k + 1) = rowS s a k ++ hexS (grp s (a + k))) := by show _ = _; rw [rowS, if_neg h0]
        clear e1
        generalize hexS (grp s (a + k)) = X at *
        generalize grp s (a + k) = G at *
        generalize rowS s a k = Y at *
        go_wp2_with (first | (go_at_call 12; refine (hno _).mono ?_; rintro e w1 ⟨rfl, hw⟩; obtain rfl : w.drewN m = w1 := hw.symm; clear hw) | (go_at_call 11; refine (hhx _).mono ?_; rintro e w1 ⟨rfl, m2, rfl⟩))
        go_roundw
        case rel => exact ⟨k + 1, m + m2, by omega, by go_num, by rw [HR.out], rfl⟩
        case measure => simp [intOf]; omega
    · have hlt' : (b : Int) ≤ (a : Int) + (k : Int) := by omega
      have e : b - a = k := by omega
      have HN : Hid (Z = rowS s a k) := by show _ = _; rw [HZ.out, e]
      clear e
      go_wp2
      go_ret
      rw [HN.out]
      exact ⟨rfl, _, rfl⟩
end Go.Proofs.YtakonfkefoeenacDoor
