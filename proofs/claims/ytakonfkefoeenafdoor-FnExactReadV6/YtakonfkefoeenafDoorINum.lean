/- impl.readNumber by its contract. -/
import Derived.Test.YtakonfkefoeenafDoorTxt2
import Derived.Test.YtakonfkefoeenafDoorIDig
import Derived.Test.YtakonfkefoeenafDoorMapM
namespace Go.Proofs.YtakonfkefoeenafDoor
open Go.RowKit

set_option maxRecDepth 100000 in
set_option maxHeartbeats 800000 in
theorem readNumber_any (s : ByteArray) (most : Nat) (w : World) (hm : most ≤ 17) :
    Calls Tryd.prog 23 #[.string s, .int .i64 (most : Int)] w fun e w' => e = .returned (numV (numO s most)) ∧ w' = w := by
  by_cases h1 : s.size < 1
  · have HN : Hid (numV (numO s most) = .tuple #[.int .i64 0, .bool false]) := by show _ = _; rw [numO_len (by omega)]; rfl
    obtain ⟨h1', _⟩ := beq_empty (s := s) (by omega)
    go_enter Tryd.func23, Tryd.ntmps23
    go_wp2
    go_ret2
    rw [HN.out]
    exact ⟨rfl, rfl⟩
  obtain ⟨h1', _⟩ := not_empty (s := s) (by omega)
  by_cases h2 : most < s.size
  · have HN : Hid (numV (numO s most) = .tuple #[.int .i64 0, .bool false]) := by show _ = _; rw [numO_len (by omega)]; rfl
    have h2' : (most : Int) < (s.size : Int) := by omega
    go_enter Tryd.func23, Tryd.ntmps23
    go_wp2
    go_ret2
    rw [HN.out]
    exact ⟨rfl, rfl⟩
  have h2' : (s.size : Int) ≤ (most : Int) := by omega
  go_enter Tryd.func23, Tryd.ntmps23
  go_wp2
  go_loop [6, 18] (fun u v => ∃ k : Nat, k ≤ s.size ∧ v = .int .i64 k ∧ u = .int .i64 ((numD (s.data.toList.take k) : Nat) : Int) ∧ ∀ j, j < k → (hj : j < s.size) → Nm.digB s[j] = true) (fun _ v => s.size - (intOf v).toNat)
  case atStart => exact ⟨0, Nat.zero_le _, rfl, rfl, fun j h => by omega⟩
  case round =>
    obtain ⟨k, hk, rfl, rfl, hd⟩ := hrel
    by_cases hlt : k < s.size
    · have hlt' : (k : Int) < (s.size : Int) := by omega
      have hdig := isDigit_any s[k]
      have hlim := numD_take hk hd
      have hp17 : 10 ^ k ≤ 10 ^ 17 := Nat.pow_le_pow_right (by decide) (by omega)
      have hp : (10 : Nat) ^ 17 = 100000000000000000 := by decide
      have hb : numD (s.data.toList.take k) < 100000000000000000 := by omega
      clear hlim hp17 hp
      cases hD : Nm.digB s[k] with
      | false =>
        have HN : Hid (numV (numO s most) = .tuple #[.int .i64 0, .bool false]) := by show _ = _; rw [numO_bad hlt hD]; rfl
        rw [hD] at hdig
        clear hD hd
        generalize numD (s.data.toList.take k) = m at *
        go_wp2_with (go_at_call 32; refine (hdig _).mono ?_; rintro e w1 ⟨rfl, hw⟩; obtain rfl : w = w1 := hw.symm; clear hw)
        go_ret2
        rw [HN.out]
        exact ⟨rfl, rfl⟩
      | true =>
        have hc : 48 ≤ s[k].toNat ∧ s[k].toNat ≤ 57 := by simp [Nm.digB] at hD; omega
        have hc1 : (48 : Int) ≤ (s[k].toNat : Int) := by omega
        have hc2 : (s[k].toNat : Int) ≤ 57 := by omega
        have e1 : s.data.toList.take (k + 1) = s.data.toList.take k ++ [s[k]] := Nm.take_step (Nm.get_data hlt)
        have e2 := numD_snoc (s.data.toList.take k) s[k]
        rw [← e1] at e2
        have HD : Hid (∀ j, j < k + 1 → (hj : j < s.size) → Nm.digB s[j] = true) := by
          show ∀ j, _
          intro j hj hjs
          by_cases e : j = k
          · subst e; exact hD
          · exact hd j (by omega) hjs
        have HV : Hid (((numD (s.data.toList.take (k + 1)) : Nat) : Int) = (numD (s.data.toList.take k) : Int) * 10 + ((s[k].toNat : Int) - 48)) := by
          show _ = _
          rw [e2]; omega
        rw [hD] at hdig
        clear hD hd e1 e2
        generalize numD (s.data.toList.take k) = m at *
        go_wp2_with (go_at_call 32; refine (hdig _).mono ?_; rintro e w1 ⟨rfl, hw⟩; obtain rfl : w = w1 := hw.symm; clear hw)
        go_round
        case rel => exact ⟨k + 1, by omega, by go_num, by rw [HV.out]; go_num, HD.out⟩
        case measure => simp [intOf]; omega
    · have hlt' : (s.size : Int) ≤ (k : Int) := by omega
      have hks : k = s.size := by omega
      have HN : Hid (numV (numO s most) = .tuple #[.int .i64 ((numD (s.data.toList.take k) : Nat) : Int), .bool true]) := by
        show _ = _
        rw [numO_good (by omega) (by omega) (fun j hj => hd j (by omega) hj), hks, List.take_of_length_le (by simp)]; rfl
      clear hd
      generalize numD (s.data.toList.take k) = m at *
      go_wp2
      go_ret2
      rw [HN.out]
      exact ⟨rfl, rfl⟩
end Go.Proofs.YtakonfkefoeenafDoor
