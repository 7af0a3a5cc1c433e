/- spec.l03Number by its contract. -/
import Derived.Test.YtakonfkefoeenafDoorTxtM
import Derived.Test.YtakonfkefoeenafDoorSDig
namespace Go.Proofs.YtakonfkefoeenafDoor
open Go.RowKit

/-- A number and whether there is one, as Go tells them. -/
def numV (o : Option Nat) : Value := .tuple #[.int .i64 ((o.getD 0 : Nat) : Int), .bool o.isSome]

theorem numD_take {s : ByteArray} {k : Nat} (hk : k ≤ s.size) (h : ∀ j, j < k → (hj : j < s.size) → Nm.digB s[j] = true) : numD (s.data.toList.take k) < 10 ^ k := by
  have h1 := numD_lt (s.data.toList.take k) (by
    intro c hc
    obtain ⟨i, hi⟩ := List.getElem?_of_mem hc
    rw [List.getElem?_take] at hi
    split at hi
    · rename_i hik
      have hl : i < s.size := by omega
      rw [Nm.get_data hl] at hi
      simp at hi
      rw [← hi]
      exact h i hik hl
    · cases hi)
  have hz : (s.data.toList.take k).length = k := by simp; omega
  rwa [hz] at h1

set_option maxRecDepth 100000 in
set_option maxHeartbeats 800000 in
theorem l03Number_any (s : ByteArray) (most : Nat) (w : World) (hm : most ≤ 17) :
    Calls Tryd.prog 17 #[.string s, .int .i64 (most : Int)] w fun e w' => e = .returned (numV (numO s most)) ∧ w' = w := by
  by_cases h1 : s.size < 1
  · have HN : Hid (numV (numO s most) = .tuple #[.int .i64 0, .bool false]) := by show _ = _; rw [numO_len (by omega)]; rfl
    have h1' : (s.size : Int) < 1 := by omega
    go_enter Tryd.func17, Tryd.ntmps17
    go_wp2
    go_ret2
    rw [HN.out]
    exact ⟨rfl, rfl⟩
  have h1' : (1 : Int) ≤ (s.size : Int) := by omega
  by_cases h2 : most < s.size
  · have HN : Hid (numV (numO s most) = .tuple #[.int .i64 0, .bool false]) := by show _ = _; rw [numO_len (by omega)]; rfl
    have h2' : (most : Int) < (s.size : Int) := by omega
    go_enter Tryd.func17, Tryd.ntmps17
    go_wp2
    go_ret2
    rw [HN.out]
    exact ⟨rfl, rfl⟩
  have h2' : (s.size : Int) ≤ (most : Int) := by omega
  go_enter Tryd.func17, Tryd.ntmps17
  go_wp2
  go_loop [6, 7] (fun u v => ∃ k : Nat, k ≤ s.size ∧ v = .int .i64 k ∧ u = .int .i64 ((numD (s.data.toList.take k) : Nat) : Int) ∧ ∀ j, j < k → (hj : j < s.size) → Nm.digB s[j] = true) (fun _ v => s.size - (intOf v).toNat)
  case atStart => exact ⟨0, Nat.zero_le _, rfl, rfl, fun j h => by omega⟩
  case round =>
    obtain ⟨k, hk, rfl, rfl, hd⟩ := hrel
    by_cases hlt : k < s.size
    · have hlt' : (k : Int) < (s.size : Int) := by omega
      have hdig := l01Digit_any s[k]
      have hlim := numD_take hk hd
      have hp17 : 10 ^ k ≤ 10 ^ 17 := Nat.pow_le_pow_right (by decide) (by omega)
      have hp : (10 : Nat) ^ 17 = 100000000000000000 := by decide
      have hb : numD (s.data.toList.take k) < 100000000000000000 := by omega
      clear hlim hp17 hp
      cases hD : Nm.digB s[k] with
      | false =>
        have HN : Hid (numV (numO s most) = .tuple #[.int .i64 0, .bool false]) := by show _ = _; rw [numO_bad hlt hD]; rfl
        rw [hD] at hdig
        clear hD hd
        generalize numD (s.data.toList.take k) = m at *
        go_wp2_with (go_at_call 19; refine (hdig _).mono ?_; rintro e w1 ⟨rfl, hw⟩; obtain rfl : w = w1 := hw.symm; clear hw)
        go_ret2
        rw [HN.out]
        exact ⟨rfl, rfl⟩
      | true =>
        have hc : 48 ≤ s[k].toNat ∧ s[k].toNat ≤ 57 := by simp [Nm.digB] at hD; omega
        have hc1 : (48 : Int) ≤ (s[k].toNat : Int) := by omega
        have hc2 : (s[k].toNat : Int) ≤ 57 := by omega
        have e1 : s.data.toList.take (k + 1) = s.data.toList.take k ++ [s[k]] := Nm.take_step (Nm.get_data hlt)
        have e2 := numD_snoc (s.data.toList.take k) s[k]
        rw [← e1] at e2
        have HD : Hid (∀ j, j < k + 1 → (hj : j < s.size) → Nm.digB s[j] = true) := by
          show ∀ j, _
          intro j hj hjs
          by_cases e : j = k
          · subst e; exact hD
          · exact hd j (by omega) hjs
        have HV : Hid (((numD (s.data.toList.take (k + 1)) : Nat) : Int) = (numD (s.data.toList.take k) : Int) * 10 + ((s[k].toNat : Int) - 48)) := by
          show _ = _
          rw [e2]; omega
        rw [hD] at hdig
        clear hD hd e1 e2
        generalize numD (s.data.toList.take k) = m at *
        go_wp2_with (go_at_call 19; refine (hdig _).mono ?_; rintro e w1 ⟨rfl, hw⟩; obtain rfl : w = w1 := hw.symm; clear hw)
        go_round
        case rel => exact ⟨k + 1, by omega, by go_num, by rw [HV.out], HD.out⟩
        case measure => simp [intOf]; omega
    · have hlt' : (s.size : Int) ≤ (k : Int) := by omega
      have hks : k = s.size := by omega
      have HN : Hid (numV (numO s most) = .tuple #[.int .i64 ((numD (s.data.toList.take k) : Nat) : Int), .bool true]) := by
        show _ = _
        rw [numO_good (by omega) (by omega) (fun j hj => hd j (by omega) hj), hks, List.take_of_length_le (by simp)]; rfl
      clear hd
      generalize numD (s.data.toList.take k) = m at *
      go_wp2
      go_ret2
      rw [HN.out]
      exact ⟨rfl, rfl⟩
end Go.Proofs.YtakonfkefoeenafDoor
