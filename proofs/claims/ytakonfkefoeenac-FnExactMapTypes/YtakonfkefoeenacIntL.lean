/- laws.markInt64S, heldInt64S by their contracts. -/
import Derived.Test.YtakonfkefoeenacIntE
namespace Go.Proofs.Ytakonfkefoeenac
open Go.RowKit

set_option maxRecDepth 100000 in
set_option maxHeartbeats 800000 in
theorem markInt64S_any (v : Value) (n B k : Nat) (xs : List Value) (w : World) (hown : w.ownsRow B 2 1 v n xs) (hn : n ≤ 1000000000) (hk : k ≤ 1000000) :
    Calls Try.prog 11 #[v, .int .i64 (k : Int)] w fun e w' => e = .returned (.int .i64 ((k + n : Nat) : Int)) ∧ w'.ownsRow B 2 1 v n (ints k n) ∧ Below B w w' := by
  have hxl : xs.length = n := by have := hown.1; omega
  rcases Nat.eq_zero_or_pos n with h0 | hpos
  · subst h0
    obtain ⟨a, cap, rfl⟩ : ∃ a cap, v = .slice a 0 cap := by
      rcases hown.2 with ⟨rfl, _⟩ | ⟨g, cap, cur, rfl, _⟩
      · exact ⟨_, _, rfl⟩
      · exact ⟨_, _, rfl⟩
    have hx0 : xs = [] := List.length_eq_zero_iff.1 hxl
    subst hx0
    go_enter Try.func11, Try.ntmps11
    go_wp2
    go_loop [1, 5] (fun t i => t = .int .i64 (k : Int) ∧ i = .int .i64 0) (fun _ _ => 0)
    case atStart => exact ⟨rfl, rfl⟩
    case round =>
      obtain ⟨rfl, rfl⟩ := hrel
      go_wp2
      go_ret
      exact ⟨rfl, by simpa [ints] using hown, Below.refl _ _⟩
  · obtain ⟨g, cap, rfl, hBg⟩ : ∃ g cap, v = .slice (some ⟨g, 0, none⟩) n cap ∧ B ≤ g := by
      rcases hown.2 with ⟨rfl, h0⟩ | ⟨g, cap, cur, rfl, hb, _⟩
      · omega
      · exact ⟨g, cap, rfl, hb⟩
    go_enter Try.func11, Try.ntmps11
    go_wp2
    go_loopw [1, 5] (fun t i wr => ∃ j : Nat, j ≤ n ∧ i = .int .i64 (j : Int) ∧ t = .int .i64 ((k + j : Nat) : Int) ∧ wr.ownsRow B 2 1 (.slice (some ⟨g, 0, none⟩) n cap) n ((ints k n).take j ++ xs.drop j) ∧ Below B w wr)
      (fun _ i _ => n - (intOf i).toNat)
    case atStart => exact ⟨0, Nat.zero_le _, rfl, rfl, by simpa using hown, Below.refl _ _⟩
    case round =>
      obtain ⟨j, hj, rfl, rfl, hownj, hbel⟩ := hrel
      clear hown
      by_cases hlt : j < n
      · have HSET := Nm.hide (ints_set (k := k) hxl hlt)
        obtain ⟨y, hy⟩ : ∃ y, wr.cell? ⟨g, j, none⟩ = some y := by
          rw [hownj.cellAt j (by omega)]
          exact ints_cell hxl hlt
        have hst := hownj.stored j (.int .i64 ((k + j : Nat) : Int))
        rw [HSET.out] at hst
        have hfz := hownj.frozenAt j
        have HR := Nm.hide hst.1
        have HB : Hid (Below B w (wr.setCell ⟨g, j, none⟩ (.int .i64 ((k + j : Nat) : Int)))) := hbel.setCell hBg _
        clear hst hownj HSET
        go_wp2
        go_roundw
        case rel => exact ⟨j + 1, by omega, by go_num, by go_num, HR.out, HB.out⟩
        case measure => simp [intOf]; omega
      · have hje : j = n := by omega
        subst hje
        rw [ints_done hxl] at hownj
        go_wp2
        go_ret
        exact ⟨rfl, hownj, hbel⟩

set_option maxRecDepth 100000 in
set_option maxHeartbeats 800000 in
theorem heldInt64S_any (v : Value) (n k : Nat) (w : World) (h : CRow w v n 1 (ints k n)) (hn : n ≤ 1000000000) (hk : k ≤ 1000000) :
    Calls Try.prog 12 #[v, .int .i64 (k : Int)] w fun e w' => e = .returned (.int .i64 ((k + n : Nat) : Int)) ∧ w' = w := by
  obtain ⟨_, a, cap, rfl, hcap, hmx, hc⟩ := h
  go_enter Try.func12, Try.ntmps12
  go_wp2
  go_loop [1, 5] (fun t i => ∃ j : Nat, j ≤ n ∧ i = .int .i64 (j : Int) ∧ t = .int .i64 ((k + j : Nat) : Int))
    (fun _ i => n - (intOf i).toNat)
  case atStart => exact ⟨0, Nat.zero_le _, rfl, rfl⟩
  case round =>
    obtain ⟨j, hj, rfl, rfl⟩ := hrel
    by_cases hlt : j < n
    · obtain ⟨b, off, rfl, hcell⟩ := hc (by omega)
      have hcx := hcell j _ (ints_get hlt)
      have hne : (((k + j : Nat) : Int) != ((k + j : Nat) : Int)) = false := by simp
      have hne2 : ((k : Int) + (j : Int) != (k : Int) + (j : Int)) = false := by simp
      clear hc hcell
      go_wp2
      go_round
      case rel => exact ⟨j + 1, by omega, by go_num, by go_num⟩
      case measure => simp [intOf]; omega
    · have hje : j = n := by omega
      subst hje
      clear hc
      go_wp2
      go_ret
      exact ⟨rfl, rfl⟩
end Go.Proofs.Ytakonfkefoeenac
