/- laws.markSpanS, heldSpanS by their contracts. -/
import Derived.Test.YtakonfkefoeenafSpanL
namespace Go.Proofs.Ytakonfkefoeenaf
open Go.RowKit

set_option maxRecDepth 100000 in
set_option maxHeartbeats 800000 in
theorem markSpanS_any (v : Value) (n B k : Nat) (xs : List Value) (w : World) (hown : w.ownsRow B 66 2 v n xs) (hn : n ≤ 1000000) (hk : k ≤ 1000000) :
    Calls Try.prog 19 #[v, .int .i64 (k : Int)] w fun e w' => e = .returned (.int .i64 ((k + n * 2 : Nat) : Int)) ∧ w'.ownsRow B 66 2 v n (ints k (n * 2)) ∧ Below B w w' := by
  have hxl : xs.length = n * 2 := hown.1
  rcases Nat.eq_zero_or_pos n with h0 | hpos
  · subst h0
    obtain ⟨a, cap, rfl⟩ : ∃ a cap, v = .slice a 0 cap := by
      rcases hown.2 with ⟨rfl, _⟩ | ⟨g, cap, cur, rfl, _⟩
      · exact ⟨_, _, rfl⟩
      · exact ⟨_, _, rfl⟩
    have hx0 : xs = [] := List.length_eq_zero_iff.1 (by omega)
    subst hx0
    go_enter Try.func19, Try.ntmps19
    go_wp2
    go_loop [1, 5] (fun t i => t = .int .i64 (k : Int) ∧ i = .int .i64 0) (fun _ _ => 0)
    case atStart => exact ⟨rfl, rfl⟩
    case round =>
      obtain ⟨rfl, rfl⟩ := hrel
      go_wp2
      go_ret
      exact ⟨rfl, by simpa [ints] using hown, Below.refl _ _⟩
  · obtain ⟨g, cap, rfl, hBg⟩ : ∃ g cap, v = .slice (some ⟨g, 0, none⟩) n cap ∧ B ≤ g := by
      rcases hown.2 with ⟨rfl, h0⟩ | ⟨g, cap, cur, rfl, hb, _⟩
      · omega
      · exact ⟨g, cap, rfl, hb⟩
    go_enter Try.func19, Try.ntmps19
    go_wp2
    go_loopw [1, 5] (fun t i wr => ∃ j : Nat, j ≤ n ∧ i = .int .i64 (j : Int) ∧ t = .int .i64 ((k + j * 2 : Nat) : Int) ∧ wr.ownsRow B 66 2 (.slice (some ⟨g, 0, none⟩) n cap) n ((ints k (n * 2)).take (j * 2) ++ xs.drop (j * 2)) ∧ Below B w wr)
      (fun _ i _ => n - (intOf i).toNat)
    case atStart => exact ⟨0, Nat.zero_le _, rfl, rfl, by simpa using hown, Below.refl _ _⟩
    case round =>
      obtain ⟨j, hj, rfl, rfl, hownj, hbel⟩ := hrel
      clear hown
      by_cases hlt : j < n
      · have s1 := ints_set (k := k) hxl (i := j * 2) (by omega)
        have s2 := ints_set (k := k) hxl (i := j * 2 + 1) (by omega)
        obtain ⟨y, hy⟩ : ∃ y, wr.cell? ⟨g, j * 2, none⟩ = some y := by
          rw [hownj.cellAt (j * 2) (by omega)]
          exact ints_cell hxl (by omega)
        have o1 := (hownj.stored (j * 2) (.int .i64 ((k + j * 2 : Nat) : Int))).1
        rw [s1] at o1
        have b1 : Below B w (wr.setCell ⟨g, j * 2, none⟩ (.int .i64 ((k + j * 2 : Nat) : Int))) := hbel.setCell hBg _
        obtain ⟨z, hz⟩ : ∃ z, wr.cell? ⟨g, j * 2 + 1, none⟩ = some z := by
          rw [hownj.cellAt (j * 2 + 1) (by omega)]
          exact ints_cell hxl (by omega)
        have o2 := (o1.stored (j * 2 + 1) (.int .i64 ((k + (j * 2 + 1) : Nat) : Int))).1
        rw [s2] at o2
        have f1 := hownj.frozenAt (j * 2)
        have f2 := hownj.frozenAt (j * 2 + 1)
        have f3 := o1.frozenAt (j * 2 + 1)
        have b2 : Below B w ((wr.setCell ⟨g, j * 2, none⟩ (.int .i64 ((k + j * 2 : Nat) : Int))).setCell ⟨g, j * 2 + 1, none⟩ (.int .i64 ((k + (j * 2 + 1) : Nat) : Int))) := b1.setCell hBg _
        have c1 : ((k + j * 2 : Nat) : Int) = (k : Int) + (j : Int) * 2 := by omega
        have c2 : ((k + (j * 2 + 1) : Nat) : Int) = (k : Int) + (j : Int) * 2 + 1 := by omega
        rw [c1] at o2 b2 f3
        rw [c2] at o2 b2
        have HR := Nm.hide o2
        have HB := Nm.hide b2
        clear s1 s2 o1 o2 b1 b2 hownj c1 c2
        go_wp2
        go_roundw
        case rel => exact ⟨j + 1, by omega, by go_num, by go_num, by rw [show (j + 1) * 2 = j * 2 + 1 + 1 by omega]; exact HR.out, HB.out⟩
        case measure => simp [intOf]; omega
      · have hje : j = n := by omega
        subst hje
        rw [ints_done hxl] at hownj
        go_wp2
        go_ret
        exact ⟨rfl, hownj, hbel⟩

set_option maxRecDepth 100000 in
set_option maxHeartbeats 800000 in
theorem heldSpanS_any (v : Value) (n k : Nat) (w : World) (h : CRow w v n 2 (ints k (n * 2))) (hn : n ≤ 1000000) (hk : k ≤ 1000000) :
    Calls Try.prog 20 #[v, .int .i64 (k : Int)] w fun e w' => e = .returned (.int .i64 ((k + n * 2 : Nat) : Int)) ∧ w' = w := by
  obtain ⟨_, a, cap, rfl, hcap, hmx, hc⟩ := h
  go_enter Try.func20, Try.ntmps20
  go_wp2
  go_loop [1, 5] (fun t i => ∃ j : Nat, j ≤ n ∧ i = .int .i64 (j : Int) ∧ t = .int .i64 ((k + j * 2 : Nat) : Int))
    (fun _ i => n - (intOf i).toNat)
  case atStart => exact ⟨0, Nat.zero_le _, rfl, rfl⟩
  case round =>
    obtain ⟨j, hj, rfl, rfl⟩ := hrel
    by_cases hlt : j < n
    · obtain ⟨b, off, rfl, hcell⟩ := hc (by omega)
      have hcx := hcell (j * 2) _ (ints_get (by omega))
      have hcy := hcell (j * 2 + 1) _ (ints_get (by omega))
      rw [← Nat.add_assoc] at hcy
      rw [show ((k + j * 2 : Nat) : Int) = (k : Int) + (j : Int) * 2 by omega] at hcx
      rw [show ((k + (j * 2 + 1) : Nat) : Int) = (k : Int) + (j : Int) * 2 + 1 by omega] at hcy
      have hne : ((k : Int) + (j : Int) * 2 != (k : Int) + (j : Int) * 2) = false := by simp
      have hne2 : ((k : Int) + (j : Int) * 2 + 1 != (k : Int) + (j : Int) * 2 + 1) = false := by simp
      clear hc hcell
      go_wp2
      go_round
      case rel => exact ⟨j + 1, by omega, by go_num, by go_num⟩
      case measure => simp [intOf]; omega
    · have hje : j = n := by omega
      subst hje
      clear hc
      go_wp2
      go_ret
      exact ⟨rfl, rfl⟩
end Go.Proofs.Ytakonfkefoeenaf
