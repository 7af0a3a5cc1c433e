import Derived.Test.YtljcckcdmehipaaJPut
import Derived.Laws.OwnMore
import Derived.Test.YtljcckcdmehipaaJPut2
/- impl.bigBytes by its contract. -/
namespace Go.Proofs.Ytljcckcdmehipaa
open Go.RowKit

theorem big_set {w W : World} {n cap j : Nat} {xs ys : List Value} {u : Value} (h : w.ownsRow W.heap.size 5 1 (.slice (some ⟨W.heap.size, 0, none⟩) n cap) n xs) (hb : Below W.heap.size W w) (e : xs.set j u = ys) :
    (w.setCell ⟨W.heap.size, j, none⟩ u).ownsRow W.heap.size 5 1 (.slice (some ⟨W.heap.size, 0, none⟩) n cap) n ys ∧ Below W.heap.size W (w.setCell ⟨W.heap.size, j, none⟩ u) := by
  have := (h.stored j u).1
  rw [e] at this
  exact ⟨this, hb.setCell (Nat.le_refl _) _⟩

set_option maxRecDepth 100000 in
set_option maxHeartbeats 800000 in
theorem bigBytes4_any (n : Int) (w : World) (h0 : 0 ≤ n) (h1 : n ≤ 4294967295) :
    Calls Try.prog 64 #[.int .i64 n, .int .i64 4] w fun e w' => e = .returned (.string ⟨(put4 n).toArray⟩) ∧ Below w.heap.size w w' := by
  obtain ⟨i0, hi, hz0, hz1, hz2⟩ := info_parts Try.infoB
  have hcs := put4_cells n
  have e : n / 16777216 % 256 = n / 16777216 := by omega
  rw [e] at hcs
  clear e
  obtain ⟨wm, hmk, hownm, hgrm⟩ := run_make_full (P := Try.prog) w w.heap.size 29 5 i0 (.int .u8 0) 1 Try.underlying29 hi hz0 hz1 .i64 .i64 4 (by rw [hz2]; omega) (by unfold maxLen; omega) (Nat.le_refl _)
  have hbelm : Below w.heap.size w wm := (Below.refl _ _).grown hgrm (Nat.le_refl _) (by simp)
  have hz4 : (madeCells (Value.int .u8 0).cells (4 * 1)).toList = [.int .u8 0, .int .u8 0, .int .u8 0, .int .u8 0] := by kernel_rfl
  rw [hz4] at hownm
  rw [show ((4 : Nat) : Int) = 4 from rfl] at hmk
  clear hgrm hz4
  go_enter Try.func64, Try.ntmps64
  go_wp2
  go_loopw [11] (fun i wr => ∃ j : Nat, j ≤ 4 ∧ i = .int .i64 (j : Int) ∧ wr.ownsRow w.heap.size 5 1 (.slice (some ⟨w.heap.size, 0, none⟩) 4 4) 4 ([Value.int .u8 (n / 16777216), .int .u8 (n / 65536 % 256), .int .u8 (n / 256 % 256), .int .u8 (n % 256)].take j ++ [Value.int .u8 0, .int .u8 0, .int .u8 0, .int .u8 0].drop j) ∧ Below w.heap.size w wr)
    (fun i _ => (4 - intOf i).toNat)
  case atStart => exact ⟨0, by omega, rfl, hownm, hbelm⟩
  case round =>
    obtain ⟨j, hj, rfl, hown, hbel⟩ := hrel
    clear hownm hbelm hmk
    obtain rfl | rfl | rfl | rfl | rfl : j = 0 ∨ j = 1 ∨ j = 2 ∨ j = 3 ∨ j = 4 := by omega
    · simp only [List.take_zero, List.drop_zero, List.nil_append, Int.cast_ofNat_Int] at hown ⊢
      have hc : wr.cell? ⟨w.heap.size, 0, none⟩ = some (.int .u8 0) := (hown.cellAt 0 (by omega)).trans rfl
      have hfz := hown.frozenAt 0
      have R := Nm.hide (big_set (j := 0) (u := .int .u8 (n / 16777216)) hown hbel rfl)
      clear hown hbel
      go_wp2
      go_roundw
      case rel => exact ⟨1, by omega, by go_num, R.out.1, R.out.2⟩
      case measure => simp [intOf]
    · simp only [List.take_succ_cons, List.take_zero, List.drop_succ_cons, List.drop_zero, List.cons_append, List.nil_append, Int.cast_ofNat_Int] at hown ⊢
      have hc : wr.cell? ⟨w.heap.size, 1, none⟩ = some (.int .u8 0) := (hown.cellAt 1 (by omega)).trans rfl
      have hfz := hown.frozenAt 1
      have R := Nm.hide (big_set (j := 1) (u := .int .u8 (n / 65536 % 256)) hown hbel rfl)
      clear hown hbel
      go_wp2
      go_roundw
      case rel => exact ⟨2, by omega, by go_num, R.out.1, R.out.2⟩
      case measure => simp [intOf]
    · simp only [List.take_succ_cons, List.take_zero, List.drop_succ_cons, List.drop_zero, List.cons_append, List.nil_append, Int.cast_ofNat_Int] at hown ⊢
      have hc : wr.cell? ⟨w.heap.size, 2, none⟩ = some (.int .u8 0) := (hown.cellAt 2 (by omega)).trans rfl
      have hfz := hown.frozenAt 2
      have R := Nm.hide (big_set (j := 2) (u := .int .u8 (n / 256 % 256)) hown hbel rfl)
      clear hown hbel
      go_wp2
      go_roundw
      case rel => exact ⟨3, by omega, by go_num, R.out.1, R.out.2⟩
      case measure => simp [intOf]
    · simp only [List.take_succ_cons, List.take_zero, List.drop_succ_cons, List.drop_zero, List.cons_append, List.nil_append, Int.cast_ofNat_Int] at hown ⊢
      have hc : wr.cell? ⟨w.heap.size, 3, none⟩ = some (.int .u8 0) := (hown.cellAt 3 (by omega)).trans rfl
      have hfz := hown.frozenAt 3
      have R := Nm.hide (big_set (j := 3) (u := .int .u8 (n % 256)) hown hbel rfl)
      clear hown hbel
      go_wp2
      go_roundw
      case rel => exact ⟨4, by omega, by go_num, R.out.1, R.out.2⟩
      case measure => simp [intOf]
    · simp only [List.take_succ_cons, List.take_zero, List.drop_succ_cons, List.drop_zero, List.append_nil, Int.cast_ofNat_Int] at hown ⊢
      rw [← hcs] at hown
      have HC := Nm.conv_own (P := Try.prog) (src := 29) (dst := 9) Try.underlying29 Try.underlying5 Try.underlying9 hown (by omega)
      obtain ⟨g, cap, hv, hcv⟩ := HC
      cases hv
      clear hown
      go_wp2
      go_ret
      exact ⟨rfl, hbel⟩
end Go.Proofs.Ytljcckcdmehipaa
/- impl.bigBytes at width 2 by its contract. -/
namespace Go.Proofs.Ytljcckcdmehipaa
open Go.RowKit

set_option maxRecDepth 100000 in
set_option maxHeartbeats 800000 in
theorem bigBytes2_any (n : Nat) (w : World) (hn : n < 65536) :
    Calls Try.prog 64 #[.int .i64 (n : Int), .int .i64 2] w fun e w' => e = .returned (.string ⟨(put2 n).toArray⟩) ∧ Below w.heap.size w w' := by
  obtain ⟨i0, hi, hz0, hz1, hz2⟩ := info_parts Try.infoB
  have hcs := put2_cells hn
  have hn' : (n : Int) < 65536 := by omega
  obtain ⟨wm, hmk, hownm, hgrm⟩ := run_make_full (P := Try.prog) w w.heap.size 29 5 i0 (.int .u8 0) 1 Try.underlying29 hi hz0 hz1 .i64 .i64 2 (by rw [hz2]; omega) (by unfold maxLen; omega) (Nat.le_refl _)
  have hbelm : Below w.heap.size w wm := (Below.refl _ _).grown hgrm (Nat.le_refl _) (by simp)
  have hz4 : (madeCells (Value.int .u8 0).cells (2 * 1)).toList = [.int .u8 0, .int .u8 0] := by kernel_rfl
  rw [hz4] at hownm
  rw [show ((2 : Nat) : Int) = 2 from rfl] at hmk
  clear hgrm hz4
  go_enter Try.func64, Try.ntmps64
  go_wp2
  go_loopw [11] (fun i wr => ∃ j : Nat, j ≤ 2 ∧ i = .int .i64 (j : Int) ∧ wr.ownsRow w.heap.size 5 1 (.slice (some ⟨w.heap.size, 0, none⟩) 2 2) 2 ([Value.int .u8 ((n : Int) / 256), .int .u8 ((n : Int) % 256)].take j ++ [Value.int .u8 0, .int .u8 0].drop j) ∧ Below w.heap.size w wr)
    (fun i _ => (2 - intOf i).toNat)
  case atStart => exact ⟨0, by omega, rfl, hownm, hbelm⟩
  case round =>
    obtain ⟨j, hj, rfl, hown, hbel⟩ := hrel
    clear hownm hbelm hmk
    obtain rfl | rfl | rfl : j = 0 ∨ j = 1 ∨ j = 2 := by omega
    · simp only [List.take_zero, List.drop_zero, List.nil_append, Int.cast_ofNat_Int] at hown ⊢
      have hc : wr.cell? ⟨w.heap.size, 0, none⟩ = some (.int .u8 0) := (hown.cellAt 0 (by omega)).trans rfl
      have hfz := hown.frozenAt 0
      have R := Nm.hide (big_set (j := 0) (u := .int .u8 ((n : Int) / 256)) hown hbel rfl)
      clear hown hbel
      go_wp2
      go_roundw
      case rel => exact ⟨1, by omega, by go_num, R.out.1, R.out.2⟩
      case measure => simp [intOf]
    · simp only [List.take_succ_cons, List.take_zero, List.drop_succ_cons, List.drop_zero, List.cons_append, List.nil_append, Int.cast_ofNat_Int] at hown ⊢
      have hc : wr.cell? ⟨w.heap.size, 1, none⟩ = some (.int .u8 0) := (hown.cellAt 1 (by omega)).trans rfl
      have hfz := hown.frozenAt 1
      have R := Nm.hide (big_set (j := 1) (u := .int .u8 ((n : Int) % 256)) hown hbel rfl)
      clear hown hbel
      go_wp2
      go_roundw
      case rel => exact ⟨2, by omega, by go_num, R.out.1, R.out.2⟩
      case measure => simp [intOf]
    · simp only [List.take_succ_cons, List.take_zero, List.drop_succ_cons, List.drop_zero, List.append_nil, Int.cast_ofNat_Int] at hown ⊢
      rw [← hcs] at hown
      have HC := Nm.conv_own (P := Try.prog) (src := 29) (dst := 9) Try.underlying29 Try.underlying5 Try.underlying9 hown (by omega)
      obtain ⟨g, cap, hv, hcv⟩ := HC
      cases hv
      clear hown
      go_wp2
      go_ret
      exact ⟨rfl, hbel⟩
end Go.Proofs.Ytljcckcdmehipaa
