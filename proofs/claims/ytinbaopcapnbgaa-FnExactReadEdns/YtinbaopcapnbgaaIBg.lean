import Derived.Test.YtinbaopcapnbgaaICp
import Derived.Test.YtinbaopcapnbgaaByS
import Derived.Laws.OwnMore
/- impl.bigBytes at any width by its contract. -/
namespace Go.Proofs.Ytinbaopcapnbgaa
open Go.RowKit
set_option linter.unusedVariables false

def bigL (v n : Nat) : List UInt8 := (List.range n).map fun i => UInt8.ofNat (v / 2 ^ (8 * (n - 1 - i)))
def bigM (v n j : Nat) : List Value := (List.range n).map fun i => if i < j then .int .u8 ((UInt8.ofNat (v / 2 ^ (8 * (n - 1 - i)))).toNat : Int) else .int .u8 0
theorem bigM_zero (v n : Nat) : bigM v n 0 = List.replicate n (.int .u8 0) := by
  simp only [bigM, Nat.not_lt_zero, if_false]
  rw [List.map_const', List.length_range]
theorem bigM_all (v n : Nat) : bigM v n n = Nm.bys (bigL v n) := by
  simp only [bigM, bigL, Nm.bys, List.map_map]
  apply List.map_congr_left
  intro i hi
  simp [List.mem_range.1 hi]
theorem bigM_set {v n j : Nat} (h : j < n) : (bigM v n j).set j (.int .u8 ((UInt8.ofNat (v / 2 ^ (8 * (n - 1 - j)))).toNat : Int)) = bigM v n (j + 1) := by
  apply List.ext_getElem?
  intro i
  rw [List.getElem?_set]
  by_cases hi : j = i
  · subst hi
    simp [bigM, h]
  · rw [if_neg hi]
    by_cases hn : i < n
    · simp only [bigM, List.getElem?_map, List.getElem?_range hn, Option.map_some]
      by_cases h1 : i < j
      · rw [if_pos h1, if_pos (by omega)]
      · rw [if_neg h1, if_neg (by omega)]
    · simp [bigM, hn]

set_option maxRecDepth 100000 in
set_option maxHeartbeats 1600000 in
theorem bigBytesN_any (v n : Nat) (w : World) (hv : v ≤ 4611686018427387904) (hn1 : 1 ≤ n) (hn : n ≤ 8) :
    Calls Try.prog 47 #[.int .i64 (v : Int), .int .i64 (n : Int)] w fun e w' => e = .returned (.string ⟨(bigL v n).toArray⟩) ∧ Below w.heap.size w w' := by
  obtain ⟨i0, hi, hz0, hz1, hz2⟩ := info_parts Try.infoBy
  obtain ⟨wm, hmk, hownm, hgrm⟩ := run_make_full (P := Try.prog) w w.heap.size 59 5 i0 (.int .u8 0) 1 Try.underlying59 hi hz0 hz1 .i64 .i64 n (by rw [hz2]; omega) (by unfold maxLen; omega) (Nat.le_refl _)
  have hbelm : Below w.heap.size w wm := (Below.refl _ _).grown hgrm (Nat.le_refl _) (by simp)
  have hz4 : (madeCells (Value.int .u8 0).cells (n * 1)).toList = bigM v n 0 := by
    rw [bigM_zero]
    match n, hn1, hn with
    | 1, _, _ | 2, _, _ | 3, _, _ | 4, _, _ | 5, _, _ | 6, _, _ | 7, _, _ | 8, _, _ => first | rfl | (show _ = _; kernel_rfl)
  rw [hz4] at hownm
  clear hgrm hz4
  go_enter Try.func47, Try.ntmps47
  go_wp2
  go_loopw [11] (fun i wr => ∃ j : Nat, j ≤ n ∧ i = .int .i64 (j : Int) ∧ wr.ownsRow w.heap.size 5 1 (.slice (some ⟨w.heap.size, 0, none⟩) n n) n (bigM v n j) ∧ Below w.heap.size w wr) (fun i _ => (n - intOf i).toNat)
  case atStart => exact ⟨0, by omega, rfl, hownm, hbelm⟩
  case round =>
    obtain ⟨j, hj, rfl, hown, hbel⟩ := hrel
    clear hownm hbelm hmk
    by_cases hlt : j < n
    · have i1 : (0 : Int) ≤ (j : Int) := by omega
      have i2 : (j : Int) < (n : Int) := by omega
      have i3 : (n : Int) ≤ 8 := by omega
      obtain ⟨x, hx⟩ : ∃ x, (bigM v n j)[j]? = some x := by simp [bigM, hlt]
      have hc : wr.cell? ⟨w.heap.size, j, none⟩ = some x := (hown.cellAt j (by omega)).trans hx
      have hfz := hown.frozenAt j
      have hst := (hown.stored j (.int .u8 ((UInt8.ofNat (v / 2 ^ (8 * (n - 1 - j)))).toNat : Int))).1
      rw [bigM_set hlt] at hst
      have hB2 := hbel.setCell (p := ⟨w.heap.size, j, none⟩) (Nat.le_refl _) (.int .u8 ((UInt8.ofNat (v / 2 ^ (8 * (n - 1 - j)))).toNat : Int))
      clear hown hbel hx
      go_wp2
      rw [show ((v : Int) / 2 ^ (8 * (n - 1 - j)) % 256) = ((UInt8.ofNat (v / 2 ^ (8 * (n - 1 - j)))).toNat : Int) by
        rw [UInt8.toNat_ofNat', Int.natCast_emod, Int.natCast_ediv, Int.natCast_pow]
        rfl]
      go_roundw
      case rel => exact ⟨j + 1, by omega, by go_num, hst, hB2⟩
      case measure => simp [intOf]; omega
    · obtain rfl : j = n := by omega
      rw [bigM_all] at hown
      have HC := Nm.conv_own (P := Try.prog) (src := 59) (dst := 9) Try.underlying59 Try.underlying5 Try.underlying9 hown (by omega)
      obtain ⟨g, cap, hv', hcv⟩ := HC
      cases hv'
      go_wp2
      go_ret
      exact ⟨rfl, hbel⟩
end Go.Proofs.Ytinbaopcapnbgaa
