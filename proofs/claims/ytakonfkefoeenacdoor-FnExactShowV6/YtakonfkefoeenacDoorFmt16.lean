/- strconv.FormatInt at base 16, below 65536, by its contract. -/
import Derived.Test.YtakonfkefoeenacDoorHexM
import Derived.Test.YtakonfkefoeenacDoorBytesRow
import Derived.Test.YtakonfkefoeenacDoorLaidM
import Derived.Test.YtakonfkefoeenacDoorSer1
import Derived.Lib.SmallJoins
namespace Go.Proofs.YtakonfkefoeenacDoor
open Go.RowKit

def tz64 : List Int := [0, 1, 56, 2, 57, 49, 28, 3, 61, 58, 42, 50, 38, 29, 17, 4, 62, 47, 59, 36, 45, 43, 51, 22, 53, 39, 33, 30, 24, 18, 12, 5, 63, 55, 48, 27, 60, 41, 37, 16, 46, 35, 44, 21, 52, 32, 23, 11, 54, 26, 40, 15, 34, 20, 31, 10, 25, 14, 19, 9, 13, 8, 7, 6]
/-- The table that math/bits reads. -/
abbrev BruTab (w : World) : Prop := Lib.TabIs Tryd.prog w "math/bits.deBruijn64tab" .u8 tz64

set_option maxRecDepth 100000 in
set_option maxHeartbeats 400000 in
theorem tz16_any (w : World) (h : BruTab w) :
    Calls Tryd.prog 27 #[.int .u64 16] w fun e w' => e = .returned (.int .i64 4) ∧ w' = w := by
  have hc : w.cell? ⟨3, 15, none⟩ = some (.int .u8 4) := Lib.TabIs.cell h (by kernel_rfl) 15 (by decide)
  have a0 : IntKind.u64.wrap (-16) = 18446744073709551600 := by kernel_rfl
  have a2 : IntKind.u64.wrap (16 * 285870213051353865) = 4573923408821661840 := by kernel_rfl
  have a3 : IntKind.u64.wrap 4573923408821661840 = 4573923408821661840 := by kernel_rfl
  have a1 : bits .and .u64 16 18446744073709551600 = 16 := by kernel_rfl
  go_enter Tryd.func27, Tryd.ntmps27
  go_wp2
  go_ret
  exact ⟨rfl, rfl⟩

theorem pow16_any (w : World) : Calls Tryd.prog 26 #[.int .i64 16] w fun e w' => e = .returned (.bool true) ∧ w' = w := by
  have a1 : bits .and .i64 16 15 = 0 := by kernel_rfl
  go_enter Tryd.func26, Tryd.ntmps26
  go_wp2
  go_ret
  exact ⟨rfl, rfl⟩

/-- The library's digits. -/
def digLit : ByteArray := ⟨#[48, 49, 50, 51, 52, 53, 54, 55, 56, 57, 97, 98, 99, 100, 101, 102, 103, 104, 105, 106, 107, 108, 109, 110, 111, 112, 113, 114, 115, 116, 117, 118, 119, 120, 121, 122]⟩
theorem dig_index (k : Nat) (hk : k < 16) (W : World) : (Instr.index 9 (.string digLit) (.int .u64 (k : Int))).run Tryd.prog W = .ok (.int .u8 (hexD k).toNat) W := by
  obtain rfl | rfl | rfl | rfl | rfl | rfl | rfl | rfl | rfl | rfl | rfl | rfl | rfl | rfl | rfl | rfl : k = 0 ∨ k = 1 ∨ k = 2 ∨ k = 3 ∨ k = 4 ∨ k = 5 ∨ k = 6 ∨ k = 7 ∨ k = 8 ∨ k = 9 ∨ k = 10 ∨ k = 11 ∨ k = 12 ∨ k = 13 ∨ k = 14 ∨ k = 15 := by omega
  all_goals kernel_rfl
theorem and15 (u : Nat) (h : u < 65536) : bits .and .u64 (u : Int) 15 = ((u % 16 : Nat) : Int) := by
  show IntKind.u64.wrap ((BitVec.ofInt 64 (u : Int) &&& BitVec.ofInt 64 15).toNat : Int) = _
  have e : (BitVec.ofInt 64 (u : Int) &&& BitVec.ofInt 64 15).toNat = u % 16 := by
    rw [BitVec.toNat_and, ofInt_u64 u (by omega)]
    have : (BitVec.ofInt 64 15).toNat = 2 ^ 4 - 1 := by decide
    rw [this, Nat.and_two_pow_sub_one_eq_mod]
  rw [e]
  simp only [IntKind.wrap, IntKind.bits, IntKind.signed]
  simp
  omega

/-- How far the writing has come: u is still to be told, t is told. -/
def HexAt (n u j : Nat) (t : List UInt8) : Prop := hexL n = hexL u ++ t ∧ t.length = j ∧ (j = 0 ∧ u < 65536 ∨ j = 1 ∧ u < 4096 ∨ j = 2 ∧ u < 256 ∨ j = 3 ∧ u < 16)
theorem hexAt_start {n : Nat} (h : n < 65536) : HexAt n n 0 [] := ⟨by simp, rfl, by omega⟩
theorem hexAt_next {n u j : Nat} {t : List UInt8} (h : HexAt n u j t) (hu : 16 ≤ u) : HexAt n (u / 16) (j + 1) (hexD (u % 16) :: t) := by
  obtain ⟨h1, h2, h3⟩ := h
  refine ⟨?_, by simp [h2], by omega⟩
  rw [h1, hexL_step (by omega), List.append_assoc]; rfl
theorem hexAt_end {n u j : Nat} {t : List UInt8} (h : HexAt n u j t) (hu : u < 16) : hexL n = hexD u :: t := by
  rw [h.1, hexL_small hu]; rfl
theorem hexAt_j {n u j : Nat} {t : List UInt8} (h : HexAt n u j t) : j ≤ 3 ∧ u < 65536 := by have := h.2.2; omega

theorem tail_set {l t : List UInt8} {j : Nat} {d : UInt8} (hl : l.length = 65) (hj : j ≤ 3) (h : l.drop (65 - j) = t) : (l.set (65 - j - 1) d).length = 65 ∧ (l.set (65 - j - 1) d).drop (65 - (j + 1)) = d :: t := by
  refine ⟨by simp [hl], ?_⟩
  have hk : 65 - j - 1 < l.length := by omega
  rw [show 65 - (j + 1) = 65 - j - 1 by omega, List.drop_set, if_neg (by omega), Nat.sub_self, List.drop_eq_getElem_cons hk]
  simp only [List.set_cons_zero]
  rw [show 65 - j - 1 + 1 = 65 - j by omega, h]
end Go.Proofs.YtakonfkefoeenacDoor
