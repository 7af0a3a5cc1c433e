import Derived.Test.YtjokdmmlofbknaaDoorJMath
import Derived.Test.YtjokdmmlofbknaaDoorJV4T
import Derived.Test.YtjokdmmlofbknaaDoorJFoldM
import Derived.Test.YtjokdmmlofbknaaDoorRows
import Derived.WalkSpells
import Derived.WalkLawsBesides
import Derived.Test.YtjokdmmlofbknaaDoorJRowM
import Derived.Test.YtjokdmmlofbknaaDoorJFmB
import Derived.Lib.SmallJoins
/- spec.l02Num by its contract. -/
namespace Go.Proofs.YtjokdmmlofbknaaDoor
open Go.RowKit

end Go.Proofs.YtjokdmmlofbknaaDoor
/- Words that are joined. -/
namespace Go.Proofs.YtjokdmmlofbknaaDoor
open Go.RowKit

theorem wrap_pos (n : Nat) (h : n < 9223372036854775808) : IntKind.i64.wrap (n : Int) = (n : Int) := by
  have e : (n : Int) % 2 ^ 64 = n := Int.emod_eq_of_lt (by omega) (by omega)
  simp only [IntKind.wrap, IntKind.bits, IntKind.signed, e]
  rw [if_neg]
  simp
  omega

theorem i64_or_nat (a b : Nat) (ha : a < 9223372036854775808) (hb : b < 9223372036854775808) : bits .or .i64 (a : Int) (b : Int) = ((a ||| b : Nat) : Int) := by
  have hx : a ||| b < 2 ^ 63 := Nat.or_lt_two_pow (by omega) (by omega)
  show IntKind.i64.wrap ((BitVec.ofInt 64 (a : Int) ||| BitVec.ofInt 64 (b : Int)).toNat : Int) = _
  rw [BitVec.toNat_or, ofInt_u64 a (by omega), ofInt_u64 b (by omega)]
  exact wrap_pos _ (by omega)

theorem or_join (i a b : Nat) (h : b < 2 ^ i) (ha : 2 ^ i * a + b < 9223372036854775808) : bits .or .i64 ((2 ^ i * a : Nat) : Int) (b : Int) = ((2 ^ i * a + b : Nat) : Int) := by
  rw [i64_or_nat _ _ (by omega) (by omega), ← Nat.two_pow_add_eq_or_of_lt h]
end Go.Proofs.YtjokdmmlofbknaaDoor
/- impl.readBig by its contract. -/
namespace Go.Proofs.YtjokdmmlofbknaaDoor
open Go.RowKit

theorem or4 (a b c d : Nat) (ha : a < 256) (hb : b < 256) (hc : c < 256) (hd : d < 256) :
    bits .or .i64 (bits .or .i64 (bits .or .i64 ((a : Int) * 16777216) ((b : Int) * 65536)) ((c : Int) * 256)) (d : Int) = ((((a * 256 + b) * 256 + c) * 256 + d : Nat) : Int) := by
  have e1 : (a : Int) * 16777216 = ((2 ^ 24 * a : Nat) : Int) := by omega
  have e2 : (b : Int) * 65536 = ((b * 65536 : Nat) : Int) := by omega
  have e3 : (c : Int) * 256 = ((c * 256 : Nat) : Int) := by omega
  rw [e1, e2, e3, or_join 24 a _ (by omega) (by omega)]
  have e4 : 2 ^ 24 * a + b * 65536 = 2 ^ 16 * (a * 256 + b) := by omega
  rw [e4, or_join 16 _ _ (by omega) (by omega)]
  have e5 : 2 ^ 16 * (a * 256 + b) + c * 256 = 2 ^ 8 * ((a * 256 + b) * 256 + c) := by omega
  rw [e5, or_join 8 _ _ (by omega) (by omega)]
  congr 1
  omega

def num4 (a b c d : UInt8) : Nat := ((a.toNat * 256 + b.toNat) * 256 + c.toNat) * 256 + d.toNat

theorem big_step (m : Nat) (c : UInt8) (h : m < 281474976710656) : bits .or .i64 ((m : Int) * 256) (c.toNat : Int) = ((m * 256 + c.toNat : Nat) : Int) := by
  have hc := c.toNat_lt
  have e : (m : Int) * 256 = ((2 ^ 8 * m : Nat) : Int) := by omega
  rw [e, or_join 8 m _ (by omega) (by omega)]
  congr 1
  omega

set_option maxRecDepth 100000 in
set_option maxHeartbeats 400000 in
theorem readBig_any (s : ByteArray) (w : World) (hs : s.size ≤ 6) :
    Calls Tryd.prog 24 #[.string s] w fun e w' => e = .returned (.int .i64 (numL s.data.toList)) ∧ w' = w := by
  go_enter Tryd.func24, Tryd.ntmps24
  go_wp2
  go_loop [3, 7] (fun u v => ∃ k : Nat, k ≤ s.size ∧ v = .int .i64 k ∧ u = .int .i64 (numL (s.data.toList.take k))) (fun _ v => s.size - (intOf v).toNat)
  case atStart => exact ⟨0, Nat.zero_le _, rfl, rfl⟩
  case round =>
    obtain ⟨k, hk, rfl, rfl⟩ := hrel
    by_cases hlt : k < s.size
    · have hd := Nm.get_data hlt
      have e1 : s.data.toList.take (k + 1) = s.data.toList.take k ++ [s[k]] := Nm.take_step hd
      have hb := numL_small (l := s.data.toList.take k) (by simp; omega)
      have e2 := numL_snoc (s.data.toList.take k) s[k]
      rw [← e1] at e2
      have hc : (s[k].toNat : Int) < 256 := by have := s[k].toNat_lt; omega
      have hlt' : (k : Int) < (s.size : Int) := by omega
      have HB := Nm.hide (big_step (numL (s.data.toList.take k)) s[k] hb)
      generalize numL (s.data.toList.take k) = m at *
      clear e1 hd
      go_wp2
      go_round
      case rel => exact ⟨k + 1, by omega, by go_num, by rw [e2, ← HB.out]⟩
      case measure => simp [intOf]; omega
    · have hke : k = s.size := by omega
      subst hke
      have et : s.data.toList.take s.size = s.data.toList := List.take_of_length_le (by simp)
      rw [et]
      go_wp2
      go_ret
      exact ⟨rfl, rfl⟩
end Go.Proofs.YtjokdmmlofbknaaDoor
/- Numbers of bytes: the model's and the program's. -/
namespace Go.Proofs.YtjokdmmlofbknaaDoor
end Go.Proofs.YtjokdmmlofbknaaDoor
/- strconv.FormatInt at base 16, below 65536, by its contract. -/
namespace Go.Proofs.YtjokdmmlofbknaaDoor
open Go.RowKit

def tz64 : List Int := [0, 1, 56, 2, 57, 49, 28, 3, 61, 58, 42, 50, 38, 29, 17, 4, 62, 47, 59, 36, 45, 43, 51, 22, 53, 39, 33, 30, 24, 18, 12, 5, 63, 55, 48, 27, 60, 41, 37, 16, 46, 35, 44, 21, 52, 32, 23, 11, 54, 26, 40, 15, 34, 20, 31, 10, 25, 14, 19, 9, 13, 8, 7, 6]
/-- The table that math/bits reads. -/
abbrev BruTab (w : World) : Prop := Lib.TabIs Tryd.prog w "math/bits.deBruijn64tab" .u8 tz64

set_option maxRecDepth 100000 in
set_option maxHeartbeats 400000 in
theorem tz16_any (w : World) (h : BruTab w) :
    Calls Tryd.prog 72 #[.int .u64 16] w fun e w' => e = .returned (.int .i64 4) ∧ w' = w := by
  have hc : w.cell? ⟨4, 15, none⟩ = some (.int .u8 4) := Lib.TabIs.cell h (by kernel_rfl) 15 (by decide)
  have a0 : IntKind.u64.wrap (-16) = 18446744073709551600 := by kernel_rfl
  have a2 : IntKind.u64.wrap (16 * 285870213051353865) = 4573923408821661840 := by kernel_rfl
  have a3 : IntKind.u64.wrap 4573923408821661840 = 4573923408821661840 := by kernel_rfl
  have a1 : bits .and .u64 16 18446744073709551600 = 16 := by kernel_rfl
  go_enter Tryd.func72, Tryd.ntmps72
  go_wp2
  go_ret
  exact ⟨rfl, rfl⟩

theorem pow16_any (w : World) : Calls Tryd.prog 71 #[.int .i64 16] w fun e w' => e = .returned (.bool true) ∧ w' = w := by
  have a1 : bits .and .i64 16 15 = 0 := by kernel_rfl
  go_enter Tryd.func71, Tryd.ntmps71
  go_wp2
  go_ret
  exact ⟨rfl, rfl⟩

/-- The library's digits. -/
def digLit : ByteArray := ⟨#[48, 49, 50, 51, 52, 53, 54, 55, 56, 57, 97, 98, 99, 100, 101, 102, 103, 104, 105, 106, 107, 108, 109, 110, 111, 112, 113, 114, 115, 116, 117, 118, 119, 120, 121, 122]⟩
theorem dig_index (k : Nat) (hk : k < 16) (W : World) : (Instr.index 9 (.string digLit) (.int .u64 (k : Int))).run Tryd.prog W = .ok (.int .u8 (hexD k).toNat) W := by
  obtain rfl | rfl | rfl | rfl | rfl | rfl | rfl | rfl | rfl | rfl | rfl | rfl | rfl | rfl | rfl | rfl : k = 0 ∨ k = 1 ∨ k = 2 ∨ k = 3 ∨ k = 4 ∨ k = 5 ∨ k = 6 ∨ k = 7 ∨ k = 8 ∨ k = 9 ∨ k = 10 ∨ k = 11 ∨ k = 12 ∨ k = 13 ∨ k = 14 ∨ k = 15 := by omega
  all_goals kernel_rfl
theorem and15 (u : Nat) (h : u < 65536) : bits .and .u64 (u : Int) 15 = ((u % 16 : Nat) : Int) := by
  show IntKind.u64.wrap ((BitVec.ofInt 64 (u : Int) &&& BitVec.ofInt 64 15).toNat : Int) = _
  have e : (BitVec.ofInt 64 (u : Int) &&& BitVec.ofInt 64 15).toNat = u % 16 := by
    rw [BitVec.toNat_and, ofInt_u64 u (by omega)]
    have : (BitVec.ofInt 64 15).toNat = 2 ^ 4 - 1 := by decide
    rw [this, Nat.and_two_pow_sub_one_eq_mod]
  rw [e]
  simp only [IntKind.wrap, IntKind.bits, IntKind.signed]
  simp
  omega

/-- How far the writing has come: u is still to be told, t is told. -/
def HexAt (n u j : Nat) (t : List UInt8) : Prop := hexL n = hexL u ++ t ∧ t.length = j ∧ (j = 0 ∧ u < 65536 ∨ j = 1 ∧ u < 4096 ∨ j = 2 ∧ u < 256 ∨ j = 3 ∧ u < 16)
theorem hexAt_start {n : Nat} (h : n < 65536) : HexAt n n 0 [] := ⟨by simp, rfl, by omega⟩
theorem hexAt_next {n u j : Nat} {t : List UInt8} (h : HexAt n u j t) (hu : 16 ≤ u) : HexAt n (u / 16) (j + 1) (hexD (u % 16) :: t) := by
  obtain ⟨h1, h2, h3⟩ := h
  refine ⟨?_, by simp [h2], by omega⟩
  rw [h1, hexL_step (by omega), List.append_assoc]; rfl
theorem hexAt_end {n u j : Nat} {t : List UInt8} (h : HexAt n u j t) (hu : u < 16) : hexL n = hexD u :: t := by
  rw [h.1, hexL_small hu]; rfl
theorem hexAt_j {n u j : Nat} {t : List UInt8} (h : HexAt n u j t) : j ≤ 3 ∧ u < 65536 := by have := h.2.2; omega

theorem tail_set {l t : List UInt8} {j : Nat} {d : UInt8} (hl : l.length = 65) (hj : j ≤ 3) (h : l.drop (65 - j) = t) : (l.set (65 - j - 1) d).length = 65 ∧ (l.set (65 - j - 1) d).drop (65 - (j + 1)) = d :: t := by
  refine ⟨by simp [hl], ?_⟩
  have hk : 65 - j - 1 < l.length := by omega
  rw [show 65 - (j + 1) = 65 - j - 1 by omega, List.drop_set, if_neg (by omega), Nat.sub_self, List.drop_eq_getElem_cons hk]
  simp only [List.set_cons_zero]
  rw [show 65 - j - 1 + 1 = 65 - j by omega, h]
end Go.Proofs.YtjokdmmlofbknaaDoor
