import Derived.Test.YtinbaopcapnbgaaShM
/- What Sha256 hashes: the bytes and what is added to them: mathematics. -/
namespace Go.Proofs.Ytinbaopcapnbgaa
open Go.RowKit
set_option linter.unusedVariables false

def zN (n : Nat) : Nat := (119 - n % 64) % 64
theorem zN_end (n : Nat) : (n + 1 + zN n) % 64 = 56 := by unfold zN; omega
theorem zN_not {n z : Nat} (h : z < zN n) : (n + 1 + z) % 64 ≠ 56 := by unfold zN at h; omega
theorem zN_lt (n : Nat) : zN n < 64 := Nat.mod_lt _ (by decide)
theorem padTo_eq (l : List UInt8) : padTo l = l ++ [128] ++ List.replicate (zN l.length) 0 := rfl
theorem padTo_len (l : List UInt8) : (padTo l).length = l.length + 1 + zN l.length := by rw [padTo_eq]; simp; omega
theorem lenL_len (n : Nat) : (lenL n).length = 8 := rfl
theorem padL_len (l : List UInt8) : (padL l).length % 64 = 0 ∧ (padL l).length ≤ l.length + 72 := by
  have h := zN_end l.length
  have h2 : zN l.length < 64 := Nat.mod_lt _ (by decide)
  rw [padL, List.length_append, padTo_len, lenL_len]
  omega
theorem rep_snoc (z : Nat) : List.replicate (z + 1) (0 : UInt8) = List.replicate z 0 ++ [0] := by
  rw [List.replicate_succ']
theorem lenL_take {n j : Nat} (h : j < 8) : (lenL n).take (j + 1) = (lenL n).take j ++ [UInt8.ofNat (8 * n / 2 ^ (8 * (7 - j)))] := by
  rw [List.take_add_one]
  have : (lenL n)[j]? = some (UInt8.ofNat (8 * n / 2 ^ (8 * (7 - j)))) := by simp [lenL, h]
  rw [this]
  rfl
end Go.Proofs.Ytinbaopcapnbgaa
