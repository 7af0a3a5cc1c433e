/- A text cut at every byte of one value: mathematics. -/
import Derived.Test.YtakonfkefoeenadDoorMath
namespace Go.Proofs.YtakonfkefoeenadDoor
open Go.RowKit

/-- A text cut at every byte c: from byte i on, the piece under way began at a. -/
def cutF (s : ByteArray) (c : UInt8) : Nat → Nat → Nat → List ByteArray
  | 0, _, a => [s.extract a s.size]
  | f + 1, i, a => if h : i < s.size then
      (if s[i].toNat = c.toNat then s.extract a i :: cutF s c f (i + 1) (i + 1) else cutF s c f (i + 1) a)
    else [s.extract a s.size]
def cutB (s : ByteArray) (c : UInt8) : List ByteArray := cutF s c s.size 0 0
def CutAt (s : ByteArray) (c : UInt8) (ls : List ByteArray) (i a : Nat) : Prop := cutB s c = ls ++ cutF s c (s.size - i) i a
theorem cut_start (s : ByteArray) (c : UInt8) : CutAt s c [] 0 0 := by simp [CutAt, cutB]
theorem cut_here {s : ByteArray} {c : UInt8} {ls : List ByteArray} {i a : Nat} (h : CutAt s c ls i a) (hi : i < s.size) (e : s[i].toNat = c.toNat) : CutAt s c (ls ++ [s.extract a i]) (i + 1) (i + 1) := by
  rw [CutAt] at h ⊢
  rw [h, show s.size - i = s.size - (i + 1) + 1 by omega, cutF, dif_pos hi, if_pos e]
  simp
theorem cut_on {s : ByteArray} {c : UInt8} {ls : List ByteArray} {i a : Nat} (h : CutAt s c ls i a) (hi : i < s.size) (e : ¬ s[i].toNat = c.toNat) : CutAt s c ls (i + 1) a := by
  rw [CutAt] at h ⊢
  rw [h, show s.size - i = s.size - (i + 1) + 1 by omega, cutF, dif_pos hi, if_neg e]
theorem cut_end {s : ByteArray} {c : UInt8} {ls : List ByteArray} {i a : Nat} (h : CutAt s c ls i a) (hi : s.size ≤ i) : cutB s c = ls ++ [s.extract a s.size] := by
  rw [CutAt, Nat.sub_eq_zero_of_le hi] at h; exact h

end Go.Proofs.YtakonfkefoeenadDoor
