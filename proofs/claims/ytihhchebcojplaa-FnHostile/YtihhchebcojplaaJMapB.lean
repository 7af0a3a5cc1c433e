import Derived.Test.YtihhchebcojplaaJMath
import Derived.RegionTactic
import Derived.BigRegion
/- Type maps out of types: mathematics. -/
namespace Go.Proofs.Ytihhchebcojplaa
open Go.RowKit

def memB (l : List Int) (t : Nat) : Bool := decide ((t : Int) ∈ l)
def okT (l : List Int) : Bool := l.all fun t => decide (0 ≤ t) && decide (t ≤ 65535)

def byteF (S : Nat → Bool) (base : Nat) : Nat → Nat
  | 0 => 0
  | i + 1 => byteF S base i * 2 + (S (base + i)).toNat
def byteS (S : Nat → Bool) (k : Nat) : Nat := byteF S (8 * k) 8

theorem byteF_lt (S : Nat → Bool) (base i : Nat) : byteF S base i < 2 ^ i := by
  induction i with
  | zero => simp [byteF]
  | succ i ih =>
    rw [byteF, Nat.pow_succ]
    cases S (base + i) <;> simp <;> omega
theorem byteS_lt (S : Nat → Bool) (k : Nat) : byteS S k < 256 := byteF_lt S (8 * k) 8

/-- How many elements are left when the noughts behind are taken off. -/
def trim (f : Nat → Nat) : Nat → Nat
  | 0 => 0
  | m + 1 => if f m = 0 then trim f m else m + 1
theorem trim_le (f : Nat → Nat) (m : Nat) : trim f m ≤ m := by
  induction m with
  | zero => simp [trim]
  | succ m ih => rw [trim]; split <;> omega

def blkN (S : Nat → Bool) (w : Nat) : Nat := trim (fun k => byteS S (32 * w + k)) 32
def blkB (S : Nat → Bool) (w n : Nat) : List UInt8 := (List.range n).map fun k => UInt8.ofNat (byteS S (32 * w + k))
def blkOut (S : Nat → Bool) (w : Nat) : List UInt8 := if blkN S w = 0 then [] else UInt8.ofNat w :: UInt8.ofNat (blkN S w) :: blkB S w (blkN S w)
def outTo (S : Nat → Bool) (w : Nat) : List UInt8 := (List.range w).flatMap (blkOut S)

theorem blkN_le (S : Nat → Bool) (w : Nat) : blkN S w ≤ 32 := trim_le _ _
theorem blkB_len (S : Nat → Bool) (w n : Nat) : (blkB S w n).length = n := by simp [blkB]
theorem blkB_succ (S : Nat → Bool) (w n : Nat) : blkB S w (n + 1) = blkB S w n ++ [UInt8.ofNat (byteS S (32 * w + n))] := by simp [blkB, List.range_succ]
theorem outTo_zero (S : Nat → Bool) {w : Nat} (h : blkN S w = 0) : outTo S (w + 1) = outTo S w := by simp [outTo, List.range_succ, blkOut, h]
theorem outTo_more (S : Nat → Bool) {w : Nat} (h : blkN S w ≠ 0) : outTo S (w + 1) = outTo S w ++ ([UInt8.ofNat w, UInt8.ofNat (blkN S w)] ++ blkB S w (blkN S w)) := by simp [outTo, List.range_succ, blkOut, h]
theorem outTo_len (S : Nat → Bool) (w : Nat) : (outTo S w).length ≤ 34 * w := by
  induction w with
  | zero => simp [outTo]
  | succ w ih =>
    have hn := blkN_le S w
    by_cases h : blkN S w = 0
    · rw [outTo_zero S h]; omega
    · rw [outTo_more S h]
      simp only [List.length_append, List.length_cons, List.length_nil, blkB_len]
      omega
theorem blkB_take (S : Nat → Bool) (w m n : Nat) (h : n ≤ m) : (blkB S w m).take n = blkB S w n := by
  rw [blkB, blkB, ← List.map_take, List.take_range, Nat.min_eq_left h]

def mapR (l : List Int) : ByteArray × Int := if okT l then (⟨(outTo (memB l) 256).toArray⟩, 0) else (⟨#[]⟩, 6)

theorem mapR_bad {l : List Int} {k : Nat} {t : Int} (h : l[k]? = some t) (ht : t < 0 ∨ 65535 < t) : mapR l = (⟨#[]⟩, 6) := by
  have : okT l = false := by
    rw [okT, List.all_eq_false]
    refine ⟨t, List.mem_of_getElem? h, ?_⟩
    simp; omega
  rw [mapR, this]; rfl
theorem mapR_good {l : List Int} (h : ∀ t ∈ l, 0 ≤ t ∧ t ≤ 65535) : mapR l = (⟨(outTo (memB l) 256).toArray⟩, 0) := by
  have : okT l = true := by
    rw [okT, List.all_eq_true]
    intro t ht
    have := h t ht
    simp; omega
  rw [mapR, this]; rfl

theorem memB_step {l : List Int} {k : Nat} {t : Int} (h : l[k]? = some t) (j : Nat) (ht : 0 ≤ t) : memB (l.take (k + 1)) j = if j = t.toNat then true else memB (l.take k) j := by
  rw [memB, Nm.take_step h]
  by_cases hj : j = t.toNat
  · subst hj
    rw [if_pos rfl]
    have : ((t.toNat : Nat) : Int) = t := by omega
    simp [this]
  · rw [if_neg hj]
    have hne : (j : Int) ≠ t := by omega
    simp [memB, hne]
theorem memB_nil (j : Nat) : memB [] j = false := by simp [memB]
end Go.Proofs.Ytihhchebcojplaa
/- Integers as cells. -/
namespace Go.Proofs.Ytihhchebcojplaa
open Go.RowKit

def intCells (l : List Int) : List Value := l.map fun x => .int .i64 x
theorem intCells_len (l : List Int) : (intCells l).length = l.length := by simp [intCells]

end Go.Proofs.Ytihhchebcojplaa
