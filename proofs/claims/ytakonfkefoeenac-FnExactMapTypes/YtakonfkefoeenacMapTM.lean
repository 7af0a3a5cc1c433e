/- The types of a map: mathematics. -/
import Derived.Test.YtakonfkefoeenacBlocks
import Derived.Test.YtakonfkefoeenacIntL
import Derived.Laws.BitsAllLaws
namespace Go.Proofs.Ytakonfkefoeenac
open Go.RowKit

def bitAt (c : UInt8) (j : Nat) : Bool := decide (c.toNat / 2 ^ (7 - j) % 2 = 1)
def bitOf (s : ByteArray) (i : Nat) : Bool := if h : i / 8 < s.size then bitAt s[i / 8] (i % 8) else false

theorem pow_half {r : Nat} (h : r < 8) : (128 : Int) / 2 ^ r = ((2 ^ (7 - r) : Nat) : Int) ∧ 2 ^ (7 - r) < 256 := by
  obtain rfl | rfl | rfl | rfl | rfl | rfl | rfl | rfl : r = 0 ∨ r = 1 ∨ r = 2 ∨ r = 3 ∨ r = 4 ∨ r = 5 ∨ r = 6 ∨ r = 7 := by omega
  all_goals exact ⟨by decide, by decide⟩

theorem and_pow (n k : Nat) : (n &&& 2 ^ k != 0) = decide (n / 2 ^ k % 2 = 1) := by
  have h : n.testBit k = decide (n / 2 ^ k % 2 = 1) := by rw [Nat.testBit_eq_decide_div_mod_eq]
  rw [← h]
  cases hb : n.testBit k with
  | true =>
    rw [bne_iff_ne]
    intro e
    have h2 : (n &&& 2 ^ k).testBit k = true := by rw [Nat.testBit_and, hb, Nat.testBit_two_pow_self]; rfl
    rw [e] at h2
    simp at h2
  | false =>
    rw [bne_eq_false_iff_eq]
    apply Nat.eq_of_testBit_eq
    intro i
    rw [Nat.testBit_and, Nat.testBit_two_pow, Nat.zero_testBit]
    by_cases hi : k = i
    · subst hi; rw [hb]; rfl
    · simp [hi]

theorem and_bit (c : UInt8) {r : Nat} (h : r < 8) : (bits .and .u8 (c.toNat : Int) ((128 : Int) / 2 ^ r) != 0) = bitAt c r := by
  obtain ⟨e1, e2⟩ := pow_half h
  rw [e1, u8_and_nat _ _ c.toNat_lt e2, bitAt, ← and_pow, Bool.eq_iff_iff, bne_iff_ne, bne_iff_ne]
  omega

theorem shr_bit (c : UInt8) (k : Nat) : (bits .and .u8 (((c.toNat / 2 ^ k : Nat)) : Int) 1 == 1) = decide (c.toNat / 2 ^ k % 2 = 1) := by
  have h1 : c.toNat / 2 ^ k < 256 := Nat.lt_of_le_of_lt (Nat.div_le_self _ _) c.toNat_lt
  have e := u8_and_nat (c.toNat / 2 ^ k) 1 h1 (by decide)
  have e1 : ((1 : Nat) : Int) = 1 := rfl
  rw [e1] at e
  rw [e, Nat.and_one_is_mod, Bool.eq_iff_iff, beq_iff_eq, decide_eq_true_iff]
  generalize c.toNat / 2 ^ k % 2 = q
  omega

/-- The types of a block whose bit stands below i. -/
def upTo (b : Nat × ByteArray) (i : Nat) : List Int := (List.range i).filterMap fun k => if bitOf b.2 k then some ((256 * b.1 + k : Nat) : Int) else none
def blkTypes (b : Nat × ByteArray) : List Int := upTo b (8 * b.2.size)
def typesOf (bl : List (Nat × ByteArray)) : List Int := bl.flatMap blkTypes

theorem upTo_yes {b : Nat × ByteArray} {i : Nat} (h : bitOf b.2 i = true) : upTo b (i + 1) = upTo b i ++ [((256 * b.1 + i : Nat) : Int)] := by
  simp [upTo, List.range_succ, h]
theorem upTo_no {b : Nat × ByteArray} {i : Nat} (h : bitOf b.2 i = false) : upTo b (i + 1) = upTo b i := by
  simp [upTo, List.range_succ, h]
theorem upTo_len (b : Nat × ByteArray) (i : Nat) : (upTo b i).length ≤ i := by
  have := List.length_filterMap_le (fun k => if bitOf b.2 k then some ((256 * b.1 + k : Nat) : Int) else none) (List.range i)
  simpa [upTo] using this

theorem types_step (bl : List (Nat × ByteArray)) (k : Nat) (b : Nat × ByteArray) (h : bl[k]? = some b) : typesOf (bl.take (k + 1)) = typesOf (bl.take k) ++ blkTypes b := by
  rw [Nm.take_step h]; simp [typesOf]

theorem blk_cells {bl : List (Nat × ByteArray)} {k : Nat} {x : Nat × ByteArray} (h : bl[k]? = some x) : (blkCells bl)[k * 2]? = some (.int .i64 (x.1 : Int)) ∧ (blkCells bl)[k * 2 + 1]? = some (.string x.2) := by
  induction bl generalizing k with
  | nil => simp at h
  | cons y bl ih =>
    cases k with
    | zero => simp at h; subst h; simp [blkCells]
    | succ k =>
      simp at h
      have := ih h
      have e : blkCells (y :: bl) = [.int .i64 (y.1 : Int), .string y.2] ++ blkCells bl := by simp [blkCells]
      rw [e, show (k + 1) * 2 = k * 2 + 2 by omega, show k * 2 + 2 + 1 = (k * 2 + 1) + 2 by omega]
      simpa using this

/-- What MapTypes answers. -/
def mapC (b : Bool) : Int := if b then 0 else 7
def mapL (b : Bool) (l : List Int) : List Int := if b then l else []

theorem Try.infoI64 : (Try.prog.info? 2).map (fun i => (i.zero, i.size, i.bytes)) = some (some (.int .i64 0), 1, 8) := by kernel_rfl

/-- How many bytes of bits a map's blocks have together. -/
def bitsLen : List (Nat × ByteArray) → Nat
  | [] => 0
  | b :: r => b.2.size + bitsLen r
theorem bitsLen_mem {bl : List (Nat × ByteArray)} {b : Nat × ByteArray} (h : b ∈ bl) : b.2.size ≤ bitsLen bl := by
  induction bl with
  | nil => simp at h
  | cons y bl ih =>
    rcases List.mem_cons.1 h with rfl | h
    · simp [bitsLen]
    · have := ih h; simp only [bitsLen]; omega
theorem bitsLen_take (bl : List (Nat × ByteArray)) (k : Nat) : bitsLen (bl.take k) ≤ bitsLen bl := by
  induction bl generalizing k with
  | nil => simp [bitsLen]
  | cons y bl ih =>
    cases k with
    | zero => simp [bitsLen]
    | succ k => simp only [List.take_succ_cons, bitsLen]; have := ih k; omega
theorem types_len (bl : List (Nat × ByteArray)) : (typesOf bl).length ≤ 8 * bitsLen bl := by
  induction bl with
  | nil => simp [typesOf, bitsLen]
  | cons y bl ih =>
    have e : typesOf (y :: bl) = blkTypes y ++ typesOf bl := by simp [typesOf]
    have := upTo_len y (8 * y.2.size)
    rw [e, List.length_append, bitsLen, blkTypes]; omega
theorem blocksF_bits : ∀ (f : Nat) (s : ByteArray), bitsLen (blocksF f s) ≤ s.size := by
  intro f
  induction f with
  | zero => intro s; simp [blocksF, bitsLen]
  | succ f ih =>
    intro s
    rw [blocksF]
    split
    · rename_i h
      have := ih (s.extract (s[1].toNat + 2) s.size)
      have hz : (s.extract (s[1].toNat + 2) s.size).size = s.size - (s[1].toNat + 2) := by simp
      have hz2 : (s.extract 2 (s[1].toNat + 2)).size ≤ s[1].toNat := by simp; omega
      have hz3 : (s.extract 2 (s[1].toNat + 2)).size ≤ s.size - 2 := by simp; omega
      simp only [bitsLen]
      omega
    · simp [bitsLen]
theorem blocksF_len : ∀ (f : Nat) (s : ByteArray), (blocksF f s).length ≤ s.size := by
  intro f
  induction f with
  | zero => intro s; simp [blocksF]
  | succ f ih =>
    intro s
    rw [blocksF]
    split
    · rename_i h
      have := ih (s.extract (s[1].toNat + 2) s.size)
      have hz : (s.extract (s[1].toNat + 2) s.size).size = s.size - (s[1].toNat + 2) := by simp
      simp only [List.length_cons]
      omega
    · simp
theorem blocks_bits (s : ByteArray) : bitsLen (blocksS s) ≤ s.size := blocksF_bits _ s
theorem blocksF_win : ∀ (f : Nat) (s : ByteArray) (b : Nat × ByteArray), b ∈ blocksF f s → b.1 < 256 := by
  intro f
  induction f with
  | zero => intro s b h; simp [blocksF] at h
  | succ f ih =>
    intro s b h
    rw [blocksF] at h
    split at h
    · rcases List.mem_cons.1 h with rfl | h
      · exact s[0].toNat_lt
      · exact ih _ _ h
    · simp at h
end Go.Proofs.Ytakonfkefoeenac
