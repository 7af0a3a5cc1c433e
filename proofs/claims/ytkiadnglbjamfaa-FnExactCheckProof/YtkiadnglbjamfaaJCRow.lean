import Derived.Test.YtkiadnglbjamfaaJGoodM
import Derived.Test.YtkiadnglbjamfaaJMath
import Derived.Laws.OwnMore
import Derived.RegionTactic
import Derived.BigRegion
import Derived.Test.YtkiadnglbjamfaaBlocks
import Derived.Laws.BitsAllLaws
/- Rows of cells that are read; marks. -/
namespace Go.Proofs.Ytkiadnglbjamfaa
open Go.RowKit

/-- The cells 'cs' (n elements of s cells) lie where the slice 'v' leads. -/
def CRow (w : World) (v : Value) (n s : Nat) (cs : List Value) : Prop :=
  cs.length = n * s ∧ ∃ a cap, v = .slice a n cap ∧ n ≤ cap ∧ cap ≤ maxLen ∧
    (0 < n → ∃ b off, a = some ⟨b, off, none⟩ ∧ ∀ (i : Nat) (x : Value), cs[i]? = some x → w.cell? ⟨b, off + i, none⟩ = some x)

theorem CRow.of_owns {w : World} {B e s n : Nat} {v : Value} {cs : List Value} (h : w.ownsRow B e s v n cs) : CRow w v n s cs := by
  refine ⟨h.1, ?_⟩
  rcases h.2 with ⟨rfl, h0⟩ | ⟨g, cap, cur, rfl, hb, hg, hn, hm, hs, ht⟩
  · subst h0
    exact ⟨none, 0, rfl, Nat.le_refl _, by decide, fun h => by omega⟩
  · refine ⟨_, cap, rfl, hn, hm, fun _ => ⟨g, 0, rfl, ?_⟩⟩
    intro i x hx
    have hi : i < n * s := by rw [← h.1]; exact (List.getElem?_eq_some_iff.1 hx).1
    rw [Nat.zero_add, h.cellAt i hi]
    exact hx

theorem CRow.below {w w' : World} {v : Value} {n s : Nat} {cs : List Value} (h : CRow w v n s cs) (hb : Below w.heap.size w w') : CRow w' v n s cs := by
  obtain ⟨h0, a, cap, rfl, h1, h2, h3⟩ := h
  refine ⟨h0, a, cap, rfl, h1, h2, fun hp => ?_⟩
  obtain ⟨b, off, rfl, hc⟩ := h3 hp
  refine ⟨b, off, rfl, fun i x hx => ?_⟩
  have := hc i x hx
  rw [hb.cell (World.block_lt_of_cell? w _ this)]
  exact this

theorem own_apart {w w1 : World} {B B' e e' s s' n n' : Nat} {v u : Value} {xs ys : List Value} (h : w.ownsRow B e s v n xs) (h' : w.ownsRow B' e' s' u n' ys) (hne : e ≠ e') (hg : w.grownBy w1 u.ownBlock) : w1.ownsRow B e s v n xs := by
  refine h.kept hg ?_
  rcases h.2 with ⟨rfl, _⟩ | ⟨g, cap, cur, rfl, _, hh, _⟩
  · exact .inl rfl
  · right
    rcases h'.2 with ⟨rfl, _⟩ | ⟨g', cap', cur', rfl, _, hh', _⟩
    · simp [Value.ownBlock]
    · simp only [Value.ownBlock, ne_eq, Option.some.injEq]
      intro e2
      subst e2
      rw [hh] at hh'
      simp at hh'
      exact hne hh'.2

/-- The marks: k, k + 1, .. -/
def ints (k m : Nat) : List Value := (List.range m).map fun i => .int .i64 ((k + i : Nat) : Int)
theorem ints_len (k m : Nat) : (ints k m).length = m := by simp [ints]
theorem ints_get {k m i : Nat} (h : i < m) : (ints k m)[i]? = some (.int .i64 ((k + i : Nat) : Int)) := by simp [ints, h]
theorem ints_set {k m i : Nat} {xs : List Value} (hl : xs.length = m) (h : i < m) :
    ((ints k m).take i ++ xs.drop i).set i (.int .i64 ((k + i : Nat) : Int)) = (ints k m).take (i + 1) ++ xs.drop (i + 1) := by
  have h1 : ((ints k m).take i).length = i := by simp [ints_len]; omega
  have h2 : (ints k m).take (i + 1) = (ints k m).take i ++ [.int .i64 ((k + i : Nat) : Int)] := by
    obtain ⟨hi, e⟩ := List.getElem?_eq_some_iff.1 (ints_get (k := k) h)
    rw [List.take_succ_eq_append_getElem hi, e]
  rw [h2, List.set_append_right _ _ (by omega), h1, List.drop_eq_getElem_cons (by omega : i < xs.length), Nat.sub_self, List.set_cons_zero, List.append_assoc]
  rfl
theorem ints_cell {k m i j : Nat} {xs : List Value} (hl : xs.length = m) (h : j < m) : ∃ y, ((ints k m).take i ++ xs.drop i)[j]? = some y :=
  ⟨_, List.getElem?_eq_getElem (by simp [ints_len]; omega)⟩
theorem ints_done {k m : Nat} {xs : List Value} (hl : xs.length = m) : (ints k m).take m ++ xs.drop m = ints k m := by
  rw [List.take_of_length_le (by rw [ints_len]; omega), List.drop_of_length_le (by omega), List.append_nil]
end Go.Proofs.Ytkiadnglbjamfaa
/- Integers as cells. -/
namespace Go.Proofs.Ytkiadnglbjamfaa
open Go.RowKit

def intCells (l : List Int) : List Value := l.map fun x => .int .i64 x
theorem intCells_len (l : List Int) : (intCells l).length = l.length := by simp [intCells]

end Go.Proofs.Ytkiadnglbjamfaa
/- The types of a map: mathematics. -/
namespace Go.Proofs.Ytkiadnglbjamfaa
open Go.RowKit

def bitAt (c : UInt8) (j : Nat) : Bool := decide (c.toNat / 2 ^ (7 - j) % 2 = 1)
def bitOf (s : ByteArray) (i : Nat) : Bool := if h : i / 8 < s.size then bitAt s[i / 8] (i % 8) else false

theorem pow_half {r : Nat} (h : r < 8) : (128 : Int) / 2 ^ r = ((2 ^ (7 - r) : Nat) : Int) ∧ 2 ^ (7 - r) < 256 := by
  obtain rfl | rfl | rfl | rfl | rfl | rfl | rfl | rfl : r = 0 ∨ r = 1 ∨ r = 2 ∨ r = 3 ∨ r = 4 ∨ r = 5 ∨ r = 6 ∨ r = 7 := by omega
  all_goals exact ⟨by decide, by decide⟩

theorem and_pow (n k : Nat) : (n &&& 2 ^ k != 0) = decide (n / 2 ^ k % 2 = 1) := by
  have h : n.testBit k = decide (n / 2 ^ k % 2 = 1) := by rw [Nat.testBit_eq_decide_div_mod_eq]
  rw [← h]
  cases hb : n.testBit k with
  | true =>
    rw [bne_iff_ne]
    intro e
    have h2 : (n &&& 2 ^ k).testBit k = true := by rw [Nat.testBit_and, hb, Nat.testBit_two_pow_self]; rfl
    rw [e] at h2
    simp at h2
  | false =>
    rw [bne_eq_false_iff_eq]
    apply Nat.eq_of_testBit_eq
    intro i
    rw [Nat.testBit_and, Nat.testBit_two_pow, Nat.zero_testBit]
    by_cases hi : k = i
    · subst hi; rw [hb]; rfl
    · simp [hi]

theorem and_bit (c : UInt8) {r : Nat} (h : r < 8) : (bits .and .u8 (c.toNat : Int) ((128 : Int) / 2 ^ r) != 0) = bitAt c r := by
  obtain ⟨e1, e2⟩ := pow_half h
  rw [e1, u8_and_nat _ _ c.toNat_lt e2, bitAt, ← and_pow, Bool.eq_iff_iff, bne_iff_ne, bne_iff_ne]
  omega

theorem shr_bit (c : UInt8) (k : Nat) : (bits .and .u8 (((c.toNat / 2 ^ k : Nat)) : Int) 1 == 1) = decide (c.toNat / 2 ^ k % 2 = 1) := by
  have h1 : c.toNat / 2 ^ k < 256 := Nat.lt_of_le_of_lt (Nat.div_le_self _ _) c.toNat_lt
  have e := u8_and_nat (c.toNat / 2 ^ k) 1 h1 (by decide)
  have e1 : ((1 : Nat) : Int) = 1 := rfl
  rw [e1] at e
  rw [e, Nat.and_one_is_mod, Bool.eq_iff_iff, beq_iff_eq, decide_eq_true_iff]
  generalize c.toNat / 2 ^ k % 2 = q
  omega

/-- The types of a block whose bit stands below i. -/
def upTo (b : Nat × ByteArray) (i : Nat) : List Int := (List.range i).filterMap fun k => if bitOf b.2 k then some ((256 * b.1 + k : Nat) : Int) else none
def blkTypes (b : Nat × ByteArray) : List Int := upTo b (8 * b.2.size)
def typesOf (bl : List (Nat × ByteArray)) : List Int := bl.flatMap blkTypes

theorem upTo_yes {b : Nat × ByteArray} {i : Nat} (h : bitOf b.2 i = true) : upTo b (i + 1) = upTo b i ++ [((256 * b.1 + i : Nat) : Int)] := by
  simp [upTo, List.range_succ, h]
theorem upTo_no {b : Nat × ByteArray} {i : Nat} (h : bitOf b.2 i = false) : upTo b (i + 1) = upTo b i := by
  simp [upTo, List.range_succ, h]
theorem upTo_len (b : Nat × ByteArray) (i : Nat) : (upTo b i).length ≤ i := by
  have := List.length_filterMap_le (fun k => if bitOf b.2 k then some ((256 * b.1 + k : Nat) : Int) else none) (List.range i)
  simpa [upTo] using this

theorem types_step (bl : List (Nat × ByteArray)) (k : Nat) (b : Nat × ByteArray) (h : bl[k]? = some b) : typesOf (bl.take (k + 1)) = typesOf (bl.take k) ++ blkTypes b := by
  rw [Nm.take_step h]; simp [typesOf]

theorem blk_cells {bl : List (Nat × ByteArray)} {k : Nat} {x : Nat × ByteArray} (h : bl[k]? = some x) : (blkCells bl)[k * 2]? = some (.int .i64 (x.1 : Int)) ∧ (blkCells bl)[k * 2 + 1]? = some (.string x.2) := by
  induction bl generalizing k with
  | nil => simp at h
  | cons y bl ih =>
    cases k with
    | zero => simp at h; subst h; simp [blkCells]
    | succ k =>
      simp at h
      have := ih h
      have e : blkCells (y :: bl) = [.int .i64 (y.1 : Int), .string y.2] ++ blkCells bl := by simp [blkCells]
      rw [e, show (k + 1) * 2 = k * 2 + 2 by omega, show k * 2 + 2 + 1 = (k * 2 + 1) + 2 by omega]
      simpa using this

/-- What MapTypes answers. -/
def mapC (b : Bool) : Int := if b then 0 else 7
def mapL (b : Bool) (l : List Int) : List Int := if b then l else []

theorem Try.infoI64 : (Try.prog.info? 2).map (fun i => (i.zero, i.size, i.bytes)) = some (some (.int .i64 0), 1, 8) := by kernel_rfl

/-- How many bytes of bits a map's blocks have together. -/
def bitsLen : List (Nat × ByteArray) → Nat
  | [] => 0
  | b :: r => b.2.size + bitsLen r
theorem bitsLen_mem {bl : List (Nat × ByteArray)} {b : Nat × ByteArray} (h : b ∈ bl) : b.2.size ≤ bitsLen bl := by
  induction bl with
  | nil => simp at h
  | cons y bl ih =>
    rcases List.mem_cons.1 h with rfl | h
    · simp [bitsLen]
    · have := ih h; simp only [bitsLen]; omega
theorem bitsLen_take (bl : List (Nat × ByteArray)) (k : Nat) : bitsLen (bl.take k) ≤ bitsLen bl := by
  induction bl generalizing k with
  | nil => simp [bitsLen]
  | cons y bl ih =>
    cases k with
    | zero => simp [bitsLen]
    | succ k => simp only [List.take_succ_cons, bitsLen]; have := ih k; omega
theorem types_len (bl : List (Nat × ByteArray)) : (typesOf bl).length ≤ 8 * bitsLen bl := by
  induction bl with
  | nil => simp [typesOf, bitsLen]
  | cons y bl ih =>
    have e : typesOf (y :: bl) = blkTypes y ++ typesOf bl := by simp [typesOf]
    have := upTo_len y (8 * y.2.size)
    rw [e, List.length_append, bitsLen, blkTypes]; omega
theorem blocksF_bits : ∀ (f : Nat) (s : ByteArray), bitsLen (blocksF f s) ≤ s.size := by
  intro f
  induction f with
  | zero => intro s; simp [blocksF, bitsLen]
  | succ f ih =>
    intro s
    rw [blocksF]
    split
    · rename_i h
      have := ih (s.extract (s[1].toNat + 2) s.size)
      have hz : (s.extract (s[1].toNat + 2) s.size).size = s.size - (s[1].toNat + 2) := by simp
      have hz2 : (s.extract 2 (s[1].toNat + 2)).size ≤ s[1].toNat := by simp; omega
      have hz3 : (s.extract 2 (s[1].toNat + 2)).size ≤ s.size - 2 := by simp; omega
      simp only [bitsLen]
      omega
    · simp [bitsLen]
theorem blocksF_len : ∀ (f : Nat) (s : ByteArray), (blocksF f s).length ≤ s.size := by
  intro f
  induction f with
  | zero => intro s; simp [blocksF]
  | succ f ih =>
    intro s
    rw [blocksF]
    split
    · rename_i h
      have := ih (s.extract (s[1].toNat + 2) s.size)
      have hz : (s.extract (s[1].toNat + 2) s.size).size = s.size - (s[1].toNat + 2) := by simp
      simp only [List.length_cons]
      omega
    · simp
theorem blocks_bits (s : ByteArray) : bitsLen (blocksS s) ≤ s.size := blocksF_bits _ s
theorem blocksF_win : ∀ (f : Nat) (s : ByteArray) (b : Nat × ByteArray), b ∈ blocksF f s → b.1 < 256 := by
  intro f
  induction f with
  | zero => intro s b h; simp [blocksF] at h
  | succ f ih =>
    intro s b h
    rw [blocksF] at h
    split at h
    · rcases List.mem_cons.1 h with rfl | h
      · exact s[0].toNat_lt
      · exact ih _ _ h
    · simp at h
end Go.Proofs.Ytkiadnglbjamfaa
/- Records as they come in: mathematics. -/
namespace Go.Proofs.Ytkiadnglbjamfaa
open Go.RowKit
set_option linter.unusedVariables false

/-- A record: its owner, type, class, time and data. -/
structure Rr where
  own : ByteArray
  ty : Int
  cl : Int
  tt : Int
  da : ByteArray

def rvV (r : Rr) : List Value := [.string r.own, .int .i64 r.ty, .int .i64 r.cl, .int .i64 r.tt, .string r.da]
def rvVs (xs : List Rr) : List Value := xs.flatMap rvV
theorem rvVs_cons (x : Rr) (xs : List Rr) : rvVs (x :: xs) = rvV x ++ rvVs xs := by simp [rvVs]
theorem rvVs_app (a b : List Rr) : rvVs (a ++ b) = rvVs a ++ rvVs b := by simp [rvVs]
theorem rvVs_len (xs : List Rr) : (rvVs xs).length = xs.length * 5 := by
  induction xs with
  | nil => rfl
  | cons x xs ih =>
    have : (rvV x).length = 5 := rfl
    rw [rvVs_cons, List.length_append, ih, List.length_cons, this]; omega

theorem rvVs_at : ∀ (xs : List Rr) (k j : Nat) (x : Rr), xs[k]? = some x → j < 5 → (rvVs xs)[k * 5 + j]? = (rvV x)[j]? := by
  intro xs
  induction xs with
  | nil => intro k j x h; simp at h
  | cons y xs ih =>
    intro k j x h hj
    have hl : (rvV y).length = 5 := rfl
    cases k with
    | zero =>
      simp at h; subst h
      rw [rvVs_cons, Nat.zero_mul, Nat.zero_add, List.getElem?_append_left (by omega)]
    | succ k =>
      simp at h
      rw [rvVs_cons, List.getElem?_append_right (by omega), hl, show (k + 1) * 5 + j - 5 = k * 5 + j by omega]
      exact ih k j x h hj

theorem rv_cells {w : World} {xs : List Rr} {b off k : Nat} {x : Rr} (hc : ∀ (i : Nat) (y : Value), (rvVs xs)[i]? = some y → w.cell? ⟨b, off + i, none⟩ = some y) (h : xs[k]? = some x) :
    w.cell? ⟨b, off + k * 5, none⟩ = some (.string x.own) ∧ w.cell? ⟨b, off + k * 5 + 1, none⟩ = some (.int .i64 x.ty) ∧ w.cell? ⟨b, off + k * 5 + 2, none⟩ = some (.int .i64 x.cl) ∧ w.cell? ⟨b, off + k * 5 + 3, none⟩ = some (.int .i64 x.tt) ∧ w.cell? ⟨b, off + k * 5 + 4, none⟩ = some (.string x.da) :=
  ⟨hc (k * 5) _ ((rvVs_at xs k 0 x h (by decide)).trans rfl), hc (k * 5 + 1) _ ((rvVs_at xs k 1 x h (by decide)).trans rfl), hc (k * 5 + 2) _ ((rvVs_at xs k 2 x h (by decide)).trans rfl), hc (k * 5 + 3) _ ((rvVs_at xs k 3 x h (by decide)).trans rfl), hc (k * 5 + 4) _ ((rvVs_at xs k 4 x h (by decide)).trans rfl)⟩

/-- The bytes of records, as the laws count them. -/
def rsum : List Rr → Nat
  | [] => 0
  | x :: xs => x.own.size + x.da.size + rsum xs
theorem rsum_step : ∀ (xs : List Rr) (k : Nat) (x : Rr), xs[k]? = some x → rsum (xs.take (k + 1)) = rsum (xs.take k) + (x.own.size + x.da.size) := by
  intro xs
  induction xs with
  | nil => intro k x h; simp at h
  | cons y xs ih =>
    intro k x h
    cases k with
    | zero => simp at h; subst h; simp [rsum]
    | succ k =>
      simp at h
      have := ih k x h
      simp only [List.take_succ_cons, rsum]; omega
theorem rsum_take_le : ∀ (xs : List Rr) (k : Nat), rsum (xs.take k) ≤ rsum xs := by
  intro xs
  induction xs with
  | nil => intro k; simp [rsum]
  | cons y xs ih =>
    intro k
    cases k with
    | zero => simp [rsum]
    | succ k => have := ih k; simp only [List.take_succ_cons, rsum]; omega
theorem rsum_mem : ∀ (xs : List Rr) (x : Rr), x ∈ xs → x.own.size + x.da.size ≤ rsum xs := by
  intro xs
  induction xs with
  | nil => intro x h; simp at h
  | cons y xs ih =>
    intro x h
    rcases List.mem_cons.1 h with rfl | h
    · simp only [rsum]; omega
    · have := ih x h; simp only [rsum]; omega
def szRS (xs : List Rr) (L : Int) : Int := if (xs.length : Int) + (rsum xs : Int) ≤ L then L - xs.length - rsum xs else -1
end Go.Proofs.Ytkiadnglbjamfaa
/- A name without its first labels: mathematics. -/
namespace Go.Proofs.Ytkiadnglbjamfaa
open Go.RowKit

def ancS (s : ByteArray) (n : Int) : ByteArray × Int :=
  match Nm.split s with
  | none => (ByteArray.empty, 32)
  | some ls => if 0 ≤ n ∧ n ≤ ls.length then (⟨(Nm.joinL (ls.drop n.toNat)).toArray⟩, 0) else (ByteArray.empty, 32)
end Go.Proofs.Ytkiadnglbjamfaa
