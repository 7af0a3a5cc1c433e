import Derived.Test.YtjokdmmlofbknaaDoorJJoin
import Derived.Test.YtjokdmmlofbknaaDoorJMath
import Derived.Laws.OwnMore
import Derived.RegionTactic
import Derived.BigRegion
import Derived.Test.YtjokdmmlofbknaaDoorBlocks
import Derived.Laws.BitsAllLaws
import Derived.Test.YtjokdmmlofbknaaDoorJFoldM
/- Rows of cells that are read; marks. -/
namespace Go.Proofs.YtjokdmmlofbknaaDoor
open Go.RowKit

/-- The cells 'cs' (n elements of s cells) lie where the slice 'v' leads. -/
def CRow (w : World) (v : Value) (n s : Nat) (cs : List Value) : Prop :=
  cs.length = n * s ∧ ∃ a cap, v = .slice a n cap ∧ n ≤ cap ∧ cap ≤ maxLen ∧
    (0 < n → ∃ b off, a = some ⟨b, off, none⟩ ∧ ∀ (i : Nat) (x : Value), cs[i]? = some x → w.cell? ⟨b, off + i, none⟩ = some x)

theorem CRow.of_owns {w : World} {B e s n : Nat} {v : Value} {cs : List Value} (h : w.ownsRow B e s v n cs) : CRow w v n s cs := by
  refine ⟨h.1, ?_⟩
  rcases h.2 with ⟨rfl, h0⟩ | ⟨g, cap, cur, rfl, hb, hg, hn, hm, hs, ht⟩
  · subst h0
    exact ⟨none, 0, rfl, Nat.le_refl _, by decide, fun h => by omega⟩
  · refine ⟨_, cap, rfl, hn, hm, fun _ => ⟨g, 0, rfl, ?_⟩⟩
    intro i x hx
    have hi : i < n * s := by rw [← h.1]; exact (List.getElem?_eq_some_iff.1 hx).1
    rw [Nat.zero_add, h.cellAt i hi]
    exact hx

theorem CRow.below {w w' : World} {v : Value} {n s : Nat} {cs : List Value} (h : CRow w v n s cs) (hb : Below w.heap.size w w') : CRow w' v n s cs := by
  obtain ⟨h0, a, cap, rfl, h1, h2, h3⟩ := h
  refine ⟨h0, a, cap, rfl, h1, h2, fun hp => ?_⟩
  obtain ⟨b, off, rfl, hc⟩ := h3 hp
  refine ⟨b, off, rfl, fun i x hx => ?_⟩
  have := hc i x hx
  rw [hb.cell (World.block_lt_of_cell? w _ this)]
  exact this

theorem own_apart {w w1 : World} {B B' e e' s s' n n' : Nat} {v u : Value} {xs ys : List Value} (h : w.ownsRow B e s v n xs) (h' : w.ownsRow B' e' s' u n' ys) (hne : e ≠ e') (hg : w.grownBy w1 u.ownBlock) : w1.ownsRow B e s v n xs := by
  refine h.kept hg ?_
  rcases h.2 with ⟨rfl, _⟩ | ⟨g, cap, cur, rfl, _, hh, _⟩
  · exact .inl rfl
  · right
    rcases h'.2 with ⟨rfl, _⟩ | ⟨g', cap', cur', rfl, _, hh', _⟩
    · simp [Value.ownBlock]
    · simp only [Value.ownBlock, ne_eq, Option.some.injEq]
      intro e2
      subst e2
      rw [hh] at hh'
      simp at hh'
      exact hne hh'.2

/-- The marks: k, k + 1, .. -/
def ints (k m : Nat) : List Value := (List.range m).map fun i => .int .i64 ((k + i : Nat) : Int)
theorem ints_len (k m : Nat) : (ints k m).length = m := by simp [ints]
theorem ints_get {k m i : Nat} (h : i < m) : (ints k m)[i]? = some (.int .i64 ((k + i : Nat) : Int)) := by simp [ints, h]
theorem ints_set {k m i : Nat} {xs : List Value} (hl : xs.length = m) (h : i < m) :
    ((ints k m).take i ++ xs.drop i).set i (.int .i64 ((k + i : Nat) : Int)) = (ints k m).take (i + 1) ++ xs.drop (i + 1) := by
  have h1 : ((ints k m).take i).length = i := by simp [ints_len]; omega
  have h2 : (ints k m).take (i + 1) = (ints k m).take i ++ [.int .i64 ((k + i : Nat) : Int)] := by
    obtain ⟨hi, e⟩ := List.getElem?_eq_some_iff.1 (ints_get (k := k) h)
    rw [List.take_succ_eq_append_getElem hi, e]
  rw [h2, List.set_append_right _ _ (by omega), h1, List.drop_eq_getElem_cons (by omega : i < xs.length), Nat.sub_self, List.set_cons_zero, List.append_assoc]
  rfl
theorem ints_cell {k m i j : Nat} {xs : List Value} (hl : xs.length = m) (h : j < m) : ∃ y, ((ints k m).take i ++ xs.drop i)[j]? = some y :=
  ⟨_, List.getElem?_eq_getElem (by simp [ints_len]; omega)⟩
theorem ints_done {k m : Nat} {xs : List Value} (hl : xs.length = m) : (ints k m).take m ++ xs.drop m = ints k m := by
  rw [List.take_of_length_le (by rw [ints_len]; omega), List.drop_of_length_le (by omega), List.append_nil]
end Go.Proofs.YtjokdmmlofbknaaDoor
/- Integers as cells. -/
namespace Go.Proofs.YtjokdmmlofbknaaDoor
open Go.RowKit

def intCells (l : List Int) : List Value := l.map fun x => .int .i64 x
theorem intCells_len (l : List Int) : (intCells l).length = l.length := by simp [intCells]

end Go.Proofs.YtjokdmmlofbknaaDoor
/- The types of a map: mathematics. -/
namespace Go.Proofs.YtjokdmmlofbknaaDoor
open Go.RowKit

def bitAt (c : UInt8) (j : Nat) : Bool := decide (c.toNat / 2 ^ (7 - j) % 2 = 1)
def bitOf (s : ByteArray) (i : Nat) : Bool := if h : i / 8 < s.size then bitAt s[i / 8] (i % 8) else false

theorem pow_half {r : Nat} (h : r < 8) : (128 : Int) / 2 ^ r = ((2 ^ (7 - r) : Nat) : Int) ∧ 2 ^ (7 - r) < 256 := by
  obtain rfl | rfl | rfl | rfl | rfl | rfl | rfl | rfl : r = 0 ∨ r = 1 ∨ r = 2 ∨ r = 3 ∨ r = 4 ∨ r = 5 ∨ r = 6 ∨ r = 7 := by omega
  all_goals exact ⟨by decide, by decide⟩

theorem and_pow (n k : Nat) : (n &&& 2 ^ k != 0) = decide (n / 2 ^ k % 2 = 1) := by
  have h : n.testBit k = decide (n / 2 ^ k % 2 = 1) := by rw [Nat.testBit_eq_decide_div_mod_eq]
  rw [← h]
  cases hb : n.testBit k with
  | true =>
    rw [bne_iff_ne]
    intro e
    have h2 : (n &&& 2 ^ k).testBit k = true := by rw [Nat.testBit_and, hb, Nat.testBit_two_pow_self]; rfl
    rw [e] at h2
    simp at h2
  | false =>
    rw [bne_eq_false_iff_eq]
    apply Nat.eq_of_testBit_eq
    intro i
    rw [Nat.testBit_and, Nat.testBit_two_pow, Nat.zero_testBit]
    by_cases hi : k = i
    · subst hi; rw [hb]; rfl
    · simp [hi]

theorem and_bit (c : UInt8) {r : Nat} (h : r < 8) : (bits .and .u8 (c.toNat : Int) ((128 : Int) / 2 ^ r) != 0) = bitAt c r := by
  obtain ⟨e1, e2⟩ := pow_half h
  rw [e1, u8_and_nat _ _ c.toNat_lt e2, bitAt, ← and_pow, Bool.eq_iff_iff, bne_iff_ne, bne_iff_ne]
  omega

theorem shr_bit (c : UInt8) (k : Nat) : (bits .and .u8 (((c.toNat / 2 ^ k : Nat)) : Int) 1 == 1) = decide (c.toNat / 2 ^ k % 2 = 1) := by
  have h1 : c.toNat / 2 ^ k < 256 := Nat.lt_of_le_of_lt (Nat.div_le_self _ _) c.toNat_lt
  have e := u8_and_nat (c.toNat / 2 ^ k) 1 h1 (by decide)
  have e1 : ((1 : Nat) : Int) = 1 := rfl
  rw [e1] at e
  rw [e, Nat.and_one_is_mod, Bool.eq_iff_iff, beq_iff_eq, decide_eq_true_iff]
  generalize c.toNat / 2 ^ k % 2 = q
  omega

/-- The types of a block whose bit stands below i. -/
def upTo (b : Nat × ByteArray) (i : Nat) : List Int := (List.range i).filterMap fun k => if bitOf b.2 k then some ((256 * b.1 + k : Nat) : Int) else none
def blkTypes (b : Nat × ByteArray) : List Int := upTo b (8 * b.2.size)
def typesOf (bl : List (Nat × ByteArray)) : List Int := bl.flatMap blkTypes

theorem upTo_yes {b : Nat × ByteArray} {i : Nat} (h : bitOf b.2 i = true) : upTo b (i + 1) = upTo b i ++ [((256 * b.1 + i : Nat) : Int)] := by
  simp [upTo, List.range_succ, h]
theorem upTo_no {b : Nat × ByteArray} {i : Nat} (h : bitOf b.2 i = false) : upTo b (i + 1) = upTo b i := by
  simp [upTo, List.range_succ, h]
theorem upTo_len (b : Nat × ByteArray) (i : Nat) : (upTo b i).length ≤ i := by
  have := List.length_filterMap_le (fun k => if bitOf b.2 k then some ((256 * b.1 + k : Nat) : Int) else none) (List.range i)
  simpa [upTo] using this

theorem types_step (bl : List (Nat × ByteArray)) (k : Nat) (b : Nat × ByteArray) (h : bl[k]? = some b) : typesOf (bl.take (k + 1)) = typesOf (bl.take k) ++ blkTypes b := by
  rw [Nm.take_step h]; simp [typesOf]

theorem blk_cells {bl : List (Nat × ByteArray)} {k : Nat} {x : Nat × ByteArray} (h : bl[k]? = some x) : (blkCells bl)[k * 2]? = some (.int .i64 (x.1 : Int)) ∧ (blkCells bl)[k * 2 + 1]? = some (.string x.2) := by
  induction bl generalizing k with
  | nil => simp at h
  | cons y bl ih =>
    cases k with
    | zero => simp at h; subst h; simp [blkCells]
    | succ k =>
      simp at h
      have := ih h
      have e : blkCells (y :: bl) = [.int .i64 (y.1 : Int), .string y.2] ++ blkCells bl := by simp [blkCells]
      rw [e, show (k + 1) * 2 = k * 2 + 2 by omega, show k * 2 + 2 + 1 = (k * 2 + 1) + 2 by omega]
      simpa using this

/-- What MapTypes answers. -/
def mapC (b : Bool) : Int := if b then 0 else 7
def mapL (b : Bool) (l : List Int) : List Int := if b then l else []

theorem Tryd.infoI64 : (Tryd.prog.info? 2).map (fun i => (i.zero, i.size, i.bytes)) = some (some (.int .i64 0), 1, 8) := by kernel_rfl

/-- How many bytes of bits a map's blocks have together. -/
def bitsLen : List (Nat × ByteArray) → Nat
  | [] => 0
  | b :: r => b.2.size + bitsLen r
theorem bitsLen_mem {bl : List (Nat × ByteArray)} {b : Nat × ByteArray} (h : b ∈ bl) : b.2.size ≤ bitsLen bl := by
  induction bl with
  | nil => simp at h
  | cons y bl ih =>
    rcases List.mem_cons.1 h with rfl | h
    · simp [bitsLen]
    · have := ih h; simp only [bitsLen]; omega
theorem bitsLen_take (bl : List (Nat × ByteArray)) (k : Nat) : bitsLen (bl.take k) ≤ bitsLen bl := by
  induction bl generalizing k with
  | nil => simp [bitsLen]
  | cons y bl ih =>
    cases k with
    | zero => simp [bitsLen]
    | succ k => simp only [List.take_succ_cons, bitsLen]; have := ih k; omega
theorem types_len (bl : List (Nat × ByteArray)) : (typesOf bl).length ≤ 8 * bitsLen bl := by
  induction bl with
  | nil => simp [typesOf, bitsLen]
  | cons y bl ih =>
    have e : typesOf (y :: bl) = blkTypes y ++ typesOf bl := by simp [typesOf]
    have := upTo_len y (8 * y.2.size)
    rw [e, List.length_append, bitsLen, blkTypes]; omega
theorem blocksF_bits : ∀ (f : Nat) (s : ByteArray), bitsLen (blocksF f s) ≤ s.size := by
  intro f
  induction f with
  | zero => intro s; simp [blocksF, bitsLen]
  | succ f ih =>
    intro s
    rw [blocksF]
    split
    · rename_i h
      have := ih (s.extract (s[1].toNat + 2) s.size)
      have hz : (s.extract (s[1].toNat + 2) s.size).size = s.size - (s[1].toNat + 2) := by simp
      have hz2 : (s.extract 2 (s[1].toNat + 2)).size ≤ s[1].toNat := by simp; omega
      have hz3 : (s.extract 2 (s[1].toNat + 2)).size ≤ s.size - 2 := by simp; omega
      simp only [bitsLen]
      omega
    · simp [bitsLen]
theorem blocksF_len : ∀ (f : Nat) (s : ByteArray), (blocksF f s).length ≤ s.size := by
  intro f
  induction f with
  | zero => intro s; simp [blocksF]
  | succ f ih =>
    intro s
    rw [blocksF]
    split
    · rename_i h
      have := ih (s.extract (s[1].toNat + 2) s.size)
      have hz : (s.extract (s[1].toNat + 2) s.size).size = s.size - (s[1].toNat + 2) := by simp
      simp only [List.length_cons]
      omega
    · simp
theorem blocks_bits (s : ByteArray) : bitsLen (blocksS s) ≤ s.size := blocksF_bits _ s
theorem blocksF_win : ∀ (f : Nat) (s : ByteArray) (b : Nat × ByteArray), b ∈ blocksF f s → b.1 < 256 := by
  intro f
  induction f with
  | zero => intro s b h; simp [blocksF] at h
  | succ f ih =>
    intro s b h
    rw [blocksF] at h
    split at h
    · rcases List.mem_cons.1 h with rfl | h
      · exact s[0].toNat_lt
      · exact ih _ _ h
    · simp at h
end Go.Proofs.YtjokdmmlofbknaaDoor
/- The parts of data, step by step: mathematics. -/
namespace Go.Proofs.YtjokdmmlofbknaaDoor.Dt
open Go.RowKit

/-- Where the cutting stands: 'ps' are the parts that were cut off, 'd' is the rest, 'r' the letters that are left. -/
def PAt (fs : List Pc) (d0 : ByteArray) (ps : List ByteArray) (r : List Pc) (d : ByteArray) : Prop :=
  parts fs d0 = (parts r d).map (fun t => ps ++ t)

theorem pat_start (fs : List Pc) (d0 : ByteArray) : PAt fs d0 [] fs d0 := by simp [PAt]
theorem pat_end {fs : List Pc} {d0 d : ByteArray} {ps : List ByteArray} (h : PAt fs d0 ps [] d) (h0 : d.size = 0) : parts fs d0 = some ps := by
  rw [h, parts, if_pos h0]; simp
theorem pat_left {fs : List Pc} {d0 d : ByteArray} {ps : List ByteArray} (h : PAt fs d0 ps [] d) (h0 : d.size ≠ 0) : parts fs d0 = none := by
  rw [h, parts, if_neg h0]; rfl
theorem pat_none {fs r : List Pc} {p : Pc} {d0 d : ByteArray} {ps : List ByteArray} (h : PAt fs d0 ps (p :: r) d) (h0 : sz p d = none) : parts fs d0 = none := by
  rw [h, parts, h0]; rfl
theorem pat_step {fs r : List Pc} {p : Pc} {d0 d x : ByteArray} {ps : List ByteArray} {n : Nat} (h : PAt fs d0 ps (p :: r) d) (h0 : sz p d = some n) (hx : d.extract 0 n = x) : PAt fs d0 (ps ++ [x]) r (d.extract x.size d.size) := by
  have hn := sz_le h0
  have e : x.size = n := by rw [← hx]; simp; omega
  rw [PAt, h, parts, h0, Option.map_map, hx, e]
  congr 1; funext t; simp

theorem drop_let {f : ByteArray} {k : Nat} (hk : k < f.size) : (f.data.toList.map letP).drop k = letP f[k] :: (f.data.toList.map letP).drop (k + 1) := by
  have hl : k < (f.data.toList.map letP).length := by simpa using hk
  rw [List.drop_eq_getElem_cons hl]
  simp
  rfl

theorem name_ext (d : ByteArray) (h : (nameAtS d).size ≠ 0) : d.extract 0 (nameAtS d).size = nameAtS d := by
  obtain ⟨e, e1, e2, e3, e4, e5⟩ := nameF_name 256 d 0 h
  have e6 : nameAtS d = d.extract 0 e := e4
  have e7 : (nameAtS d).size = e := by rw [e6]; simp; omega
  rw [e7, e6]

theorem txt_ext (d : ByteArray) : d.extract 0 (txtS d).size = txtS d := by
  by_cases h : 0 < d.size
  · by_cases h1 : d[0].toNat + 1 ≤ d.size
    · have e : txtS d = d.extract 0 (d[0].toNat + 1) := by rw [txtS, dif_pos h, if_pos h1]
      have e7 : (txtS d).size = d[0].toNat + 1 := by rw [e]; simp; omega
      rw [e7, e]
    · have e : txtS d = ByteArray.empty := by rw [txtS, dif_pos h, if_neg h1]
      rw [e]; simp
  · have e : txtS d = ByteArray.empty := by rw [txtS, dif_neg h]
    rw [e]; simp

theorem ext_none (d : ByteArray) : d.extract d.size d.size = ByteArray.empty := by
  apply Nm.ba_ext
  simp

/-- Where the reading of short texts stands. -/
def TAt (d p : ByteArray) : Prop := p.size ≤ d.size ∧ d.extract 0 p.size = p ∧ txsS d = p.size + txsS (d.extract p.size d.size)

theorem tat_start (d : ByteArray) : TAt d ⟨#[]⟩ := by
  have e : (⟨#[]⟩ : ByteArray).size = 0 := rfl
  refine ⟨by omega, ?_, ?_⟩
  · rw [e]
    apply Nm.ba_ext
    simp
  · rw [e]; simp
theorem tat_end {d p : ByteArray} (h : TAt d p) (h0 : (txtS (d.extract p.size d.size)).size = 0) : txsS d = p.size := by
  rw [h.2.2, txs_none h0]; rfl
theorem tat_step {d p : ByteArray} (h : TAt d p) (h0 : (txtS (d.extract p.size d.size)).size ≠ 0) : TAt d (p ++ txtS (d.extract p.size d.size)) := by
  obtain ⟨h1, h2, h3⟩ := h
  have ht := txt_le (d.extract p.size d.size)
  have hte := txt_ext (d.extract p.size d.size)
  generalize hT : txtS (d.extract p.size d.size) = T at *
  have hz : (p ++ T).size = p.size + T.size := by simp
  have hd : (d.extract p.size d.size).size = d.size - p.size := by simp
  refine ⟨by omega, ?_, ?_⟩
  · apply Nm.ba_ext
    rw [hz]
    have e1 : (p ++ T).data.toList = p.data.toList ++ T.data.toList := by simp
    rw [e1, ← hte]
    conv => rhs; arg 1; rw [← h2]
    simp only [ByteArray.data_extract, Array.toList_extract, List.extract_eq_take_drop]
    simp
    rw [List.take_add]
    congr 1
    rw [List.take_take, Nat.min_eq_left (by omega)]
  · rw [hz, h3, txs_step (by rw [hT]; exact h0), hT]
    have e : (d.extract p.size d.size).extract T.size (d.extract p.size d.size).size = d.extract (p.size + T.size) d.size := ext_ext (by omega) (Nat.le_refl _)
    rw [e]; omega

/-- Where the reading of a tag stands. -/
theorem tag_short {d : ByteArray} (h : (txtS d).size < 2 ∨ 16 < (txtS d).size) : tagB d = false := by
  rw [tagB]
  rcases h with h | h
  · simp; omega
  · simp; omega
theorem tag_bad {d : ByteArray} {k : Nat} (hk : 1 ≤ k) (hl : k < (txtS d).size) (h : alnumB (txtS d)[k] = false) : tagB d = false := by
  rw [tagB, Bool.and_eq_false_iff]
  right
  rw [List.all_eq_false]
  refine ⟨(txtS d)[k], ?_, by simp [h]⟩
  have : ((txtS d).data.toList.drop 1)[k - 1]? = some (txtS d)[k] := by
    rw [List.getElem?_drop, show 1 + (k - 1) = k by omega]
    exact Nm.get_data hl
  exact List.mem_of_getElem? this
theorem tag_good {d : ByteArray} (h2 : 2 ≤ (txtS d).size) (h16 : (txtS d).size ≤ 16) (h : ∀ j, 1 ≤ j → (hj : j < (txtS d).size) → alnumB (txtS d)[j] = true) : tagB d = true := by
  rw [tagB]
  simp only [h2, h16, decide_true, Bool.true_and, List.all_eq_true]
  intro c hc
  obtain ⟨i, hi⟩ := List.getElem?_of_mem hc
  rw [List.getElem?_drop] at hi
  have hl : 1 + i < (txtS d).size := by
    have := (List.getElem?_eq_some_iff.1 hi).1
    simpa using this
  rw [Nm.get_data hl] at hi
  simp at hi
  rw [← hi]
  exact h _ (by omega) hl
end Go.Proofs.YtjokdmmlofbknaaDoor.Dt
