import Derived.Test.YtechmpdfbpehiaaGreatDoorJMath
import Derived.Laws.OwnMore
import Derived.RegionTactic
import Derived.BigRegion
import Derived.Test.YtechmpdfbpehiaaGreatDoorBlocks
import Derived.Laws.BitsAllLaws
import Derived.Test.YtechmpdfbpehiaaGreatDoorRows
import Derived.ProofKit
import Derived.LaidMore
import Derived.OpenShut
import Derived.Below
import Derived.Lib.LaidTab
import Derived.MakeChecks
/- Rows of cells that are read; marks. -/
namespace Go.Proofs.YtechmpdfbpehiaaGreatDoor
open Go.RowKit

/-- The cells 'cs' (n elements of s cells) lie where the slice 'v' leads. -/
def CRow (w : World) (v : Value) (n s : Nat) (cs : List Value) : Prop :=
  cs.length = n * s ∧ ∃ a cap, v = .slice a n cap ∧ n ≤ cap ∧ cap ≤ maxLen ∧
    (0 < n → ∃ b off, a = some ⟨b, off, none⟩ ∧ ∀ (i : Nat) (x : Value), cs[i]? = some x → w.cell? ⟨b, off + i, none⟩ = some x)

theorem CRow.of_owns {w : World} {B e s n : Nat} {v : Value} {cs : List Value} (h : w.ownsRow B e s v n cs) : CRow w v n s cs := by
  refine ⟨h.1, ?_⟩
  rcases h.2 with ⟨rfl, h0⟩ | ⟨g, cap, cur, rfl, hb, hg, hn, hm, hs, ht⟩
  · subst h0
    exact ⟨none, 0, rfl, Nat.le_refl _, by decide, fun h => by omega⟩
  · refine ⟨_, cap, rfl, hn, hm, fun _ => ⟨g, 0, rfl, ?_⟩⟩
    intro i x hx
    have hi : i < n * s := by rw [← h.1]; exact (List.getElem?_eq_some_iff.1 hx).1
    rw [Nat.zero_add, h.cellAt i hi]
    exact hx

theorem CRow.below {w w' : World} {v : Value} {n s : Nat} {cs : List Value} (h : CRow w v n s cs) (hb : Below w.heap.size w w') : CRow w' v n s cs := by
  obtain ⟨h0, a, cap, rfl, h1, h2, h3⟩ := h
  refine ⟨h0, a, cap, rfl, h1, h2, fun hp => ?_⟩
  obtain ⟨b, off, rfl, hc⟩ := h3 hp
  refine ⟨b, off, rfl, fun i x hx => ?_⟩
  have := hc i x hx
  rw [hb.cell (World.block_lt_of_cell? w _ this)]
  exact this

theorem own_apart {w w1 : World} {B B' e e' s s' n n' : Nat} {v u : Value} {xs ys : List Value} (h : w.ownsRow B e s v n xs) (h' : w.ownsRow B' e' s' u n' ys) (hne : e ≠ e') (hg : w.grownBy w1 u.ownBlock) : w1.ownsRow B e s v n xs := by
  refine h.kept hg ?_
  rcases h.2 with ⟨rfl, _⟩ | ⟨g, cap, cur, rfl, _, hh, _⟩
  · exact .inl rfl
  · right
    rcases h'.2 with ⟨rfl, _⟩ | ⟨g', cap', cur', rfl, _, hh', _⟩
    · simp [Value.ownBlock]
    · simp only [Value.ownBlock, ne_eq, Option.some.injEq]
      intro e2
      subst e2
      rw [hh] at hh'
      simp at hh'
      exact hne hh'.2

/-- The marks: k, k + 1, .. -/
def ints (k m : Nat) : List Value := (List.range m).map fun i => .int .i64 ((k + i : Nat) : Int)
theorem ints_len (k m : Nat) : (ints k m).length = m := by simp [ints]
theorem ints_get {k m i : Nat} (h : i < m) : (ints k m)[i]? = some (.int .i64 ((k + i : Nat) : Int)) := by simp [ints, h]
theorem ints_set {k m i : Nat} {xs : List Value} (hl : xs.length = m) (h : i < m) :
    ((ints k m).take i ++ xs.drop i).set i (.int .i64 ((k + i : Nat) : Int)) = (ints k m).take (i + 1) ++ xs.drop (i + 1) := by
  have h1 : ((ints k m).take i).length = i := by simp [ints_len]; omega
  have h2 : (ints k m).take (i + 1) = (ints k m).take i ++ [.int .i64 ((k + i : Nat) : Int)] := by
    obtain ⟨hi, e⟩ := List.getElem?_eq_some_iff.1 (ints_get (k := k) h)
    rw [List.take_succ_eq_append_getElem hi, e]
  rw [h2, List.set_append_right _ _ (by omega), h1, List.drop_eq_getElem_cons (by omega : i < xs.length), Nat.sub_self, List.set_cons_zero, List.append_assoc]
  rfl
theorem ints_cell {k m i j : Nat} {xs : List Value} (hl : xs.length = m) (h : j < m) : ∃ y, ((ints k m).take i ++ xs.drop i)[j]? = some y :=
  ⟨_, List.getElem?_eq_getElem (by simp [ints_len]; omega)⟩
theorem ints_done {k m : Nat} {xs : List Value} (hl : xs.length = m) : (ints k m).take m ++ xs.drop m = ints k m := by
  rw [List.take_of_length_le (by rw [ints_len]; omega), List.drop_of_length_le (by omega), List.append_nil]
end Go.Proofs.YtechmpdfbpehiaaGreatDoor
/- Integers as cells. -/
namespace Go.Proofs.YtechmpdfbpehiaaGreatDoor
open Go.RowKit

def intCells (l : List Int) : List Value := l.map fun x => .int .i64 x
theorem intCells_len (l : List Int) : (intCells l).length = l.length := by simp [intCells]

end Go.Proofs.YtechmpdfbpehiaaGreatDoor
/- The types of a map: mathematics. -/
namespace Go.Proofs.YtechmpdfbpehiaaGreatDoor
open Go.RowKit

def bitAt (c : UInt8) (j : Nat) : Bool := decide (c.toNat / 2 ^ (7 - j) % 2 = 1)
def bitOf (s : ByteArray) (i : Nat) : Bool := if h : i / 8 < s.size then bitAt s[i / 8] (i % 8) else false

theorem pow_half {r : Nat} (h : r < 8) : (128 : Int) / 2 ^ r = ((2 ^ (7 - r) : Nat) : Int) ∧ 2 ^ (7 - r) < 256 := by
  obtain rfl | rfl | rfl | rfl | rfl | rfl | rfl | rfl : r = 0 ∨ r = 1 ∨ r = 2 ∨ r = 3 ∨ r = 4 ∨ r = 5 ∨ r = 6 ∨ r = 7 := by omega
  all_goals exact ⟨by decide, by decide⟩

theorem and_pow (n k : Nat) : (n &&& 2 ^ k != 0) = decide (n / 2 ^ k % 2 = 1) := by
  have h : n.testBit k = decide (n / 2 ^ k % 2 = 1) := by rw [Nat.testBit_eq_decide_div_mod_eq]
  rw [← h]
  cases hb : n.testBit k with
  | true =>
    rw [bne_iff_ne]
    intro e
    have h2 : (n &&& 2 ^ k).testBit k = true := by rw [Nat.testBit_and, hb, Nat.testBit_two_pow_self]; rfl
    rw [e] at h2
    simp at h2
  | false =>
    rw [bne_eq_false_iff_eq]
    apply Nat.eq_of_testBit_eq
    intro i
    rw [Nat.testBit_and, Nat.testBit_two_pow, Nat.zero_testBit]
    by_cases hi : k = i
    · subst hi; rw [hb]; rfl
    · simp [hi]

theorem and_bit (c : UInt8) {r : Nat} (h : r < 8) : (bits .and .u8 (c.toNat : Int) ((128 : Int) / 2 ^ r) != 0) = bitAt c r := by
  obtain ⟨e1, e2⟩ := pow_half h
  rw [e1, u8_and_nat _ _ c.toNat_lt e2, bitAt, ← and_pow, Bool.eq_iff_iff, bne_iff_ne, bne_iff_ne]
  omega

theorem shr_bit (c : UInt8) (k : Nat) : (bits .and .u8 (((c.toNat / 2 ^ k : Nat)) : Int) 1 == 1) = decide (c.toNat / 2 ^ k % 2 = 1) := by
  have h1 : c.toNat / 2 ^ k < 256 := Nat.lt_of_le_of_lt (Nat.div_le_self _ _) c.toNat_lt
  have e := u8_and_nat (c.toNat / 2 ^ k) 1 h1 (by decide)
  have e1 : ((1 : Nat) : Int) = 1 := rfl
  rw [e1] at e
  rw [e, Nat.and_one_is_mod, Bool.eq_iff_iff, beq_iff_eq, decide_eq_true_iff]
  generalize c.toNat / 2 ^ k % 2 = q
  omega

/-- The types of a block whose bit stands below i. -/
def upTo (b : Nat × ByteArray) (i : Nat) : List Int := (List.range i).filterMap fun k => if bitOf b.2 k then some ((256 * b.1 + k : Nat) : Int) else none
def blkTypes (b : Nat × ByteArray) : List Int := upTo b (8 * b.2.size)
def typesOf (bl : List (Nat × ByteArray)) : List Int := bl.flatMap blkTypes

theorem upTo_yes {b : Nat × ByteArray} {i : Nat} (h : bitOf b.2 i = true) : upTo b (i + 1) = upTo b i ++ [((256 * b.1 + i : Nat) : Int)] := by
  simp [upTo, List.range_succ, h]
theorem upTo_no {b : Nat × ByteArray} {i : Nat} (h : bitOf b.2 i = false) : upTo b (i + 1) = upTo b i := by
  simp [upTo, List.range_succ, h]
theorem upTo_len (b : Nat × ByteArray) (i : Nat) : (upTo b i).length ≤ i := by
  have := List.length_filterMap_le (fun k => if bitOf b.2 k then some ((256 * b.1 + k : Nat) : Int) else none) (List.range i)
  simpa [upTo] using this

theorem types_step (bl : List (Nat × ByteArray)) (k : Nat) (b : Nat × ByteArray) (h : bl[k]? = some b) : typesOf (bl.take (k + 1)) = typesOf (bl.take k) ++ blkTypes b := by
  rw [Nm.take_step h]; simp [typesOf]

theorem blk_cells {bl : List (Nat × ByteArray)} {k : Nat} {x : Nat × ByteArray} (h : bl[k]? = some x) : (blkCells bl)[k * 2]? = some (.int .i64 (x.1 : Int)) ∧ (blkCells bl)[k * 2 + 1]? = some (.string x.2) := by
  induction bl generalizing k with
  | nil => simp at h
  | cons y bl ih =>
    cases k with
    | zero => simp at h; subst h; simp [blkCells]
    | succ k =>
      simp at h
      have := ih h
      have e : blkCells (y :: bl) = [.int .i64 (y.1 : Int), .string y.2] ++ blkCells bl := by simp [blkCells]
      rw [e, show (k + 1) * 2 = k * 2 + 2 by omega, show k * 2 + 2 + 1 = (k * 2 + 1) + 2 by omega]
      simpa using this

/-- What MapTypes answers. -/
def mapC (b : Bool) : Int := if b then 0 else 7
def mapL (b : Bool) (l : List Int) : List Int := if b then l else []

theorem Tryz.infoI64 : (Tryz.prog.info? 2).map (fun i => (i.zero, i.size, i.bytes)) = some (some (.int .i64 0), 1, 8) := by kernel_rfl

/-- How many bytes of bits a map's blocks have together. -/
def bitsLen : List (Nat × ByteArray) → Nat
  | [] => 0
  | b :: r => b.2.size + bitsLen r
theorem bitsLen_mem {bl : List (Nat × ByteArray)} {b : Nat × ByteArray} (h : b ∈ bl) : b.2.size ≤ bitsLen bl := by
  induction bl with
  | nil => simp at h
  | cons y bl ih =>
    rcases List.mem_cons.1 h with rfl | h
    · simp [bitsLen]
    · have := ih h; simp only [bitsLen]; omega
theorem bitsLen_take (bl : List (Nat × ByteArray)) (k : Nat) : bitsLen (bl.take k) ≤ bitsLen bl := by
  induction bl generalizing k with
  | nil => simp [bitsLen]
  | cons y bl ih =>
    cases k with
    | zero => simp [bitsLen]
    | succ k => simp only [List.take_succ_cons, bitsLen]; have := ih k; omega
theorem types_len (bl : List (Nat × ByteArray)) : (typesOf bl).length ≤ 8 * bitsLen bl := by
  induction bl with
  | nil => simp [typesOf, bitsLen]
  | cons y bl ih =>
    have e : typesOf (y :: bl) = blkTypes y ++ typesOf bl := by simp [typesOf]
    have := upTo_len y (8 * y.2.size)
    rw [e, List.length_append, bitsLen, blkTypes]; omega
theorem blocksF_bits : ∀ (f : Nat) (s : ByteArray), bitsLen (blocksF f s) ≤ s.size := by
  intro f
  induction f with
  | zero => intro s; simp [blocksF, bitsLen]
  | succ f ih =>
    intro s
    rw [blocksF]
    split
    · rename_i h
      have := ih (s.extract (s[1].toNat + 2) s.size)
      have hz : (s.extract (s[1].toNat + 2) s.size).size = s.size - (s[1].toNat + 2) := by simp
      have hz2 : (s.extract 2 (s[1].toNat + 2)).size ≤ s[1].toNat := by simp; omega
      have hz3 : (s.extract 2 (s[1].toNat + 2)).size ≤ s.size - 2 := by simp; omega
      simp only [bitsLen]
      omega
    · simp [bitsLen]
theorem blocksF_len : ∀ (f : Nat) (s : ByteArray), (blocksF f s).length ≤ s.size := by
  intro f
  induction f with
  | zero => intro s; simp [blocksF]
  | succ f ih =>
    intro s
    rw [blocksF]
    split
    · rename_i h
      have := ih (s.extract (s[1].toNat + 2) s.size)
      have hz : (s.extract (s[1].toNat + 2) s.size).size = s.size - (s[1].toNat + 2) := by simp
      simp only [List.length_cons]
      omega
    · simp
theorem blocks_bits (s : ByteArray) : bitsLen (blocksS s) ≤ s.size := blocksF_bits _ s
theorem blocksF_win : ∀ (f : Nat) (s : ByteArray) (b : Nat × ByteArray), b ∈ blocksF f s → b.1 < 256 := by
  intro f
  induction f with
  | zero => intro s b h; simp [blocksF] at h
  | succ f ih =>
    intro s b h
    rw [blocksF] at h
    split at h
    · rcases List.mem_cons.1 h with rfl | h
      · exact s[0].toNat_lt
      · exact ih _ _ h
    · simp at h
end Go.Proofs.YtechmpdfbpehiaaGreatDoor
/- impl.MapTypes by its contract. -/
namespace Go.Proofs.YtechmpdfbpehiaaGreatDoor
open Go.RowKit

theorem own_not {w : World} {B n g : Nat} {v : Value} {xs : List Value} {cs : Array Value} (h : w.ownsRow B 2 1 v n xs) (hc : w.heap[g]? = some (.cells cs 171 (0, 0))) : v.ownBlock ≠ some g := by
  rcases h.2 with ⟨rfl, _⟩ | ⟨g', cap, cur, rfl, _, hh, _⟩
  · simp [Value.ownBlock]
  · simp only [Value.ownBlock, ne_eq, Option.some.injEq]
    intro e
    subst e
    rw [hc] at hh
    simp at hh

theorem grown_keep {w w6 : World} {g : Nat} {row : Option Nat} {O : Obj} (h : (w.drew.alloc O).grownBy w6 row) (hg : g < w.heap.size) (hne : row ≠ some g) : w6.heap[g]? = w.heap[g]? := by
  have hb := h.block g (by simp; omega) (fun e => hne e.symm)
  have hb2 : Below w.heap.size w (w.drew.alloc O) := ((Below.refl _ w).drew).alloc (Nat.le_refl _) _
  exact hb.trans (hb2.block g hg)

set_option maxRecDepth 100000 in
set_option maxHeartbeats 4000000 in
theorem implMapTypes_any (s : ByteArray) (w : World) (hs : s.size ≤ 2000000) :
    Calls Tryz.prog 123 #[.string s] w fun e w' => ∃ v, e = .returned (.tuple #[v, .int .i64 (mapC (mapS s))]) ∧
      w'.ownsRow w.heap.size 2 1 v (mapL (mapS s) (typesOf (blocksS s))).length (intCells (mapL (mapS s) (typesOf (blocksS s)))) ∧ Below w.heap.size w w' := by
  obtain ⟨i0, hi, hz0, hz1, hz2⟩ := info_parts Tryz.infoI64
  have hcall := mapBlocks_any s w hs
  cases hM : mapS s with
  | false =>
    rw [hM] at hcall
    clear hM
    go_enter Tryz.func123, Tryz.ntmps123
    go_wp2_with (go_at_call 147; refine hcall.mono ?_; rintro e w1 ⟨v, rfl, _, hbel⟩)
    go_ret2
    exact ⟨_, rfl, World.ownsRow_nil _ _ _ _, hbel⟩
  | true =>
    rw [hM] at hcall
    have hbits := blocks_bits s
    have hwin : ∀ b ∈ blocksS s, b.1 < 256 := fun b hb => blocksF_win _ s b hb
    have hbl : ∀ b ∈ blocksS s, b.2.size ≤ 2000000 := fun b hb => by have := bitsLen_mem hb; omega
    have hlen : (blocksS s).length ≤ 2000000 := by have := blocksF_len (s.size + 1) s; unfold blocksS; omega
    clear hM
    generalize blocksS s = bl at *
    have hcall : Calls Tryz.prog 147 #[.string s] w fun e w' => ∃ v, e = .returned (.tuple #[v, .bool true]) ∧ CRow w' v bl.length 2 (blkCells bl) ∧ Below w.heap.size w w' := by
      refine hcall.mono ?_
      rintro e w' ⟨v, rfl, h1, h2⟩
      exact ⟨v, rfl, CRow.of_owns (h1 rfl), h2⟩
    go_enter Tryz.func123, Tryz.ntmps123
    go_wp2_with (go_at_call 147; refine hcall.mono ?_; rintro e w1 ⟨vb, rfl, ⟨_, ab, capb, rfl, hcapb, hmxb, hc⟩, hb1⟩)
    clear hcall
    go_loopw [6, 19] (fun v i wr => ∃ (k n : Nat) (l : List Int), k ≤ bl.length ∧ i = .int .i64 k ∧ n ≤ 16000000 ∧ Hid (l.length = n) ∧ Hid (l = typesOf (bl.take k)) ∧ wr.ownsRow w1.heap.size 2 1 v n (intCells l) ∧ Below w1.heap.size w1 wr)
      (fun _ i _ => bl.length - (intOf i).toNat)
    case atStart => exact ⟨0, 0, [], Nat.zero_le _, rfl, by omega, rfl, rfl, World.ownsRow_nil _ _ _ _, Below.refl _ _⟩
    case round =>
      obtain ⟨k, n, l, hk, rfl, hn, HL, HT, hown, hbel⟩ := hrel
      have hsz := hbel.size
      by_cases hlt : k < bl.length
      · have hlt' : (k : Int) < (bl.length : Int) := by omega
        obtain ⟨x, hx⟩ : ∃ x, bl[k]? = some x := ⟨_, List.getElem?_eq_getElem hlt⟩
        obtain ⟨s1, s2⟩ := blk_cells hx
        have hxw := hwin x (List.mem_of_getElem? hx)
        have hxz := hbl x (List.mem_of_getElem? hx)
        obtain ⟨b, off, rfl, hcell⟩ := hc (by omega)
        have put : ∀ {B O : Nat} {z : Value}, w1.cell? ⟨B, O, none⟩ = some z → wr.cell? ⟨B, O, none⟩ = some z := fun h => (hbel.cell (World.block_lt_of_cell? w1 _ h)).trans h
        have c1 := put (hcell _ _ s1)
        have c2 := put (hcell _ _ s2)
        rw [← Nat.add_assoc] at c2
        clear hc hcell s1 s2 put
        obtain ⟨wo, hwo⟩ : ∃ wo, wo = wr := ⟨wr, rfl⟩
        subst hwo
        have hC0 : (wo.alloc (.cells #[.int .i64 (x.1 : Int), .string x.2] 171)).heap[wo.heap.size]? = some (.cells #[.int .i64 (x.1 : Int), .string x.2] 171 (0, 0)) := heap_alloc_new wo _
        have hW0 : Below w1.heap.size w1 (wo.alloc (.cells #[.int .i64 (x.1 : Int), .string x.2] 171)) := hbel.alloc hsz _
        have hO0 := hown.alloc (.cells #[.int .i64 (x.1 : Int), .string x.2] 171)
        go_wp2
        go_loopw [6, 27] (fun v i wr => ∃ (j m : Nat) (l' : List Int), j ≤ 8 * x.2.size ∧ i = .int .i64 j ∧ m ≤ n + j ∧ Hid (l'.length = m) ∧ Hid (l' = l ++ upTo x j) ∧ wr.heap[wo.heap.size]? = some (.cells #[.int .i64 (x.1 : Int), .string x.2] 171 (0, 0)) ∧ wr.ownsRow w1.heap.size 2 1 v m (intCells l') ∧ wo.heap.size < wr.heap.size ∧ Below w1.heap.size w1 wr)
          (fun _ i _ => 8 * x.2.size - (intOf i).toNat)
        case atStart => exact ⟨0, n, l, by omega, rfl, by omega, HL, by show _ = _; simp [upTo], hC0, hO0, by simp, hW0⟩
        case round =>
          obtain ⟨j, m, l', hj, rfl, hm, HL', HT', hch, hown', hzw, hbel'⟩ := hrel
          have hc0 : wr.cell? ⟨wo.heap.size, 0, none⟩ = some (.int .i64 (x.1 : Int)) := by rw [cell_of_row wr wo.heap.size 0 _ _ _ hch]; rfl
          have hc1 : wr.cell? ⟨wo.heap.size, 1, none⟩ = some (.string x.2) := by rw [cell_of_row wr wo.heap.size 1 _ _ _ hch]; rfl
          have HCH := Nm.hide hch
          clear hC0 hW0 hO0 hown hch
          by_cases hjl : j < 8 * x.2.size
          · have hjl' : (j : Int) < 8 * (x.2.size : Int) := by omega
            have hi8 : j / 8 < x.2.size := by omega
            have hi8' : (j : Int) / 8 < (x.2.size : Int) := by omega
            have hj0 : (0 : Int) ≤ (j : Int) / 8 := by omega
            have hwj : IntKind.i64.wrap ((j : Int) / 8) = (j : Int) / 8 := Go.wrap_small _ (by omega) (by omega)
            have hwm : IntKind.i64.wrap ((j : Int) % 8) = (j : Int) % 8 := Go.wrap_small _ (by omega) (by omega)
            have htn : ((j : Int) / 8).toNat = j / 8 := by omega
            have hbit := and_bit x.2[j / 8] (r := j % 8) (by omega)
            have hbo : bitOf x.2 j = bitAt x.2[j / 8] (j % 8) := by rw [bitOf, dif_pos hi8]
            cases hB : bitAt x.2[j / 8] (j % 8) with
            | true =>
              have hT : l ++ upTo x (j + 1) = l' ++ [((256 * x.1 + j : Nat) : Int)] := by rw [upTo_yes (by rw [hbo, hB]), HT'.out, List.append_assoc]
              have HT2 := Nm.hide hT
              have HL2 : Hid ((l' ++ [((256 * x.1 + j : Nat) : Int)]).length = m + 1) := by show _ = _; rw [List.length_append, HL'.out]; rfl
              have hcc : intCells l' ++ [.int .i64 (256 * (x.1 : Int) + (j : Int))] = intCells (l' ++ [((256 * x.1 + j : Nat) : Int)]) := by simp [intCells]
              have HCC := Nm.hide hcc
              rw [hB] at hbit
              have hszr := hbel'.size
              clear hB hbo hT hcc HT' HL'
              go_wp2
              go_region
              go_wp2_with (at_builtin; refine wpList_append_own _ rfl (.tmp 40) (.tmp 46) 61 rfl w1.heap.size 2 i0 (.int .i64 0) 1 8 Tryz.underlying61 hi hz0 hz1 hz2 rfl (by decide) _ _ _ rfl (hown'.alloc _) ⟨wr.heap.size, 0, none⟩ 1 1 [.int .i64 (256 * (x.1 : Int) + (j : Int))] rfl rfl (cell_new1 _ _ _) (Nm.one_cell _ rfl) (by unfold maxLen; omega) (by omega) (by simp; omega) ?_)
              intro v' w6 hown6 hgrow _
              rw [HCC.out] at hown6
              have hgrow' : (wr.drew.alloc (.cells #[.int .i64 (256 * (x.1 : Int) + (j : Int))] 2)).grownBy w6 u6.ownBlock := hgrow
              have hb6 : Below w1.heap.size w1 w6 := (hbel'.drew.alloc hszr _).grown hgrow' (by simp; omega) (fun q hq => (hown'.lt q hq).1)
              have hne : u6.ownBlock ≠ some wo.heap.size := own_not hown' HCH.out
              have hk6 : w6.heap[wo.heap.size]? = some (.cells #[.int .i64 (x.1 : Int), .string x.2] 171 (0, 0)) := (grown_keep hgrow' hzw hne).trans HCH.out
              have hz6 : wo.heap.size < w6.heap.size := by have := hgrow'.size; simp at this; omega
              clear hgrow hgrow' hown' hbel' hc0 hc1
              go_wp2
              go_roundw
              case rel => exact ⟨j + 1, m + 1, _, by omega, by go_num, by omega, HL2, HT2.out.symm, hk6, hown6, hz6, hb6⟩
              case measure => simp [intOf]; omega
            | false =>
              have HT2 : Hid (l' = l ++ upTo x (j + 1)) := by show _ = _; rw [upTo_no (by rw [hbo, hB]), HT'.out]
              rw [hB] at hbit
              clear hB hbo HT'
              go_wp2
              go_region
              go_wp2
              go_roundw
              case rel => exact ⟨j + 1, m, l', by omega, by go_num, by omega, HL', HT2, HCH.out, hown', hzw, hbel'.drew⟩
              case measure => simp [intOf]; omega
          · have hjl' : 8 * (x.2.size : Int) ≤ (j : Int) := by omega
            have HT2 : Hid (l' = typesOf (bl.take (k + 1))) := by
              show _ = _
              rw [types_step bl k x hx, HT'.out, HT.out, show j = 8 * x.2.size by omega]; rfl
            have hm16 : m ≤ 16000000 := by
              have h1 := types_len (bl.take (k + 1))
              have h2 := bitsLen_take bl (k + 1)
              rw [← HT2.out, HL'.out] at h1
              omega
            clear HT' HT
            go_wp2
            go_roundw
            case rel => exact ⟨k + 1, m, l', by omega, by go_num, hm16, HL', HT2, hown', hbel'⟩
            case measure => simp [intOf]; omega
      · have hlt' : (bl.length : Int) ≤ (k : Int) := by omega
        have hT2 := HT.out
        rw [List.take_of_length_le (by omega)] at hT2
        have HT2 := Nm.hide hT2
        have hob := own_base (B' := w.heap.size) hown hb1.size
        rw [← HL.out, HT2.out] at hob
        have HOB := Nm.hide hob
        clear hc hT2 HT hob
        go_wp2
        go_ret2
        exact ⟨_, rfl, HOB.out, Nm.below_two hb1 hbel⟩
end Go.Proofs.YtechmpdfbpehiaaGreatDoor
/- What a listed variable gives: its block, cell for cell. -/
namespace Go.Proofs.YtechmpdfbpehiaaGreatDoor
open Go.RowKit Go.ChangeShapes

theorem laid_mem {P : Program} {w : World} : ∀ {l : List (String × DataW Unit)} {ps : List MemPlace}, DataW.LaidVars P w l ps → ∀ {n : String} {d : DataW Unit}, (n, d) ∈ l →
    ∃ g t cs fuel p, P.globalNamed n = some g ∧ (P.globals[g]?).map (·.type) = some t ∧ w.var? P n = some cs ∧ DataW.trod (fun _ => ()) P w 0 (fun _ => true) false fuel t cs.toList = some (d, p) := by
  intro l
  induction l with
  | nil => intro ps _ n d h; cases h
  | cons x r ih =>
    intro ps h n d hm
    obtain ⟨n0, d0⟩ := x
    obtain ⟨g, t, cs, fuel, p, q, h1, h2, h3, h4, hr, _⟩ := h
    rcases List.mem_cons.1 hm with e | e
    · cases e
      exact ⟨g, t, cs, fuel, p, h1, h2, h3, h4⟩
    · exact ih hr e

theorem var_block {P : Program} {w : World} {n : String} {g : Nat} {cs : Array Value} (hg : P.globalNamed n = some g) (h : w.var? P n = some cs) : ∃ t fr, w.heap[g]? = some (.cells cs t fr) := by
  simp only [World.var?, hg, Option.bind_some] at h
  split at h
  · rename_i c t fr hh
    cases h
    exact ⟨t, fr, hh⟩
  · cases h

/-- A listed table of integers. -/
theorem tab_of_laid {P : Program} {W : World} {l : List (String × DataW Unit)} (h : laidMet P l W) {name : String} {k : IntKind} {zs : List Int} {g : Nat} {t e : TypeId} {n : Nat}
    (hm : (name, Lib.tabData k zs) ∈ l) (hg : P.globalNamed name = some g) (hty : (P.globals[g]?).map (·.type) = some t) (ht : P.underlying t = some (.array n e)) (he : P.underlying e = some (.int k)) (hce : P.cellsOf e = 1) (hct : P.cellsOf t = n) :
    Lib.TabIs P W name k zs := by
  obtain ⟨ps, hv, _⟩ := h
  obtain ⟨g', t', cs, fuel, p, hg', ht', hvar, hd⟩ := laid_mem hv hm
  obtain rfl := Option.some.inj (hg.symm.trans hg')
  obtain rfl := Option.some.inj (hty.symm.trans ht')
  unfold Lib.TabIs
  rw [hvar, ← Lib.cells_of_tab ht he hce hct hd]

/-- A table of pairs of a text and a number. -/
def pairData {H : Type} (l : List (List UInt8 × Int)) : DataW H := .agg (l.map fun x => .agg [.lit (.string x.1), .lit (.int .i64 x.2)])
def pairCells (l : List (List UInt8 × Int)) : List Value := l.flatMap fun x => [.string ⟨x.1.toArray⟩, .int .i64 x.2]

theorem pairCells_at : ∀ (l : List (List UInt8 × Int)) (i : Nat) (x : List UInt8 × Int), l[i]? = some x → (pairCells l)[2 * i]? = some (.string ⟨x.1.toArray⟩) ∧ (pairCells l)[2 * i + 1]? = some (.int .i64 x.2) := by
  intro l
  induction l with
  | nil => intro i x h; simp at h
  | cons y r ih =>
    intro i x h
    cases i with
    | zero => simp at h; subst h; exact ⟨rfl, rfl⟩
    | succ i =>
      have e : pairCells (y :: r) = .string ⟨y.1.toArray⟩ :: .int .i64 y.2 :: pairCells r := rfl
      have := ih i x (by simpa using h)
      rw [e, show 2 * (i + 1) = 2 * i + 1 + 1 by omega, show 2 * i + 1 + 1 + 1 = (2 * i + 1) + 1 + 1 by omega]
      simpa using this
theorem pairCells_length (l : List (List UInt8 × Int)) : (pairCells l).length = 2 * l.length := by
  induction l with
  | nil => rfl
  | cons y r ih =>
    have e : pairCells (y :: r) = .string ⟨y.1.toArray⟩ :: .int .i64 y.2 :: pairCells r := rfl
    rw [e]; simp [ih]; omega

theorem cells_of_pairs {H : Type} {enc : TypeId × Value → H} {P : Program} {w : World} {base : Nat} {sp : Nat → Bool} {held : Bool} {fuel : Nat} {t e ts ti : TypeId} {f0 f1 : Field} {n : Nat} {cs : List Value} {zs : List (List UInt8 × Int)} {p : List MemPlace}
    (ht : P.underlying t = some (.array n e)) (he : P.underlying e = some (.struct #[f0, f1])) (h0 : f0.type = ts) (h1 : f1.type = ti) (o0 : f0.offset = 0) (o1 : f1.offset = 1)
    (hs : P.underlying ts = some .string) (hi : P.underlying ti = some (.int .i64)) (hcs : P.cellsOf ts = 1) (hci : P.cellsOf ti = 1) (hce : P.cellsOf e = 2) (hct : P.cellsOf t = 2 * n)
    (h : DataW.trod enc P w base sp held fuel t cs = some (pairData zs, p)) : cs = pairCells zs := by
  obtain ⟨xs, m, _, hx, hl, hxl, hel⟩ := DataW.trod_array ht h
  simp only [pairData, Prod.mk.injEq, DataW.agg.injEq] at hx
  have hx1 := hx.1
  have hzl : zs.length = n := by
    have := congrArg List.length hx1
    simp at this
    omega
  rw [hct] at hl
  apply List.ext_getElem?
  intro i
  by_cases hin : i < 2 * n
  · obtain ⟨k, hk⟩ : ∃ k, i = 2 * k ∨ i = 2 * k + 1 := ⟨i / 2, by omega⟩
    have hkn : k < n := by omega
    obtain ⟨y, hy⟩ : ∃ y, xs[k]? = some y := ⟨_, List.getElem?_eq_getElem (by omega)⟩
    obtain ⟨z, hz⟩ : ∃ z, zs[k]? = some z := ⟨_, List.getElem?_eq_getElem (by omega)⟩
    have hyz : y.1 = .agg [.lit (.string z.1), .lit (.int .i64 z.2)] := by
      have h1 := congrArg (fun l => l[k]?) hx1
      simp only [List.getElem?_map, hy, hz, Option.map_some, Option.some.injEq] at h1
      exact h1.symm
    have hek := hel k hkn
    rw [hy, hce] at hek
    obtain ⟨y0, y1, m2, hagg, _, d0, d1⟩ := trod_struct2 he hek
    rw [h0, o0, hcs] at d0
    rw [h1, o1, hci] at d1
    obtain ⟨s, c0, e0, _⟩ := DataW.trod_string hs d0
    obtain ⟨q, c1, e1, _⟩ := DataW.trod_int hi d1
    have hagg1 : y.1 = .agg [y0.1, y1.1] := by rw [hagg]
    rw [hyz, e0, e1] at hagg1
    simp only [DataW.agg.injEq, List.cons.injEq, DataW.lit.injEq, Lit.string.injEq, Lit.int.injEq, true_and, and_true] at hagg1
    have g0 : cs[2 * k]? = some (.string s) := by
      have := congrArg (fun l => l[0]?) c0
      simpa [List.getElem?_take, List.getElem?_drop, Nat.mul_comm] using this
    have g1 : cs[2 * k + 1]? = some (.int .i64 q) := by
      have := congrArg (fun l => l[0]?) c1
      simpa [List.getElem?_take, List.getElem?_drop, Nat.mul_comm] using this
    have hp := pairCells_at zs k z hz
    have es : (⟨z.1.toArray⟩ : ByteArray) = s := by rw [hagg1.1]
    rcases hk with rfl | rfl
    · rw [g0, hp.1, es]
    · rw [g1, hp.2, hagg1.2]
  · rw [List.getElem?_eq_none (by omega), List.getElem?_eq_none (by rw [pairCells_length]; omega)]

/-- A listed table of pairs: its block. -/
theorem pairs_of_laid {P : Program} {W : World} {l : List (String × DataW Unit)} (h : laidMet P l W) {name : String} {zs : List (List UInt8 × Int)} {g : Nat} {t e ts ti : TypeId} {f0 f1 : Field} {n : Nat}
    (hm : (name, pairData zs) ∈ l) (hg : P.globalNamed name = some g) (hty : (P.globals[g]?).map (·.type) = some t) (ht : P.underlying t = some (.array n e)) (he : P.underlying e = some (.struct #[f0, f1])) (h0 : f0.type = ts) (h1 : f1.type = ti) (o0 : f0.offset = 0) (o1 : f1.offset = 1)
    (hs : P.underlying ts = some .string) (hi : P.underlying ti = some (.int .i64)) (hcs : P.cellsOf ts = 1) (hci : P.cellsOf ti = 1) (hce : P.cellsOf e = 2) (hct : P.cellsOf t = 2 * n) :
    ∃ t fr, W.heap[g]? = some (.cells (pairCells zs).toArray t fr) := by
  obtain ⟨ps, hv, _⟩ := h
  obtain ⟨g', t', cs, fuel, p, hg', ht', hvar, hd⟩ := laid_mem hv hm
  obtain rfl := Option.some.inj (hg.symm.trans hg')
  obtain rfl := Option.some.inj (hty.symm.trans ht')
  obtain ⟨u, fr, hb⟩ := var_block hg hvar
  have hc := cells_of_pairs ht he h0 h1 o0 o1 hs hi hcs hci hce hct hd
  refine ⟨u, fr, ?_⟩
  rw [hb, ← hc]
end Go.Proofs.YtechmpdfbpehiaaGreatDoor
