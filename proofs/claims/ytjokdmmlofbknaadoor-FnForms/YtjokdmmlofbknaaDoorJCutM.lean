import Derived.Test.YtjokdmmlofbknaaDoorJCRow
import Derived.Test.YtjokdmmlofbknaaDoorJSEsc
/- Cutting data by the program's forms, step by step: mathematics. -/
namespace Go.Proofs.YtjokdmmlofbknaaDoor
open Go.RowKit

def cutCode (t : Int) (d : ByteArray) : Int :=
  if t < 0 ∨ 65535 < t then 6 else if 65535 < d.size then 7 else if (Dt.spans (Dt.implP t) 0 d).isSome then 0 else 7
def cutS (t : Int) (d : ByteArray) : Option (List (Nat × Nat)) := if t < 0 ∨ 65535 < t then none else if 65535 < d.size then none else Dt.spans (Dt.implP t) 0 d

def spanCells (sp : List (Nat × Nat)) : List Value := sp.flatMap fun s => [.int .i64 (s.1 : Int), .int .i64 (s.2 : Int)]
theorem spanCells_append (a b : List (Nat × Nat)) : spanCells (a ++ b) = spanCells a ++ spanCells b := by simp [spanCells]

/-- Where the cutting stands. -/
def CAt (fs : List Dt.Pc) (d : ByteArray) (sp : List (Nat × Nat)) (r : List Dt.Pc) (a : Nat) : Prop :=
  Dt.spans fs 0 d = (Dt.spans r a (d.extract a d.size)).map (fun t => sp ++ t)

theorem cat_start (fs : List Dt.Pc) (d : ByteArray) : CAt fs d [] fs 0 := by simp [CAt]
theorem cat_end {fs : List Dt.Pc} {d : ByteArray} {sp : List (Nat × Nat)} {a : Nat} (h : CAt fs d sp [] a) (h0 : d.size ≤ a) : Dt.spans fs 0 d = some sp := by
  rw [h, Dt.spans, if_pos (by simp; omega)]; simp
theorem cat_left {fs : List Dt.Pc} {d : ByteArray} {sp : List (Nat × Nat)} {a : Nat} (h : CAt fs d sp [] a) (h0 : a < d.size) : Dt.spans fs 0 d = none := by
  rw [h, Dt.spans, if_neg (by simp; omega)]; rfl
theorem cat_none {fs r : List Dt.Pc} {p : Dt.Pc} {d : ByteArray} {sp : List (Nat × Nat)} {a : Nat} (h : CAt fs d sp (p :: r) a) (h0 : Dt.sz p (d.extract a d.size) = none) : Dt.spans fs 0 d = none := by
  rw [h, Dt.spans, h0]; rfl
theorem cat_step {fs r : List Dt.Pc} {p : Dt.Pc} {d : ByteArray} {sp : List (Nat × Nat)} {a n : Nat} (h : CAt fs d sp (p :: r) a) (ha : a ≤ d.size) (h0 : Dt.sz p (d.extract a d.size) = some n) :
    CAt fs d (sp ++ if p.isN then [(a, a + n)] else []) r (a + n) ∧ a + n ≤ d.size := by
  have hn := Dt.sz_le h0
  have hz : (d.extract a d.size).size = d.size - a := by simp
  refine ⟨?_, by omega⟩
  rw [CAt, h, Dt.spans, h0, Option.map_map, Dt.ext_ext (by omega) (Nat.le_refl _)]
  congr 1
  funext t
  cases p.isN <;> simp

theorem code_type {t : Int} {d : ByteArray} (h : t < 0 ∨ 65535 < t) : cutCode t d = 6 ∧ cutS t d = none := by
  rw [cutCode, cutS, if_pos h, if_pos h]; exact ⟨rfl, rfl⟩
theorem code_long {t : Int} {d : ByteArray} (h : ¬ (t < 0 ∨ 65535 < t)) (h1 : 65535 < d.size) : cutCode t d = 7 ∧ cutS t d = none := by
  rw [cutCode, cutS, if_neg h, if_neg h, if_pos h1, if_pos h1]; exact ⟨rfl, rfl⟩
theorem code_none {t : Int} {d : ByteArray} (h : ¬ (t < 0 ∨ 65535 < t)) (h1 : ¬ 65535 < d.size) (h2 : Dt.spans (Dt.implP t) 0 d = none) : cutCode t d = 7 ∧ cutS t d = none := by
  rw [cutCode, cutS, if_neg h, if_neg h, if_neg h1, if_neg h1, h2]; exact ⟨rfl, rfl⟩
theorem code_some {t : Int} {d : ByteArray} {sp : List (Nat × Nat)} (h : ¬ (t < 0 ∨ 65535 < t)) (h1 : ¬ 65535 < d.size) (h2 : Dt.spans (Dt.implP t) 0 d = some sp) : cutCode t d = 0 ∧ cutS t d = some sp := by
  rw [cutCode, cutS, if_neg h, if_neg h, if_neg h1, if_neg h1, h2]; exact ⟨rfl, rfl⟩
theorem implP_len (t : Int) : (Dt.implP t).length ≤ 5 := by
  unfold Dt.implP
  repeat' split
  all_goals simp
end Go.Proofs.YtjokdmmlofbknaaDoor
/- Data of its form: its parts and its places. Mathematics. -/
namespace Go.Proofs.YtjokdmmlofbknaaDoor
open Go.RowKit

theorem code_zero {t : Int} {d : ByteArray} : cutCode t d = 0 ↔ ∃ sp, cutS t d = some sp := by
  by_cases h : t < 0 ∨ 65535 < t
  · obtain ⟨h1, h2⟩ := code_type (d := d) h
    rw [h1, h2]; simp
  · by_cases h1 : 65535 < d.size
    · obtain ⟨h2, h3⟩ := code_long h h1
      rw [h2, h3]; simp
    · cases hq : Dt.spans (Dt.implP t) 0 d with
      | none => obtain ⟨h2, h3⟩ := code_none h h1 hq; rw [h2, h3]; simp
      | some sp => obtain ⟨h2, h3⟩ := code_some h h1 hq; rw [h2, h3]; simp

/-- Of data of its form: its parts, and where the names stand. -/
theorem good_parts {t : Int} {d : ByteArray} (h : cutCode t d = 0) : ∃ ps, Dt.parts (Dt.specP t) d = some ps ∧ cutS t d = some (Dt.spansOf (Dt.specP t) ps 0) ∧ d.size ≤ 65535 := by
  obtain ⟨sp, hsp⟩ := code_zero.1 h
  by_cases ht : t < 0 ∨ 65535 < t
  · rw [(code_type (d := d) ht).2] at hsp; cases hsp
  · by_cases h1 : 65535 < d.size
    · rw [(code_long ht h1).2] at hsp; cases hsp
    · have e : cutS t d = Dt.spans (Dt.implP t) 0 d := by rw [cutS, if_neg ht, if_neg h1]
      rw [e, ← Dt.forms_agree, Dt.spans_of_parts] at hsp
      cases hq : Dt.parts (Dt.specP t) d with
      | none => rw [hq] at hsp; simp at hsp
      | some ps =>
        refine ⟨ps, rfl, ?_, by omega⟩
        rw [e, ← Dt.forms_agree, Dt.spans_of_parts, hq]; rfl

theorem part_le : ∀ (ps : List ByteArray) (x : ByteArray), x ∈ ps → x.size ≤ (Dt.catL ps).length := by
  intro ps
  induction ps with
  | nil => intro x h; simp at h
  | cons y ps ih =>
    intro x h
    have e : (Dt.catL (y :: ps)).length = y.size + (Dt.catL ps).length := by simp [Dt.catL]
    rcases List.mem_cons.1 h with rfl | h
    · omega
    · have := ih x h; omega

theorem isN_let (c : UInt8) : (Dt.letP c).isN = decide (c.toNat = 110) := by
  by_cases h : c = 110
  · subst h; rfl
  · have h' : c.toNat ≠ 110 := fun e => h (UInt8.toNat_inj.1 (by simpa using e))
    simp only [h', decide_false]
    unfold Dt.letP
    rw [if_neg h]
    repeat' split
    all_goals rfl

theorem spans_few : ∀ (fs : List Dt.Pc) (a : Nat) (d : ByteArray) (sp : List (Nat × Nat)), Dt.spans fs a d = some sp → sp.length ≤ fs.length := by
  intro fs
  induction fs with
  | nil =>
    intro a d sp h
    rw [Dt.spans] at h
    split at h
    · simp at h; subst h; simp
    · simp at h
  | cons p r ih =>
    intro a d sp h
    rw [Dt.spans] at h
    cases hq : Dt.sz p d with
    | none => rw [hq] at h; simp at h
    | some n =>
      rw [hq] at h
      cases hr : Dt.spans r (a + n) (d.extract n d.size) with
      | none => simp [hr] at h
      | some l =>
        have := ih _ _ _ hr
        simp [hr] at h
        subst h
        cases p.isN <;> simp <;> omega

theorem cut_few (t : Int) (d : ByteArray) : ((cutS t d).getD []).length ≤ 5 := by
  cases h : cutS t d with
  | none => simp
  | some sp =>
    rw [cutS] at h
    split at h
    · cases h
    · split at h
      · cases h
      · have h1 := spans_few _ _ _ _ h
        have h2 := implP_len t
        simp; omega

end Go.Proofs.YtjokdmmlofbknaaDoor
/- Type maps that are written are read as they were: mathematics. -/
namespace Go.Proofs.YtjokdmmlofbknaaDoor
open Go.RowKit
set_option linter.unusedVariables false

/-- Windows k from w on, written. -/
def outFr (S : Nat → Bool) (w : Nat) : Nat → List UInt8
  | 0 => []
  | k + 1 => blkOut S w ++ outFr S (w + 1) k
def blkFr (S : Nat → Bool) (w : Nat) : Nat → List (Nat × ByteArray)
  | 0 => []
  | k + 1 => (if blkN S w = 0 then [] else [(w, ⟨(blkB S w (blkN S w)).toArray⟩)]) ++ blkFr S (w + 1) k
theorem outFr_snoc (S : Nat → Bool) : ∀ k w, outFr S w (k + 1) = outFr S w k ++ blkOut S (w + k) := by
  intro k
  induction k with
  | zero => intro w; simp [outFr]
  | succ k ih =>
    intro w
    rw [outFr, ih (w + 1), outFr, List.append_assoc, show w + 1 + k = w + (k + 1) by omega]
theorem outTo_fr (S : Nat → Bool) : ∀ k, outTo S k = outFr S 0 k := by
  intro k
  induction k with
  | zero => rfl
  | succ k ih =>
    rw [outFr_snoc, ← ih, Nat.zero_add]
    simp [outTo, List.range_succ]

theorem trim_last {f : Nat → Nat} : ∀ {m : Nat}, trim f m ≠ 0 → f (trim f m - 1) ≠ 0 := by
  intro m
  induction m with
  | zero => intro h; exact absurd rfl h
  | succ m ih =>
    rw [trim]
    split
    · exact ih
    · rename_i h; intro _; simpa using h
theorem trim_gt {f : Nat → Nat} {k : Nat} (hk : f k ≠ 0) : ∀ {m : Nat}, k < m → k < trim f m := by
  intro m
  induction m with
  | zero => intro h; omega
  | succ m ih =>
    intro h
    rw [trim]
    split
    · rename_i h0
      by_cases e : k = m
      · subst e; exact absurd h0 hk
      · exact ih (by omega)
    · omega

theorem mk_sz (l : List UInt8) : (⟨l.toArray⟩ : ByteArray).size = l.length := by show l.toArray.size = _; simp
theorem mk_get (l : List UInt8) (i : Nat) (h : i < (⟨l.toArray⟩ : ByteArray).size) : (⟨l.toArray⟩ : ByteArray)[i] = l[i]'(by rw [mk_sz] at h; exact h) := rfl
theorem mk_ext (l : List UInt8) (a b : Nat) : (⟨l.toArray⟩ : ByteArray).extract a b = ⟨((l.drop a).take (b - a)).toArray⟩ := by
  apply Nm.ba_ext
  simp only [ByteArray.data_extract, Array.toList_extract, List.extract_eq_take_drop]

theorem byte_natF {n : Nat} (h : n < 256) : (UInt8.ofNat n).toNat = n := by simp; omega

theorem fr_one {w n : Nat} {B R : List UInt8} {last : Int} (hw : w < 256) (h1 : 1 ≤ n) (h32 : n ≤ 32) (hbl : B.length = n) (hlast : ∀ c, B[n - 1]? = some c → c.toNat ≠ 0) (hl : last < (w : Int)) (X : ByteArray) (hX : X = ⟨(UInt8.ofNat w :: UInt8.ofNat n :: (B ++ R)).toArray⟩) :
    mapF (X.size + 1) last X = mapF ((⟨R.toArray⟩ : ByteArray).size + 1) (w : Int) ⟨R.toArray⟩ ∧ blocksS X = (w, ⟨B.toArray⟩) :: blocksS ⟨R.toArray⟩ := by
  have hz : X.size = n + 2 + R.length := by rw [hX, mk_sz]; simp; omega
  have hd : X.data.toList = UInt8.ofNat w :: UInt8.ofNat n :: (B ++ R) := by rw [hX]
  have k0 : (X[0]'(by omega)).toNat = w := by
    have := Nm.get_data (x := X) (j := 0) (by omega)
    rw [hd] at this
    simp only [List.getElem?_cons_zero, Option.some.injEq] at this
    rw [← this]; exact byte_natF hw
  have k1 : (X[1]'(by omega)).toNat = n := by
    have := Nm.get_data (x := X) (j := 1) (by omega)
    rw [hd] at this
    simp only [List.getElem?_cons_succ, List.getElem?_cons_zero, Option.some.injEq] at this
    rw [← this]; exact byte_natF (by omega)
  have gn : (X[n + 1]'(by omega)).toNat ≠ 0 := by
    have := Nm.get_data (x := X) (j := n + 1) (by omega)
    rw [hd, List.getElem?_cons_succ] at this
    refine hlast _ ?_
    rw [← this]
    obtain ⟨m, rfl⟩ : ∃ m, n = m + 1 := ⟨n - 1, by omega⟩
    rw [List.getElem?_cons_succ, List.getElem?_append_left (by omega)]
    rfl
  have hrest : X.extract (n + 2) X.size = ⟨R.toArray⟩ := by
    apply Nm.ba_ext
    simp only [ByteArray.data_extract, Array.toList_extract, List.extract_eq_take_drop]
    rw [hd, hz, show n + 2 + R.length - (n + 2) = R.length by omega]
    simp only [List.drop_succ_cons]
    rw [List.drop_append, List.drop_of_length_le (by omega), hbl, Nat.sub_self, List.drop_zero, List.nil_append, List.take_length]
  have hbits : X.extract 2 (n + 2) = ⟨B.toArray⟩ := by
    apply Nm.ba_ext
    simp only [ByteArray.data_extract, Array.toList_extract, List.extract_eq_take_drop]
    rw [hd, show n + 2 - 2 = n by omega]
    simp only [List.drop_succ_cons, List.drop_zero]
    rw [List.take_append_of_le_length (by omega), List.take_of_length_le (by omega)]
  clear hd hX hlast
  have h2 : last < ((X[0]'(by omega)).toNat : Int) ∧ 1 ≤ (X[1]'(by omega)).toNat ∧ (X[1]'(by omega)).toNat ≤ 32 ∧ (X[1]'(by omega)).toNat + 2 ≤ X.size := by
    rw [k0, k1]; omega
  have h3 : (X[(X[1]'(by omega)).toNat + 1]'(by omega)).toNat ≠ 0 := by
    simp only [k1]
    exact gn
  refine ⟨?_, ?_⟩
  · rw [map_step (by omega) h2 h3, k1, hrest, k0]
  · rw [blocks_step (by omega), k0, k1, hrest, hbits]

/-- The map is one, and its blocks are the windows. -/
theorem fr_map (S : Nat → Bool) : ∀ (k w : Nat) (last : Int), w + k ≤ 256 → last < (w : Int) →
    mapF ((⟨(outFr S w k).toArray⟩ : ByteArray).size + 1) last ⟨(outFr S w k).toArray⟩ = true ∧ blocksS ⟨(outFr S w k).toArray⟩ = blkFr S w k := by
  intro k
  induction k with
  | zero => intro w last _ _; exact ⟨map_end rfl, blocks_end rfl⟩
  | succ k ih =>
    intro w last hw hl
    by_cases h0 : blkN S w = 0
    · have e : outFr S w (k + 1) = outFr S (w + 1) k := by rw [outFr, blkOut, if_pos h0]; rfl
      have e2 : blkFr S w (k + 1) = blkFr S (w + 1) k := by rw [blkFr, if_pos h0]; rfl
      rw [e, e2]
      exact ih (w + 1) last (by omega) (by omega)
    · have hn := blkN_le S w
      have hbl := blkB_len S w (blkN S w)
      have e : outFr S w (k + 1) = UInt8.ofNat w :: UInt8.ofNat (blkN S w) :: (blkB S w (blkN S w) ++ outFr S (w + 1) k) := by rw [outFr, blkOut, if_neg h0]; rfl
      have e2 : blkFr S w (k + 1) = (w, ⟨(blkB S w (blkN S w)).toArray⟩) :: blkFr S (w + 1) k := by rw [blkFr, if_neg h0]; rfl
      have hnz : byteS S (32 * w + (blkN S w - 1)) ≠ 0 := trim_last (f := fun k => byteS S (32 * w + k)) h0
      have hlt := byteS_lt S (32 * w + (blkN S w - 1))
      have hlast : ∀ c, (blkB S w (blkN S w))[blkN S w - 1]? = some c → c.toNat ≠ 0 := by
        intro c hc
        have e3 : (blkB S w (blkN S w))[blkN S w - 1]? = some (UInt8.ofNat (byteS S (32 * w + (blkN S w - 1)))) := by
          rw [blkB, List.getElem?_map, List.getElem?_range (by omega)]; rfl
        rw [e3] at hc
        rw [← Option.some.inj hc, byte_natF hlt]
        exact hnz
      obtain ⟨m1, m2⟩ := fr_one (R := outFr S (w + 1) k) (by omega) (by omega) hn hbl hlast hl _ rfl
      obtain ⟨i1, i2⟩ := ih (w + 1) (w : Int) (by omega) (by omega)
      rw [e, e2, m1, m2, i1, i2]
      exact ⟨rfl, rfl⟩

theorem bit_of_byte (S : Nat → Bool) (k j : Nat) (hj : j < 8) : bitAt (UInt8.ofNat (byteS S k)) j = S (8 * k + j) := by
  have hlt := byteS_lt S k
  have key : ∀ b0 b1 b2 b3 b4 b5 b6 b7 : Bool, ∀ j, j < 8 → decide (b8 b0 b1 b2 b3 b4 b5 b6 b7 / 2 ^ (7 - j) % 2 = 1) = [b0, b1, b2, b3, b4, b5, b6, b7].getD j false := by decide +kernel
  rw [bitAt, byte_natF hlt, byteS_b8, key _ _ _ _ _ _ _ _ j hj]
  obtain rfl | rfl | rfl | rfl | rfl | rfl | rfl | rfl : j = 0 ∨ j = 1 ∨ j = 2 ∨ j = 3 ∨ j = 4 ∨ j = 5 ∨ j = 6 ∨ j = 7 := by omega
  all_goals rfl
theorem bit_blk (S : Nat → Bool) (w n i : Nat) (h : i < 8 * n) : bitOf ⟨(blkB S w n).toArray⟩ i = S (256 * w + i) := by
  have hb := blkB_len S w n
  rw [bitOf, dif_pos (by rw [mk_sz, hb]; omega), mk_get]
  have e : (blkB S w n)[i / 8]'(by omega) = UInt8.ofNat (byteS S (32 * w + i / 8)) := by simp [blkB]
  rw [e, bit_of_byte S _ _ (by omega), show 8 * (32 * w + i / 8) + i % 8 = 256 * w + i by omega]
theorem byte_ne {S : Nat → Bool} {k j : Nat} (hj : j < 8) (h : S (8 * k + j) = true) : byteS S k ≠ 0 := by
  intro e
  have := bit_of_byte S k j hj
  rw [e, h] at this
  revert this
  obtain rfl | rfl | rfl | rfl | rfl | rfl | rfl | rfl : j = 0 ∨ j = 1 ∨ j = 2 ∨ j = 3 ∨ j = 4 ∨ j = 5 ∨ j = 6 ∨ j = 7 := by omega
  all_goals decide

theorem mem_blk {S : Nat → Bool} {w : Nat} {x : Int} : x ∈ blkTypes (w, ⟨(blkB S w (blkN S w)).toArray⟩) ↔ ∃ i, i < 256 ∧ S (256 * w + i) = true ∧ x = ((256 * w + i : Nat) : Int) := by
  have hn := blkN_le S w
  have hz : (⟨(blkB S w (blkN S w)).toArray⟩ : ByteArray).size = blkN S w := by rw [mk_sz, blkB_len]
  rw [blkTypes, upTo, List.mem_filterMap]
  simp only [hz]
  constructor
  · rintro ⟨i, hi, h⟩
    have hi' := List.mem_range.1 hi
    rw [bit_blk S w _ i hi'] at h
    split at h
    · rename_i hS
      simp only [Option.some.injEq] at h
      exact ⟨i, by omega, hS, h.symm⟩
    · cases h
  · rintro ⟨i, hi, hS, rfl⟩
    have h1 : byteS S (32 * w + i / 8) ≠ 0 := byte_ne (j := i % 8) (by omega) (by rw [show 8 * (32 * w + i / 8) + i % 8 = 256 * w + i by omega]; exact hS)
    have h2 : i / 8 < blkN S w := trim_gt (f := fun k => byteS S (32 * w + k)) h1 (by omega)
    refine ⟨i, List.mem_range.2 (by omega), ?_⟩
    rw [bit_blk S w _ i (by omega), hS]
    rfl
theorem blk_none {S : Nat → Bool} {w i : Nat} (h : blkN S w = 0) (hi : i < 256) : S (256 * w + i) = false := by
  rw [Bool.eq_false_iff]
  intro hS
  have h1 : byteS S (32 * w + i / 8) ≠ 0 := byte_ne (j := i % 8) (by omega) (by rw [show 8 * (32 * w + i / 8) + i % 8 = 256 * w + i by omega]; exact hS)
  have h2 : i / 8 < blkN S w := trim_gt (f := fun k => byteS S (32 * w + k)) h1 (by omega)
  omega
theorem mem_fr {S : Nat → Bool} {x : Int} : ∀ (k w : Nat), x ∈ typesOf (blkFr S w k) ↔ ∃ n : Nat, 256 * w ≤ n ∧ n < 256 * (w + k) ∧ S n = true ∧ x = (n : Int) := by
  intro k
  induction k with
  | zero => intro w; simp [blkFr, typesOf]; omega
  | succ k ih =>
    intro w
    have hd : typesOf (blkFr S w (k + 1)) = (if blkN S w = 0 then [] else blkTypes (w, ⟨(blkB S w (blkN S w)).toArray⟩)) ++ typesOf (blkFr S (w + 1) k) := by
      rw [blkFr]
      split <;> simp [typesOf]
    rw [hd, List.mem_append, ih (w + 1)]
    constructor
    · rintro (h | ⟨n, h1, h2, h3, h4⟩)
      · split at h
        · simp at h
        · obtain ⟨i, hi, hS, rfl⟩ := mem_blk.1 h
          exact ⟨256 * w + i, by omega, by omega, hS, rfl⟩
      · exact ⟨n, by omega, by omega, h3, h4⟩
    · rintro ⟨n, h1, h2, h3, rfl⟩
      by_cases hn : n < 256 * (w + 1)
      · left
        have e : n = 256 * w + (n - 256 * w) := by omega
        rw [if_neg]
        · exact mem_blk.2 ⟨n - 256 * w, by omega, by rw [← e]; exact h3, by rw [← e]⟩
        · intro h0
          have := blk_none (i := n - 256 * w) h0 (by omega)
          rw [← e, h3] at this
          cases this
      · right
        exact ⟨n, by omega, by omega, h3, rfl⟩
theorem upTo_rise (b : Nat × ByteArray) (i : Nat) : (upTo b i).Pairwise (· ≠ ·) := by
  rw [upTo, List.pairwise_filterMap]
  refine List.Pairwise.imp ?_ (List.pairwise_lt_range (n := i))
  intro a c hac x hx y hy e
  subst e
  split at hx
  · split at hy
    · simp only [Option.some.injEq] at hx hy
      omega
    · cases hy
  · cases hx
theorem fr_apart (S : Nat → Bool) : ∀ (k w : Nat), (typesOf (blkFr S w k)).Pairwise (· ≠ ·) := by
  intro k
  induction k with
  | zero => intro w; exact List.Pairwise.nil
  | succ k ih =>
    intro w
    have hd : typesOf (blkFr S w (k + 1)) = (if blkN S w = 0 then [] else blkTypes (w, ⟨(blkB S w (blkN S w)).toArray⟩)) ++ typesOf (blkFr S (w + 1) k) := by
      rw [blkFr]
      split <;> simp [typesOf]
    rw [hd, List.pairwise_append]
    refine ⟨?_, ih (w + 1), ?_⟩
    · split
      · exact List.Pairwise.nil
      · exact upTo_rise _ _
    · intro x hx y hy e
      subst e
      obtain ⟨n, h1, h2, h3, rfl⟩ := (mem_fr k (w + 1)).1 hy
      split at hx
      · simp at hx
      · obtain ⟨i, hi, hS, e⟩ := mem_blk.1 hx
        omega
theorem few_of_sub : ∀ (xs l : List Int), xs.Pairwise (· ≠ ·) → (∀ x ∈ xs, x ∈ l) → xs.length ≤ l.length := by
  intro xs
  induction xs with
  | nil => intro l _ _; simp
  | cons x r ih =>
    intro l hp hm
    obtain ⟨h1, h2⟩ := List.pairwise_cons.1 hp
    have hx := hm x (List.mem_cons_self)
    have := ih (l.erase x) h2 (fun y hy => (List.mem_erase_of_ne (fun e => h1 y hy e.symm)).2 (hm y (List.mem_cons_of_mem _ hy)))
    rw [List.length_erase_of_mem hx] at this
    have hp : 0 < l.length := List.length_pos_of_mem hx
    simp only [List.length_cons]
    omega

/-- What TypeMap writes of types is read as a map: that has each of them, no more of them than there were, and may stand in data. -/
theorem map_back {l : List Int} (h : (mapR l).2 = 0) : mapS (mapR l).1 = true ∧ (∀ t ∈ l, t ∈ typesOf (blocksS (mapR l).1)) ∧ (typesOf (blocksS (mapR l).1)).length ≤ l.length ∧ (mapR l).1.size ≤ 8704 := by
  have hok : ∀ t ∈ l, 0 ≤ t ∧ t ≤ 65535 := by
    intro t ht
    apply Classical.byContradiction
    intro hn
    obtain ⟨k, hk⟩ := List.getElem?_of_mem ht
    rw [mapR_bad hk (by omega)] at h
    cases h
  rw [mapR_good hok]
  have hlen := outTo_len (memB l) 256
  rw [outTo_fr] at hlen ⊢
  obtain ⟨h1, h2⟩ := fr_map (memB l) 256 0 (-1) (by omega) (by omega)
  refine ⟨h1, ?_, ?_, by rw [mk_sz]; omega⟩
  · intro t ht
    have := hok t ht
    rw [h2, mem_fr]
    refine ⟨t.toNat, by omega, by omega, ?_, by omega⟩
    rw [memB, show ((t.toNat : Nat) : Int) = t by omega]
    simpa using ht
  · rw [h2]
    refine few_of_sub _ _ (fr_apart _ _ _) ?_
    intro x hx
    obtain ⟨n, _, _, hS, rfl⟩ := (mem_fr 256 0).1 hx
    simpa [memB] using hS
theorem map_code (l : List Int) : (mapR l).2 = 0 ∨ mapR l = (⟨#[]⟩, 6) := by
  rw [mapR]
  split
  · exact .inl rfl
  · exact .inr rfl
theorem nsec_d {d s : ByteArray} (h : mapS s = true) (hs : s.size ≤ 8704) (hz : d.size = s.size + 1) (hd : d.data.toList = 0 :: s.data.toList) : cutCode 47 d = 0 := by
  have hx : d.extract 1 d.size = s := by
    apply Nm.ba_ext
    simp only [ByteArray.data_extract, Array.toList_extract, List.extract_eq_take_drop]
    rw [hd, hz]
    simp only [List.drop_succ_cons, List.drop_zero]
    exact List.take_of_length_le (by simp)
  have h0 : (d[0]'(by omega)).toNat = 0 := by
    have := Nm.get_data (x := d) (j := 0) (by omega)
    rw [hd] at this
    simp only [List.getElem?_cons_zero, Option.some.injEq] at this
    rw [← this]; rfl
  have hna : (Dt.nameAtS d).size = 1 := by
    rw [Dt.nameAtS, Dt.nameF, dif_pos ⟨by omega, by decide⟩, if_pos h0]
    simp
    omega
  have hn : Dt.sz Dt.Pc.nm d = some 1 := by
    show (if (Dt.nameAtS d).size = 0 then none else some (Dt.nameAtS d).size) = _
    rw [hna]; rfl
  have hm : Dt.sz Dt.Pc.mp s = some s.size := by
    show (if mapS s then some s.size else none) = _
    rw [h]; rfl
  have hsp : Dt.spans (Dt.implP 47) 0 d = some [(0, 1)] := by
    show Dt.spans [Dt.Pc.nm, Dt.Pc.mp] 0 d = _
    rw [Dt.spans, hn]
    simp only
    rw [hx, Dt.spans, hm]
    simp only
    rw [Dt.spans, if_pos (by simp)]
    rfl
  rw [cutCode, if_neg (by decide), if_neg (by omega), hsp]; rfl
/-- Such a map behind the root's name is data of an NSEC record. -/
theorem nsec_ok {s : ByteArray} (h : mapS s = true) (hs : s.size ≤ 8704) : cutCode 47 (⟨#[0]⟩ ++ s) = 0 :=
  nsec_d h hs (by rw [ByteArray.size_append]; show 1 + s.size = _; omega) (by rw [ByteArray.data_append, Array.toList_append]; rfl)
end Go.Proofs.YtjokdmmlofbknaaDoor
/- Variables that lie in blocks of their own. -/
namespace Go.Proofs.YtjokdmmlofbknaaDoor
open Go.RowKit
set_option linter.unusedVariables false

theorem hgr_step {w w1 w2 : World} {g : Nat} (h : w.grownBy w1 (some g)) (h2 : w1.grownBy w2 (some g)) : w.grownBy w2 (some g) :=
  ⟨h2.os.trans h.os, h2.tape.trans h.tape, h2.output.trans h.output, Nat.le_trans h.size h2.size, fun k hk hne => (h2.block k (Nat.lt_of_lt_of_le hk h.size) hne).trans (h.block k hk hne)⟩

theorem hgr_below {w w1 w2 : World} {g : Nat} (h : w.grownBy w1 (some g)) (h2 : Below w1.heap.size w1 w2) : w.grownBy w2 (some g) :=
  ⟨h2.os.trans h.os, h2.tape.trans h.tape, h2.output.trans h.output, Nat.le_trans h.size h2.size, fun k hk hne =>
    (h2.block k (Nat.lt_of_lt_of_le hk h.size)).trans (h.block k hk hne)⟩

theorem hgr_set {w w1 : World} {g b i : Nat} {v : Value} (h : w.grownBy w1 (some g)) (hb : w.heap.size ≤ b) : w.grownBy (w1.setCell ⟨b, i, none⟩ v) (some g) :=
  ⟨h.os, h.tape, h.output, by simpa using h.size, fun k hk hne => by rw [heap_setCell_other w1 ⟨b, i, none⟩ k _ (by simp; omega)]; exact h.block k hk hne⟩

/-- A variable's cells lie in block b. -/
def Blk (w : World) (b : Nat) (cs : Array Value) (T : TypeId) : Prop := w.heap[b]? = some (.cells cs T (0, 0))

theorem blk_lt {w : World} {b : Nat} {cs : Array Value} {T : TypeId} (h : Blk w b cs T) : b < w.heap.size := (Array.getElem?_eq_some_iff.1 h).1
theorem blk_grown {w w1 : World} {b : Nat} {cs : Array Value} {T : TypeId} {row : Option Nat} (h : Blk w b cs T) (hg : w.grownBy w1 row) (hr : row ≠ some b) : Blk w1 b cs T := by
  unfold Blk
  rw [hg.block b (blk_lt h) (fun e => hr e.symm)]; exact h
theorem blk_below {w w1 : World} {b : Nat} {cs : Array Value} {T : TypeId} (h : Blk w b cs T) (hb : Below w.heap.size w w1) : Blk w1 b cs T := by
  unfold Blk
  rw [hb.block b (blk_lt h)]; exact h
theorem blk_new (w : World) (cs : Array Value) (T : TypeId) : Blk (w.alloc (.cells cs T)) w.heap.size cs T := by
  unfold Blk; show (w.heap.push _)[w.heap.size]? = _; simp
theorem blk_alloc {w : World} {b : Nat} {cs : Array Value} {T : TypeId} (h : Blk w b cs T) (o : Obj) : Blk (w.alloc o) b cs T :=
  blk_below h ((Below.refl _ _).alloc (Nat.le_refl _) o)
theorem blk_cell {w : World} {b : Nat} {cs : Array Value} {T : TypeId} (h : Blk w b cs T) (i : Nat) : w.cell? ⟨b, i, none⟩ = cs[i]? := cell_of_row _ _ _ _ _ _ h
theorem blk_frozen {w : World} {b : Nat} {cs : Array Value} {T : TypeId} (h : Blk w b cs T) (i : Nat) : w.frozen? ⟨b, i, none⟩ = false := frozen_of_row w b i _ _ h
theorem blk_set {w : World} {b : Nat} {cs : Array Value} {T : TypeId} (h : Blk w b cs T) (i : Nat) (v : Value) : Blk (w.setCell ⟨b, i, none⟩ v) b (cs.setIfInBounds i v) T := heap_setCell_same w b i _ _ v h
theorem blk_far {w : World} {b c i : Nat} {cs : Array Value} {T : TypeId} {v : Value} (h : Blk w b cs T) (hne : b ≠ c) : Blk (w.setCell ⟨c, i, none⟩ v) b cs T := by
  unfold Blk
  rw [heap_setCell_other w ⟨c, i, none⟩ b _ (by simpa using hne)]; exact h

/-- Values are laid into the cells of a block from a place on. -/
def setAll (w : World) (b i : Nat) : List Value → World
  | [] => w
  | v :: vs => setAll (w.setCell ⟨b, i, none⟩ v) b (i + 1) vs

theorem setAll_same {b : Nat} {T : TypeId} : ∀ (vs old pre : List Value) (w : World), Blk w b (pre ++ old).toArray T → old.length = vs.length → Blk (setAll w b pre.length vs) b (pre ++ vs).toArray T := by
  intro vs
  induction vs with
  | nil =>
    intro old pre w h hl
    have : old = [] := List.length_eq_zero_iff.1 hl
    subst this
    exact h
  | cons v vs ih =>
    intro old pre w h hl
    cases old with
    | nil => simp at hl
    | cons x old =>
      have h2 := blk_set h pre.length v
      have e : (pre ++ x :: old).toArray.setIfInBounds pre.length v = ((pre ++ [v]) ++ old).toArray := by simp
      rw [e] at h2
      have h3 := ih old (pre ++ [v]) _ h2 (by simpa using hl)
      rw [List.length_append] at h3
      simpa [setAll] using h3

theorem setAll_new {b : Nat} {T : TypeId} {old : Array Value} (vs : List Value) {w : World} (h : Blk w b old T) (hl : old.size = vs.length) : Blk (setAll w b 0 vs) b vs.toArray T := by
  have := setAll_same vs old.toList [] w (by simpa using h) (by simpa using hl)
  simpa using this

theorem setAll_far {b c : Nat} {T : TypeId} {cs : Array Value} (hne : b ≠ c) : ∀ (vs : List Value) (i : Nat) (w : World), Blk w b cs T → Blk (setAll w c i vs) b cs T := by
  intro vs
  induction vs with
  | nil => intro i w h; exact h
  | cons v vs ih => intro i w h; exact ih (i + 1) _ (blk_far h hne)

theorem setAll_grown {w : World} {g b : Nat} (hb : w.heap.size ≤ b) : ∀ (vs : List Value) (i : Nat) (W : World), w.grownBy W (some g) → w.grownBy (setAll W b i vs) (some g) := by
  intro vs
  induction vs with
  | nil => intro i W h; exact h
  | cons v vs ih => intro i W h; exact ih (i + 1) _ (hgr_set h hb)

theorem blk_drew {w : World} {b : Nat} {cs : Array Value} {T : TypeId} (h : Blk w b cs T) : Blk w.drew b cs T := h
end Go.Proofs.YtjokdmmlofbknaaDoor
