import Derived.Test.YthhagapmcbkeiaaJShL8
import Derived.Test.YthhagapmcbkeiaaJSRe
import Derived.Test.YthhagapmcbkeiaaJDraw1
import Derived.Test.YthhagapmcbkeiaaJSgR
import Derived.Test.YthhagapmcbkeiaaJMath
import Derived.Test.YthhagapmcbkeiaaJShK
import Derived.RegionTactic
import Derived.BigRegion
/- A signature that is read: mathematics. -/
namespace Go.Proofs.Ythhagapmcbkeiaa
open Go.RowKit
set_option linter.unusedVariables false

theorem bigL_snoc (a n : Nat) (c : UInt8) : bigL (a * 256 + c.toNat) (n + 1) = bigL a n ++ [c] := by
  have hc := c.toNat_lt
  rw [bigL, List.range_succ, List.map_append, bigL]
  congr 1
  · apply List.map_congr_left
    intro i hi
    have hi' := List.mem_range.1 hi
    congr 1
    have e : n + 1 - 1 - i = (n - 1 - i) + 1 := by omega
    rw [e, Nat.mul_add, Nat.pow_add, Nat.mul_comm (2 ^ (8 * (n - 1 - i))), ← Nat.div_div_eq_div_mul]
    congr 1
    omega
  · simp only [List.map_cons, List.map_nil]
    congr 1
    apply UInt8.toNat_inj.1
    rw [UInt8.toNat_ofNat', show n + 1 - 1 - n = 0 by omega]
    omega

theorem big_num (l : List UInt8) : bigL (numL l) l.length = l := by
  have h : ∀ r : List UInt8, bigL (numL r.reverse) r.reverse.length = r.reverse := by
    intro r
    induction r with
    | nil => rfl
    | cons c r ih => rw [List.reverse_cons, numL_snoc, List.length_append, List.length_singleton, bigL_snoc, ih]
  have := h l.reverse
  rwa [List.reverse_reverse] at this
theorem big_numN {l : List UInt8} {n : Nat} (h : l.length = n) : bigL (numL l) n = l := by rw [← h]; exact big_num l

/-- what stands in a signature's data, of 61 bytes -/
def sT (d : List UInt8) : Nat := numL ((d.drop 13).take 6)
def sF (d : List UInt8) : Nat := numL ((d.drop 19).take 2)
def sS (d : List UInt8) : List UInt8 := (d.drop 23).take 32
def sI (d : List UInt8) : Nat := numL ((d.drop 55).take 2)

theorem cut_next (d : List UInt8) (a n : Nat) : d.drop a = (d.drop a).take n ++ d.drop (a + n) := by
  rw [← List.drop_drop, List.take_append_drop]
theorem dat_parts (d : List UInt8) : d.drop 13 = (d.drop 13).take 6 ++ ((d.drop 19).take 2 ++ ((d.drop 21).take 2 ++ ((d.drop 23).take 32 ++ ((d.drop 55).take 2 ++ d.drop 57)))) := by
  rw [← cut_next d 55 2, ← cut_next d 23 32, ← cut_next d 21 2, ← cut_next d 19 2, ← cut_next d 13 6]

theorem dat_iff {d a : List UInt8} (h : d.length = 61) (ha : a.length = 13) : a ++ d.drop 13 = datL (sT d) (sF d) (sS d) (sI d) ↔ a = algL ∧ (d.drop 21).take 2 = [0, 32] ∧ d.drop 57 = [0, 0, 0, 0] := by
  have e : datL (sT d) (sF d) (sS d) (sI d) = algL ++ ((d.drop 13).take 6 ++ ((d.drop 19).take 2 ++ ([0, 32] ++ ((d.drop 23).take 32 ++ ((d.drop 55).take 2 ++ [0, 0, 0, 0]))))) := by
    rw [datL, sT, sF, sI, sS, big_numN (by simp; omega), big_numN (by simp; omega), big_numN (by simp; omega), show bigL 32 2 = [0, 32] by decide]
    simp only [List.append_assoc]
  have hp := dat_parts d
  have hx : ((d.drop 21).take 2).length = 2 := by simp; omega
  rw [e]
  generalize (d.drop 13).take 6 = p6 at hp ⊢
  generalize (d.drop 19).take 2 = p2 at hp ⊢
  generalize (d.drop 21).take 2 = x2 at hp hx ⊢
  generalize (d.drop 23).take 32 = s32 at hp ⊢
  generalize (d.drop 55).take 2 = i2 at hp ⊢
  generalize d.drop 57 = z4 at hp ⊢
  rw [hp]
  constructor
  · intro hh
    obtain ⟨h1, hh⟩ := List.append_inj hh (by rw [ha]; rfl)
    obtain ⟨_, hh⟩ := List.append_inj hh rfl
    obtain ⟨_, hh⟩ := List.append_inj hh rfl
    obtain ⟨h2, hh⟩ := List.append_inj hh (by rw [hx]; rfl)
    obtain ⟨_, hh⟩ := List.append_inj hh rfl
    obtain ⟨_, hh⟩ := List.append_inj hh rfl
    exact ⟨h1, h2, hh⟩
  · rintro ⟨rfl, h2, h3⟩
    rw [h2, h3]
end Go.Proofs.Ythhagapmcbkeiaa
/- Options that were told are read: mathematics. -/
namespace Go.Proofs.Ythhagapmcbkeiaa
open Go.RowKit
set_option linter.unusedVariables false

theorem num_big2 (v : Nat) (h : v < 65536) : numL (bigL v 2) = v := by
  have e : bigL v 2 = [UInt8.ofNat (v / 256), UInt8.ofNat v] := by
    simp [bigL, List.range_succ]
  rw [e]
  simp [numL, UInt8.toNat_ofNat']
  omega

theorem optA_back : ∀ (xs : List (Int × ByteArray)) (acc : List (Int × ByteArray)) (f : Nat), xs.all optB = true → (optsL xs).length < f → optA f acc (optsL xs) = some (acc ++ xs) := by
  intro xs
  induction xs with
  | nil =>
    intro acc f _ hf
    obtain ⟨g, rfl⟩ : ∃ g, f = g + 1 := ⟨f - 1, by omega⟩
    show optA (g + 1) acc [] = _
    rw [optA_nil, List.append_nil]
  | cons x xs ih =>
    intro acc f hall hf
    simp only [List.all_cons, Bool.and_eq_true] at hall
    obtain ⟨hx, hxs⟩ := hall
    simp only [optB, Bool.and_eq_true, decide_eq_true_eq] at hx
    obtain ⟨⟨h1, h2⟩, h3⟩ := hx
    have e : optsL (x :: xs) = optL x ++ optsL xs := by simp [optsL]
    have hd : x.2.data.toList.length = x.2.size := by simp
    have hlen : (optsL (x :: xs)).length = 4 + x.2.size + (optsL xs).length := by rw [e, List.length_append, optL_len]
    obtain ⟨g, rfl⟩ : ∃ g, f = g + 1 := ⟨f - 1, by omega⟩
    have e2 : optsL (x :: xs) = bigL x.1.toNat 2 ++ (bigL x.2.size 2 ++ (x.2.data.toList ++ optsL xs)) := by rw [e, optL]; simp [List.append_assoc]
    have b1 : (bigL x.1.toNat 2).length = 2 := big_len _ _
    have b2 : (bigL x.2.size 2).length = 2 := big_len _ _
    have t1 : (optsL (x :: xs)).take 2 = bigL x.1.toNat 2 := by rw [e2, List.take_left' b1]
    have d2 : (optsL (x :: xs)).drop 2 = bigL x.2.size 2 ++ (x.2.data.toList ++ optsL xs) := by rw [e2, List.drop_left' b1]
    have t2 : ((optsL (x :: xs)).drop 2).take 2 = bigL x.2.size 2 := by rw [d2, List.take_left' b2]
    have d4 : (optsL (x :: xs)).drop 4 = x.2.data.toList ++ optsL xs := by
      rw [show (4 : Nat) = 2 + 2 from rfl, ← List.drop_drop, d2, List.drop_left' b2]
    have n1 : numL (bigL x.1.toNat 2) = x.1.toNat := num_big2 x.1.toNat (by omega)
    have n2 : numL (bigL x.2.size 2) = x.2.size := num_big2 x.2.size (by omega)
    have hne : optsL (x :: xs) ≠ [] := fun h0 => by rw [h0, List.length_nil] at hlen; omega
    rw [optA_step hne (by rw [t2, n2]; omega), t1, t2, n1, n2, d4]
    have dd : (optsL (x :: xs)).drop (4 + x.2.size) = optsL xs := by rw [← List.drop_drop, d4, List.drop_left' hd]
    rw [dd, List.take_left' hd, ih _ g hxs (by omega)]
    have ex : (((x.1.toNat : Nat) : Int), (⟨x.2.data.toList.toArray⟩ : ByteArray)) = x := by
      obtain ⟨a, b⟩ := x
      simp only [Prod.mk.injEq]
      refine ⟨Int.toNat_of_nonneg h1, ?_⟩
      simp
    rw [ex, List.append_assoc]
    rfl
theorem optR_back {xs : List (Int × ByteArray)} (h : xs.all optB = true) : optR (optsL xs) = some xs := by
  rw [optR, optA_back xs [] _ h (Nat.lt_succ_self _), List.nil_append]
end Go.Proofs.Ythhagapmcbkeiaa
/- The parts of data, step by step: mathematics. -/
namespace Go.Proofs.Ythhagapmcbkeiaa.Dt
open Go.RowKit

/-- Where the cutting stands: 'ps' are the parts that were cut off, 'd' is the rest, 'r' the letters that are left. -/
def PAt (fs : List Pc) (d0 : ByteArray) (ps : List ByteArray) (r : List Pc) (d : ByteArray) : Prop :=
  parts fs d0 = (parts r d).map (fun t => ps ++ t)

theorem pat_start (fs : List Pc) (d0 : ByteArray) : PAt fs d0 [] fs d0 := by simp [PAt]
theorem pat_end {fs : List Pc} {d0 d : ByteArray} {ps : List ByteArray} (h : PAt fs d0 ps [] d) (h0 : d.size = 0) : parts fs d0 = some ps := by
  rw [h, parts, if_pos h0]; simp
theorem pat_left {fs : List Pc} {d0 d : ByteArray} {ps : List ByteArray} (h : PAt fs d0 ps [] d) (h0 : d.size ≠ 0) : parts fs d0 = none := by
  rw [h, parts, if_neg h0]; rfl
theorem pat_none {fs r : List Pc} {p : Pc} {d0 d : ByteArray} {ps : List ByteArray} (h : PAt fs d0 ps (p :: r) d) (h0 : sz p d = none) : parts fs d0 = none := by
  rw [h, parts, h0]; rfl
theorem pat_step {fs r : List Pc} {p : Pc} {d0 d x : ByteArray} {ps : List ByteArray} {n : Nat} (h : PAt fs d0 ps (p :: r) d) (h0 : sz p d = some n) (hx : d.extract 0 n = x) : PAt fs d0 (ps ++ [x]) r (d.extract x.size d.size) := by
  have hn := sz_le h0
  have e : x.size = n := by rw [← hx]; simp; omega
  rw [PAt, h, parts, h0, Option.map_map, hx, e]
  congr 1; funext t; simp

theorem drop_let {f : ByteArray} {k : Nat} (hk : k < f.size) : (f.data.toList.map letP).drop k = letP f[k] :: (f.data.toList.map letP).drop (k + 1) := by
  have hl : k < (f.data.toList.map letP).length := by simpa using hk
  rw [List.drop_eq_getElem_cons hl]
  simp
  rfl

theorem name_ext (d : ByteArray) (h : (nameAtS d).size ≠ 0) : d.extract 0 (nameAtS d).size = nameAtS d := by
  obtain ⟨e, e1, e2, e3, e4, e5⟩ := nameF_name 256 d 0 h
  have e6 : nameAtS d = d.extract 0 e := e4
  have e7 : (nameAtS d).size = e := by rw [e6]; simp; omega
  rw [e7, e6]

theorem txt_ext (d : ByteArray) : d.extract 0 (txtS d).size = txtS d := by
  by_cases h : 0 < d.size
  · by_cases h1 : d[0].toNat + 1 ≤ d.size
    · have e : txtS d = d.extract 0 (d[0].toNat + 1) := by rw [txtS, dif_pos h, if_pos h1]
      have e7 : (txtS d).size = d[0].toNat + 1 := by rw [e]; simp; omega
      rw [e7, e]
    · have e : txtS d = ByteArray.empty := by rw [txtS, dif_pos h, if_neg h1]
      rw [e]; simp
  · have e : txtS d = ByteArray.empty := by rw [txtS, dif_neg h]
    rw [e]; simp

theorem ext_none (d : ByteArray) : d.extract d.size d.size = ByteArray.empty := by
  apply Nm.ba_ext
  simp

/-- Where the reading of short texts stands. -/
def TAt (d p : ByteArray) : Prop := p.size ≤ d.size ∧ d.extract 0 p.size = p ∧ txsS d = p.size + txsS (d.extract p.size d.size)

theorem tat_start (d : ByteArray) : TAt d ⟨#[]⟩ := by
  have e : (⟨#[]⟩ : ByteArray).size = 0 := rfl
  refine ⟨by omega, ?_, ?_⟩
  · rw [e]
    apply Nm.ba_ext
    simp
  · rw [e]; simp
theorem tat_end {d p : ByteArray} (h : TAt d p) (h0 : (txtS (d.extract p.size d.size)).size = 0) : txsS d = p.size := by
  rw [h.2.2, txs_none h0]; rfl
theorem tat_step {d p : ByteArray} (h : TAt d p) (h0 : (txtS (d.extract p.size d.size)).size ≠ 0) : TAt d (p ++ txtS (d.extract p.size d.size)) := by
  obtain ⟨h1, h2, h3⟩ := h
  have ht := txt_le (d.extract p.size d.size)
  have hte := txt_ext (d.extract p.size d.size)
  generalize hT : txtS (d.extract p.size d.size) = T at *
  have hz : (p ++ T).size = p.size + T.size := by simp
  have hd : (d.extract p.size d.size).size = d.size - p.size := by simp
  refine ⟨by omega, ?_, ?_⟩
  · apply Nm.ba_ext
    rw [hz]
    have e1 : (p ++ T).data.toList = p.data.toList ++ T.data.toList := by simp
    rw [e1, ← hte]
    conv => rhs; arg 1; rw [← h2]
    simp only [ByteArray.data_extract, Array.toList_extract, List.extract_eq_take_drop]
    simp
    rw [List.take_add]
    congr 1
    rw [List.take_take, Nat.min_eq_left (by omega)]
  · rw [hz, h3, txs_step (by rw [hT]; exact h0), hT]
    have e : (d.extract p.size d.size).extract T.size (d.extract p.size d.size).size = d.extract (p.size + T.size) d.size := ext_ext (by omega) (Nat.le_refl _)
    rw [e]; omega

/-- Where the reading of a tag stands. -/
theorem tag_short {d : ByteArray} (h : (txtS d).size < 2 ∨ 16 < (txtS d).size) : tagB d = false := by
  rw [tagB]
  rcases h with h | h
  · simp; omega
  · simp; omega
theorem tag_bad {d : ByteArray} {k : Nat} (hk : 1 ≤ k) (hl : k < (txtS d).size) (h : alnumB (txtS d)[k] = false) : tagB d = false := by
  rw [tagB, Bool.and_eq_false_iff]
  right
  rw [List.all_eq_false]
  refine ⟨(txtS d)[k], ?_, by simp [h]⟩
  have : ((txtS d).data.toList.drop 1)[k - 1]? = some (txtS d)[k] := by
    rw [List.getElem?_drop, show 1 + (k - 1) = k by omega]
    exact Nm.get_data hl
  exact List.mem_of_getElem? this
theorem tag_good {d : ByteArray} (h2 : 2 ≤ (txtS d).size) (h16 : (txtS d).size ≤ 16) (h : ∀ j, 1 ≤ j → (hj : j < (txtS d).size) → alnumB (txtS d)[j] = true) : tagB d = true := by
  rw [tagB]
  simp only [h2, h16, decide_true, Bool.true_and, List.all_eq_true]
  intro c hc
  obtain ⟨i, hi⟩ := List.getElem?_of_mem hc
  rw [List.getElem?_drop] at hi
  have hl : 1 + i < (txtS d).size := by
    have := (List.getElem?_eq_some_iff.1 hi).1
    simpa using this
  rw [Nm.get_data hl] at hi
  simp at hi
  rw [← hi]
  exact h _ (by omega) hl
end Go.Proofs.Ythhagapmcbkeiaa.Dt
/- Cutting data by the program's forms, step by step: mathematics. -/
namespace Go.Proofs.Ythhagapmcbkeiaa
open Go.RowKit

def cutCode (t : Int) (d : ByteArray) : Int :=
  if t < 0 ∨ 65535 < t then 6 else if 65535 < d.size then 7 else if (Dt.spans (Dt.implP t) 0 d).isSome then 0 else 7
def cutS (t : Int) (d : ByteArray) : Option (List (Nat × Nat)) := if t < 0 ∨ 65535 < t then none else if 65535 < d.size then none else Dt.spans (Dt.implP t) 0 d

def spanCells (sp : List (Nat × Nat)) : List Value := sp.flatMap fun s => [.int .i64 (s.1 : Int), .int .i64 (s.2 : Int)]
theorem spanCells_append (a b : List (Nat × Nat)) : spanCells (a ++ b) = spanCells a ++ spanCells b := by simp [spanCells]

/-- Where the cutting stands. -/
def CAt (fs : List Dt.Pc) (d : ByteArray) (sp : List (Nat × Nat)) (r : List Dt.Pc) (a : Nat) : Prop :=
  Dt.spans fs 0 d = (Dt.spans r a (d.extract a d.size)).map (fun t => sp ++ t)

theorem cat_start (fs : List Dt.Pc) (d : ByteArray) : CAt fs d [] fs 0 := by simp [CAt]
theorem cat_end {fs : List Dt.Pc} {d : ByteArray} {sp : List (Nat × Nat)} {a : Nat} (h : CAt fs d sp [] a) (h0 : d.size ≤ a) : Dt.spans fs 0 d = some sp := by
  rw [h, Dt.spans, if_pos (by simp; omega)]; simp
theorem cat_left {fs : List Dt.Pc} {d : ByteArray} {sp : List (Nat × Nat)} {a : Nat} (h : CAt fs d sp [] a) (h0 : a < d.size) : Dt.spans fs 0 d = none := by
  rw [h, Dt.spans, if_neg (by simp; omega)]; rfl
theorem cat_none {fs r : List Dt.Pc} {p : Dt.Pc} {d : ByteArray} {sp : List (Nat × Nat)} {a : Nat} (h : CAt fs d sp (p :: r) a) (h0 : Dt.sz p (d.extract a d.size) = none) : Dt.spans fs 0 d = none := by
  rw [h, Dt.spans, h0]; rfl
theorem cat_step {fs r : List Dt.Pc} {p : Dt.Pc} {d : ByteArray} {sp : List (Nat × Nat)} {a n : Nat} (h : CAt fs d sp (p :: r) a) (ha : a ≤ d.size) (h0 : Dt.sz p (d.extract a d.size) = some n) :
    CAt fs d (sp ++ if p.isN then [(a, a + n)] else []) r (a + n) ∧ a + n ≤ d.size := by
  have hn := Dt.sz_le h0
  have hz : (d.extract a d.size).size = d.size - a := by simp
  refine ⟨?_, by omega⟩
  rw [CAt, h, Dt.spans, h0, Option.map_map, Dt.ext_ext (by omega) (Nat.le_refl _)]
  congr 1
  funext t
  cases p.isN <;> simp

theorem code_type {t : Int} {d : ByteArray} (h : t < 0 ∨ 65535 < t) : cutCode t d = 6 ∧ cutS t d = none := by
  rw [cutCode, cutS, if_pos h, if_pos h]; exact ⟨rfl, rfl⟩
theorem code_long {t : Int} {d : ByteArray} (h : ¬ (t < 0 ∨ 65535 < t)) (h1 : 65535 < d.size) : cutCode t d = 7 ∧ cutS t d = none := by
  rw [cutCode, cutS, if_neg h, if_neg h, if_pos h1, if_pos h1]; exact ⟨rfl, rfl⟩
theorem code_none {t : Int} {d : ByteArray} (h : ¬ (t < 0 ∨ 65535 < t)) (h1 : ¬ 65535 < d.size) (h2 : Dt.spans (Dt.implP t) 0 d = none) : cutCode t d = 7 ∧ cutS t d = none := by
  rw [cutCode, cutS, if_neg h, if_neg h, if_neg h1, if_neg h1, h2]; exact ⟨rfl, rfl⟩
theorem code_some {t : Int} {d : ByteArray} {sp : List (Nat × Nat)} (h : ¬ (t < 0 ∨ 65535 < t)) (h1 : ¬ 65535 < d.size) (h2 : Dt.spans (Dt.implP t) 0 d = some sp) : cutCode t d = 0 ∧ cutS t d = some sp := by
  rw [cutCode, cutS, if_neg h, if_neg h, if_neg h1, if_neg h1, h2]; exact ⟨rfl, rfl⟩
theorem implP_len (t : Int) : (Dt.implP t).length ≤ 5 := by
  unfold Dt.implP
  repeat' split
  all_goals simp
end Go.Proofs.Ythhagapmcbkeiaa
/- Valid records: mathematics. -/
namespace Go.Proofs.Ythhagapmcbkeiaa
open Go.RowKit
set_option linter.unusedVariables false

def inB (n m : Int) : Bool := decide (0 ≤ n) && decide (n ≤ m)
def rcOK (r : Rr) : Bool := (Nm.split r.own).isSome && inB r.ty 65535 && inB r.cl 65535 && inB r.tt 4294967295 && (decide (r.da.size = 0) || cutCode r.ty r.da == 0)
theorem all_take' {α : Type} {f : α → Bool} {xs : List α} {k : Nat} {x : α} (h : xs[k]? = some x) : (xs.take (k + 1)).all f = ((xs.take k).all f && f x) := by
  rw [List.take_add_one, h]
  simp
theorem all_no {α : Type} {f : α → Bool} {xs : List α} {x : α} (h : x ∈ xs) (hf : f x = false) : xs.all f = false := by
  rw [List.all_eq_false]
  exact ⟨x, h, by simp [hf]⟩
theorem str_empty {s : ByteArray} : (s.toList == []) = decide (s.size = 0) := by
  by_cases h : s.size = 0
  · have : s.toList = [] := List.length_eq_zero_iff.1 (by rw [Nm.tl_len]; exact h)
    simp [this, h]
  · have : s.toList ≠ [] := fun e => h (by rw [← Nm.tl_len, e]; rfl)
    simp [h, this]
end Go.Proofs.Ythhagapmcbkeiaa
/- A record that may stand in a message. -/
namespace Go.Proofs.Ythhagapmcbkeiaa
open Go.RowKit
theorem rcOK_of {r : Rr} (h1 : (Nm.split r.own).isSome = true) (t1 : 0 ≤ r.ty) (t2 : r.ty ≤ 65535) (c1 : 0 ≤ r.cl) (c2 : r.cl ≤ 65535) (l1 : 0 ≤ r.tt) (l2 : r.tt ≤ 4294967295) (hd : cutCode r.ty r.da = 0) : rcOK r = true := by
  simp [rcOK, inB, h1, t1, t2, c1, c2, l1, l2, hd]
end Go.Proofs.Ythhagapmcbkeiaa
/- A name within a message: mathematics. -/
namespace Go.Proofs.Ythhagapmcbkeiaa

/-- What reading comes to: a code, or what was read and the place behind it. -/
abbrev Rs (α : Type) := Sum Int (α × Nat)
abbrev Rs.bad {α : Type} (code : Int) : Rs α := Sum.inl code
abbrev Rs.ok {α : Type} (x : α) (next : Nat) : Rs α := Sum.inr (x, next)
theorem Rs.elim {α : Type} {motive : Rs α → Prop} (bad : ∀ c, motive (Rs.bad c)) (ok : ∀ x n, motive (Rs.ok x n)) (r : Rs α) : motive r := by
  rcases r with c | ⟨x, n⟩
  · exact bad c
  · exact ok x n

/-- What reading a name comes to. -/
abbrev Dn := Rs (List UInt8)

/-- The byte at a place. -/
def byAt (l : List UInt8) (i : Nat) : Nat := (l.getD i 0).toNat

theorem byAt_lt (l : List UInt8) (i : Nat) : byAt l i < 256 := UInt8.toNat_lt _

theorem byAt_cell {l : List UInt8} {i : Nat} (h : i < l.length) : (Nm.bys l)[i]? = some (.int .u8 (byAt l i : Int)) := by
  simp [Nm.bys, byAt, h]

/-- The name that stands at a place, of which 'acc' has been read; 'nx' is the place behind its first pointer. -/
def dnF (l : List UInt8) (start pos : Nat) (acc : List UInt8) (nx : Option Nat) : Dn :=
  if h : pos < l.length then
    if byAt l pos = 0 then .ok (acc ++ [0]) (nx.getD (pos + 1))
    else if 192 ≤ byAt l pos then
      if pos + 1 < l.length then
        if h3 : (byAt l pos - 192) * 256 + byAt l (pos + 1) < start then
          dnF l ((byAt l pos - 192) * 256 + byAt l (pos + 1)) ((byAt l pos - 192) * 256 + byAt l (pos + 1)) acc (some (nx.getD (pos + 2)))
        else .bad 9
      else .bad 8
    else if 63 < byAt l pos then .bad 2
    else if pos + 1 + byAt l pos ≤ l.length then
      if acc.length + 1 + byAt l pos + 1 ≤ 255 then dnF l start (pos + 1 + byAt l pos) (acc ++ (l.drop pos).take (1 + byAt l pos)) nx
      else .bad 3
    else .bad 8
  else .bad 8

theorem dnF_end {l : List UInt8} {start pos : Nat} {acc : List UInt8} {nx : Option Nat} (h : l.length ≤ pos) : dnF l start pos acc nx = .bad 8 := by
  rw [dnF, dif_neg (by omega)]
theorem dnF_root {l : List UInt8} {start pos : Nat} {acc : List UInt8} {nx : Option Nat} (h : pos < l.length) (h0 : byAt l pos = 0) : dnF l start pos acc nx = .ok (acc ++ [0]) (nx.getD (pos + 1)) := by
  rw [dnF, dif_pos h, if_pos h0]
theorem dnF_cut {l : List UInt8} {start pos : Nat} {acc : List UInt8} {nx : Option Nat} (h : pos < l.length) (h0 : 192 ≤ byAt l pos) (h1 : l.length ≤ pos + 1) : dnF l start pos acc nx = .bad 8 := by
  rw [dnF, dif_pos h, if_neg (by omega), if_pos h0, if_neg (by omega)]
theorem dnF_ahead {l : List UInt8} {start pos : Nat} {acc : List UInt8} {nx : Option Nat} (h0 : 192 ≤ byAt l pos) (h1 : pos + 1 < l.length) (h2 : start ≤ (byAt l pos - 192) * 256 + byAt l (pos + 1)) : dnF l start pos acc nx = .bad 9 := by
  rw [dnF, dif_pos (by omega), if_neg (by omega), if_pos h0, if_pos h1, dif_neg (by omega)]
theorem dnF_ptr {l : List UInt8} {start pos : Nat} {acc : List UInt8} {nx : Option Nat} (h0 : 192 ≤ byAt l pos) (h1 : pos + 1 < l.length) (h2 : (byAt l pos - 192) * 256 + byAt l (pos + 1) < start) :
    dnF l start pos acc nx = dnF l ((byAt l pos - 192) * 256 + byAt l (pos + 1)) ((byAt l pos - 192) * 256 + byAt l (pos + 1)) acc (some (nx.getD (pos + 2))) := by
  rw [dnF, dif_pos (by omega), if_neg (by omega), if_pos h0, if_pos h1, dif_pos h2]
theorem dnF_label {l : List UInt8} {start pos : Nat} {acc : List UInt8} {nx : Option Nat} (h : pos < l.length) (h0 : 63 < byAt l pos) (h1 : byAt l pos < 192) : dnF l start pos acc nx = .bad 2 := by
  rw [dnF, dif_pos h, if_neg (by omega), if_neg (by omega), if_pos h0]
theorem dnF_short {l : List UInt8} {start pos : Nat} {acc : List UInt8} {nx : Option Nat} (h : pos < l.length) (h0 : 0 < byAt l pos) (h1 : byAt l pos ≤ 63) (h2 : l.length < pos + 1 + byAt l pos) : dnF l start pos acc nx = .bad 8 := by
  rw [dnF, dif_pos h, if_neg (by omega), if_neg (by omega), if_neg (by omega), if_neg (by omega)]
theorem dnF_long {l : List UInt8} {start pos : Nat} {acc : List UInt8} {nx : Option Nat} (h0 : 0 < byAt l pos) (h1 : byAt l pos ≤ 63) (h2 : pos + 1 + byAt l pos ≤ l.length) (h3 : 255 < acc.length + 1 + byAt l pos + 1) : dnF l start pos acc nx = .bad 3 := by
  rw [dnF, dif_pos (by omega), if_neg (by omega), if_neg (by omega), if_neg (by omega), if_pos h2, if_neg (by omega)]
theorem dnF_more {l : List UInt8} {start pos : Nat} {acc : List UInt8} {nx : Option Nat} (h0 : 0 < byAt l pos) (h1 : byAt l pos ≤ 63) (h2 : pos + 1 + byAt l pos ≤ l.length) (h3 : acc.length + 1 + byAt l pos + 1 ≤ 255) :
    dnF l start pos acc nx = dnF l start (pos + 1 + byAt l pos) (acc ++ (l.drop pos).take (1 + byAt l pos)) nx := by
  rw [dnF, dif_pos (by omega), if_neg (by omega), if_neg (by omega), if_neg (by omega), if_pos h2, if_pos h3]

/-- What DecodeName answers: the name, the place behind it, the code. -/
def dnS (l : List UInt8) (p : Int) : List UInt8 × Int × Int :=
  if p < 0 ∨ (l.length : Int) < p then ([], 0, 32)
  else match dnF l p.toNat p.toNat [] none with
    | .inl c => ([], 0, c)
    | .inr (s, n) => (s, n, 0)
end Go.Proofs.Ythhagapmcbkeiaa
/- The model's writer; spec.l04Text by its contract. -/
namespace Go.Proofs.Ythhagapmcbkeiaa
open Go.RowKit
set_option linter.unusedVariables false

def plV (p : ByteArray × Nat) : List Value := [.string p.1, .int .i64 (p.2 : Int)]
def plVs (l : List (ByteArray × Nat)) : List Value := l.flatMap plV
theorem plVs_app (a b : List (ByteArray × Nat)) : plVs (a ++ b) = plVs a ++ plVs b := by simp [plVs]

theorem own_blk {W : World} {B e s m b : Nat} {v : Value} {xs : List Value} {cs : Array Value} {T : TypeId} (h : W.ownsRow B e s v m xs) (hb : Blk W b cs T) (hne : e ≠ T) : v.ownBlock ≠ some b := by
  rcases h.2 with ⟨rfl, _⟩ | ⟨g', cap', cur, rfl, _, hh, _⟩
  · simp [Value.ownBlock]
  · simp only [Value.ownBlock, ne_eq, Option.some.injEq]
    intro e2
    subst e2
    unfold Blk at hb
    rw [hh] at hb
    simp at hb
    exact hne hb.2
theorem own_beside {W W1 : World} {B e s m : Nat} {v u : Value} {xs : List Value} (h : W.ownsRow B e s v m xs) (hg : W.grownBy W1 u.ownBlock) (ha : ∀ g, u.ownBlock = some g → v.ownBlock ≠ some g) : W1.ownsRow B e s v m xs := by
  refine h.kept hg ?_
  cases hu : u.ownBlock with
  | none =>
    cases hv : v.ownBlock with
    | none => exact .inl rfl
    | some k => right; simp
  | some k => right; exact ha k hu
theorem own_kinds {W : World} {B e s m B' e' s' m' : Nat} {v u : Value} {xs ys : List Value} (h : W.ownsRow B e s v m xs) (h' : W.ownsRow B' e' s' u m' ys) (hne : e ≠ e') : ∀ g, u.ownBlock = some g → v.ownBlock ≠ some g := by
  intro g hg
  rcases h'.2 with ⟨rfl, _⟩ | ⟨g', cap', cur', rfl, r⟩
  · cases hg
  · simp only [Value.ownBlock, Option.some.injEq] at hg
    subst hg
    exact own_ne h ⟨h'.1, .inr ⟨g', cap', cur', rfl, r⟩⟩ hne

theorem Try.infoU8w : (Try.prog.info? 5).map (fun i => (i.zero, i.size, i.bytes)) = some (some (.int .u8 0), 1, 1) := by kernel_rfl

theorem byte_in (s : ByteArray) (k : Nat) (hk : k < s.size) (W : World) : (Instr.index 9 (.string s) (.int .i64 (k : Int))).run Try.prog W = .ok (.int .u8 (s[k].toNat : Int)) W := by
  rw [run_index_string W 9 s .i64 (k : Int) Try.underlying9]
  simp [hk]
theorem cell_newW (w : World) (cs : Array Value) (e : Nat) : ∀ (j : Nat) (u : Value), cs.toList[j]? = some u → (w.alloc (.cells cs e)).cell? ((⟨w.heap.size, 0, none⟩ : Addr).add j) = some u := by
  intro j u h
  rw [Nm.addr_add, Nat.zero_add]
  have : (w.alloc (.cells cs e)).heap[w.heap.size]? = some (.cells cs e (0, 0)) := by show (w.heap.push _)[w.heap.size]? = _; simp
  rw [cell_of_row _ _ _ _ _ _ this]
  simpa using h

end Go.Proofs.Ythhagapmcbkeiaa
