import Derived.Test.YthhagapmcbkeiaaJShL8
import Derived.Test.YthhagapmcbkeiaaJShK
import Derived.Test.YthhagapmcbkeiaaJMath
import Derived.Test.YthhagapmcbkeiaaRows
import Derived.WalkSpells
import Derived.WalkLawsBesides
import Derived.RegionTactic
import Derived.BigRegion
import Derived.BigQuiet
import Derived.Deep.QuietTactic
import Derived.OpenShut
import Derived.Lib.Bytealg
/- (impl.signature).record by its contract. -/
namespace Go.Proofs.Ythhagapmcbkeiaa
open Go.RowKit
set_option linter.unusedVariables false

/-- a signature's cells -/
def sgC (nm : ByteArray) (t f : Nat) (sum : List UInt8) (id : Nat) : List Value := .string nm :: .int .i64 (t : Int) :: .int .i64 (f : Int) :: (Nm.bys sum ++ [.int .i64 (id : Int)])
def sgA (nm : ByteArray) (t f : Nat) (sum : List UInt8) (id : Nat) : Array Value := (sgC nm t f sum id).toArray
theorem sgA_size {nm : ByteArray} {t f id : Nat} {sum : List UInt8} (h : sum.length = 32) : (sgA nm t f sum id).size = 36 := by simp [sgA, sgC, Nm.bys_length, h]
theorem sgA_0 {nm : ByteArray} {t f id : Nat} {sum : List UInt8} : (sgA nm t f sum id)[0]? = some (.string nm) := by simp [sgA, sgC]
theorem sgA_1 {nm : ByteArray} {t f id : Nat} {sum : List UInt8} : (sgA nm t f sum id)[1]? = some (.int .i64 (t : Int)) := by simp [sgA, sgC]
theorem sgA_2 {nm : ByteArray} {t f id : Nat} {sum : List UInt8} : (sgA nm t f sum id)[2]? = some (.int .i64 (f : Int)) := by simp [sgA, sgC]
theorem sgA_35 {nm : ByteArray} {t f id : Nat} {sum : List UInt8} (h : sum.length = 32) : (sgA nm t f sum id)[35]? = some (.int .i64 (id : Int)) := by
  simp only [sgA, sgC, List.getElem?_toArray]
  show (Nm.bys sum ++ [.int .i64 (id : Int)])[32]? = _
  rw [List.getElem?_append_right (by rw [Nm.bys_length]; omega), Nm.bys_length, h]
  rfl
theorem sgA_sum {nm : ByteArray} {t f id i : Nat} {sum : List UInt8} {x : Value} (h : (Nm.bys sum)[i]? = some x) : (sgA nm t f sum id)[3 + i]? = some x := by
  simp only [sgA, sgC, List.getElem?_toArray]
  rw [show 3 + i = i + 1 + 1 + 1 by omega, List.getElem?_cons_succ, List.getElem?_cons_succ, List.getElem?_cons_succ, List.getElem?_append_left (List.getElem?_eq_some_iff.1 h).1]
  exact h

/-- the sum within a signature is read as text -/
theorem sum_str {w : World} {g : Nat} {nm : ByteArray} {t f id : Nat} {sum : List UInt8} {T : TypeId} (h : Blk w g (sgA nm t f sum id) T) (hs : sum.length = 32) : (convert 22 9 (.slice (some ⟨g, 3, none⟩) 32 32)).run Try.prog w = .ok (.string ⟨sum.toArray⟩) w := by
  refine row_strB (n := 32) ⟨by rw [Nm.bys_length, hs], _, _, rfl, Nat.le_refl _, by unfold maxLen; omega, fun _ => ⟨g, 3, rfl, fun i x hx => ?_⟩⟩
  rw [blk_cell h]
  exact sgA_sum hx

theorem cat_ex (x y : List UInt8) (X Y : ByteArray) (hX : X = ⟨x.toArray⟩) (hY : Y = ⟨y.toArray⟩) (hb : x.length + y.length ≤ 100000000) : ∃ C, (∀ W, (Go.Op.stringOp .add X Y).run Try.prog W = .ok (.string C) W) ∧ C = ⟨(x ++ y).toArray⟩ := by
  subst hX
  subst hY
  refine ⟨_, fun W => run_string_add_sum W _ _ (by rw [ba_size, ba_size]; omega), ba_cat x y⟩

/-- A struct or an array handed back. -/
theorem run_results_row {P : Program} {fn : Func} {tmps : Array Value} {w : World} {r : Nat} {t : TypeId} {p : Nat} {cs : Array Value} {d : TypeDesc} (hf : fn.results = #[.cell r t]) (ht : tmps[r]?.getD undef = .pointer (some ⟨p, 0, none⟩)) (hk : Blk w p cs t)
    (hu : P.underlying t = some d) (hd : (match d with | .struct _ | .array _ _ => true | _ => false) = true) (hi : (P.info? t).map (·.size) = some cs.size) : (results fn tmps).run P w = .ok (.agg cs) w := by
  have hl := run_loadVar_row w p t t cs (0, 0) d hk hu hd hi
  simp [results, hf, ht, asAddr, hl]

end Go.Proofs.Ythhagapmcbkeiaa
/- The forms of data: mathematics. -/
namespace Go.Proofs.Ythhagapmcbkeiaa.Dt
open Go.RowKit

def alnumB (c : UInt8) : Bool := (decide (48 ≤ c.toNat) && decide (c.toNat ≤ 57)) || ((decide (97 ≤ c.toNat) && decide (c.toNat ≤ 122)) || (decide (65 ≤ c.toNat) && decide (c.toNat ≤ 90)))

/-- The short text at the beginning, with its length; empty: there is none. -/
def txtS (s : ByteArray) : ByteArray :=
  if h : 0 < s.size then (if s[0].toNat + 1 ≤ s.size then s.extract 0 (s[0].toNat + 1) else ByteArray.empty) else ByteArray.empty

/-- The name at the beginning, from 'at' on; empty: there is none. -/
def nameF : Nat → ByteArray → Nat → ByteArray
  | 0, _, _ => ByteArray.empty
  | f + 1, s, i =>
    if h : i < s.size ∧ i < 255 then
      if s[i].toNat = 0 then s.extract 0 (i + 1)
      else if 63 < s[i].toNat then ByteArray.empty
      else nameF f s (i + s[i].toNat + 1)
    else ByteArray.empty

def nameAtS (s : ByteArray) : ByteArray := nameF 256 s 0

theorem nameF_enough : ∀ (f g : Nat) (s : ByteArray) (i : Nat), 255 < f + i → 255 < g + i → nameF f s i = nameF g s i := by
  intro f
  induction f with
  | zero =>
    intro g s i hf hg
    cases g with
    | zero => rfl
    | succ g => rw [nameF, nameF, dif_neg (by omega)]
  | succ f ih =>
    intro g s i hf hg
    cases g with
    | zero => rw [nameF, nameF, dif_neg (by omega)]
    | succ g =>
      rw [nameF, nameF]
      by_cases h : i < s.size ∧ i < 255
      · rw [dif_pos h, dif_pos h, ih g s _ (by omega) (by omega)]
      · rw [dif_neg h, dif_neg h]

def formS (t : Int) : ByteArray :=
  if t = 1 then ⟨#[98, 98, 98, 98]⟩
  else if t = 2 ∨ t = 5 ∨ t = 12 ∨ t = 39 then ⟨#[110]⟩
  else if t = 6 then ⟨#[110, 110, 98, 98, 98, 98, 98, 98, 98, 98, 98, 98, 98, 98, 98, 98, 98, 98, 98, 98, 98, 98]⟩
  else if t = 13 then ⟨#[116, 116]⟩
  else if t = 15 then ⟨#[98, 98, 110]⟩
  else if t = 16 then ⟨#[115]⟩
  else if t = 28 then ⟨#[98, 98, 98, 98, 98, 98, 98, 98, 98, 98, 98, 98, 98, 98, 98, 98]⟩
  else if t = 33 then ⟨#[98, 98, 98, 98, 98, 98, 110]⟩
  else if t = 35 then ⟨#[98, 98, 98, 98, 116, 116, 116, 110]⟩
  else if t = 47 then ⟨#[110, 109]⟩
  else if t = 257 then ⟨#[98, 99]⟩
  else ⟨#[42]⟩
end Go.Proofs.Ythhagapmcbkeiaa.Dt
/- Type maps, as plain mathematics. -/
namespace Go.Proofs.Ythhagapmcbkeiaa
open Go.RowKit
set_option linter.unusedVariables false

/-- Whether it is a type map whose first window comes behind 'last'. -/
def mapF : Nat → Int → ByteArray → Bool
  | 0, _, _ => true
  | f + 1, last, s =>
    if s.size = 0 then true
    else if h : 2 ≤ s.size then
      if h2 : last < (s[0].toNat : Int) ∧ 1 ≤ s[1].toNat ∧ s[1].toNat ≤ 32 ∧ s[1].toNat + 2 ≤ s.size then
        if s[s[1].toNat + 1].toNat = 0 then false else mapF f (s[0].toNat : Int) (s.extract (s[1].toNat + 2) s.size)
      else false
    else false

theorem mapF_enough : ∀ (f g : Nat) (last : Int) (s : ByteArray), s.size < f → s.size < g → mapF f last s = mapF g last s := by
  intro f
  induction f with
  | zero => intro g last s hf; omega
  | succ f ih =>
    intro g last s hf hg
    cases g with
    | zero => omega
    | succ g =>
      rw [mapF, mapF]
      by_cases h0 : s.size = 0
      · rw [if_pos h0, if_pos h0]
      rw [if_neg h0, if_neg h0]
      by_cases h : 2 ≤ s.size
      · rw [dif_pos h, dif_pos h]
        by_cases h2 : last < (s[0].toNat : Int) ∧ 1 ≤ s[1].toNat ∧ s[1].toNat ≤ 32 ∧ s[1].toNat + 2 ≤ s.size
        · rw [dif_pos h2, dif_pos h2]
          by_cases h3 : s[s[1].toNat + 1].toNat = 0
          · rw [if_pos h3, if_pos h3]
          · rw [if_neg h3, if_neg h3]
            have he : (s.extract (s[1].toNat + 2) s.size).size = s.size - (s[1].toNat + 2) := by simp
            exact ih g _ _ (by omega) (by omega)
        · rw [dif_neg h2, dif_neg h2]
      · rw [dif_neg h, dif_neg h]

def mapS (s : ByteArray) : Bool := mapF (s.size + 1) (-1) s

theorem map_end {f : Nat} {last : Int} {s : ByteArray} (h : s.size = 0) : mapF (f + 1) last s = true := by rw [mapF, if_pos h]
theorem map_one {f : Nat} {last : Int} {s : ByteArray} (h : s.size = 1) : mapF (f + 1) last s = false := by rw [mapF, if_neg (by omega), dif_neg (by omega)]
theorem map_no {f : Nat} {last : Int} {s : ByteArray} (h : 2 ≤ s.size) (h2 : ¬ (last < (s[0].toNat : Int) ∧ 1 ≤ s[1].toNat ∧ s[1].toNat ≤ 32 ∧ s[1].toNat + 2 ≤ s.size)) : mapF (f + 1) last s = false := by
  rw [mapF, if_neg (by omega), dif_pos h, dif_neg h2]
theorem map_zero {f : Nat} {last : Int} {s : ByteArray} (h : 2 ≤ s.size) (h2 : last < (s[0].toNat : Int) ∧ 1 ≤ s[1].toNat ∧ s[1].toNat ≤ 32 ∧ s[1].toNat + 2 ≤ s.size) (h3 : (s[s[1].toNat + 1]'(by omega)).toNat = 0) : mapF (f + 1) last s = false := by
  rw [mapF, if_neg (by omega), dif_pos h, dif_pos h2, if_pos h3]
theorem map_step {last : Int} {s : ByteArray} (h : 2 ≤ s.size) (h2 : last < (s[0].toNat : Int) ∧ 1 ≤ s[1].toNat ∧ s[1].toNat ≤ 32 ∧ s[1].toNat + 2 ≤ s.size) (h3 : (s[s[1].toNat + 1]'(by omega)).toNat ≠ 0) :
    mapF (s.size + 1) last s = mapF ((s.extract (s[1].toNat + 2) s.size).size + 1) (s[0].toNat : Int) (s.extract (s[1].toNat + 2) s.size) := by
  rw [mapF, if_neg (by omega), dif_pos h, dif_pos h2, if_neg h3]
  have he : (s.extract (s[1].toNat + 2) s.size).size = s.size - (s[1].toNat + 2) := by simp
  exact mapF_enough _ _ _ _ (by omega) (by omega)

theorem not_empty {s : ByteArray} (h : 0 < s.size) : (s.toList == []) = false ∧ (s.toList != []) = true := by
  have : s.toList ≠ [] := by
    rw [ByteArray.toList_eq]
    intro e
    have h9 := congrArg List.length e
    rw [Array.length_toList] at h9
    have h8 : s.size = 0 := h9
    omega
  simp [this]

theorem ba_empty {s : ByteArray} (h : s.size = 0) : s = ⟨#[]⟩ := by
  apply ByteArray.ext
  exact Array.eq_empty_of_size_eq_zero h
theorem beq_empty {s : ByteArray} (h : s.size = 0) : (s.toList == []) = true ∧ (s.toList != []) = false := by
  have : s.toList = [] := List.length_eq_zero_iff.1 (by rw [Nm.tl_len]; exact h)
  simp [this]

end Go.Proofs.Ythhagapmcbkeiaa
/- Records as they come in: mathematics. -/
namespace Go.Proofs.Ythhagapmcbkeiaa
open Go.RowKit
set_option linter.unusedVariables false

/-- A record: its owner, type, class, time and data. -/
structure Rr where
  own : ByteArray
  ty : Int
  cl : Int
  tt : Int
  da : ByteArray

def rvV (r : Rr) : List Value := [.string r.own, .int .i64 r.ty, .int .i64 r.cl, .int .i64 r.tt, .string r.da]
def rvVs (xs : List Rr) : List Value := xs.flatMap rvV
theorem rvVs_cons (x : Rr) (xs : List Rr) : rvVs (x :: xs) = rvV x ++ rvVs xs := by simp [rvVs]
theorem rvVs_app (a b : List Rr) : rvVs (a ++ b) = rvVs a ++ rvVs b := by simp [rvVs]
theorem rvVs_len (xs : List Rr) : (rvVs xs).length = xs.length * 5 := by
  induction xs with
  | nil => rfl
  | cons x xs ih =>
    have : (rvV x).length = 5 := rfl
    rw [rvVs_cons, List.length_append, ih, List.length_cons, this]; omega

theorem rvVs_at : ∀ (xs : List Rr) (k j : Nat) (x : Rr), xs[k]? = some x → j < 5 → (rvVs xs)[k * 5 + j]? = (rvV x)[j]? := by
  intro xs
  induction xs with
  | nil => intro k j x h; simp at h
  | cons y xs ih =>
    intro k j x h hj
    have hl : (rvV y).length = 5 := rfl
    cases k with
    | zero =>
      simp at h; subst h
      rw [rvVs_cons, Nat.zero_mul, Nat.zero_add, List.getElem?_append_left (by omega)]
    | succ k =>
      simp at h
      rw [rvVs_cons, List.getElem?_append_right (by omega), hl, show (k + 1) * 5 + j - 5 = k * 5 + j by omega]
      exact ih k j x h hj

theorem rv_cells {w : World} {xs : List Rr} {b off k : Nat} {x : Rr} (hc : ∀ (i : Nat) (y : Value), (rvVs xs)[i]? = some y → w.cell? ⟨b, off + i, none⟩ = some y) (h : xs[k]? = some x) :
    w.cell? ⟨b, off + k * 5, none⟩ = some (.string x.own) ∧ w.cell? ⟨b, off + k * 5 + 1, none⟩ = some (.int .i64 x.ty) ∧ w.cell? ⟨b, off + k * 5 + 2, none⟩ = some (.int .i64 x.cl) ∧ w.cell? ⟨b, off + k * 5 + 3, none⟩ = some (.int .i64 x.tt) ∧ w.cell? ⟨b, off + k * 5 + 4, none⟩ = some (.string x.da) :=
  ⟨hc (k * 5) _ ((rvVs_at xs k 0 x h (by decide)).trans rfl), hc (k * 5 + 1) _ ((rvVs_at xs k 1 x h (by decide)).trans rfl), hc (k * 5 + 2) _ ((rvVs_at xs k 2 x h (by decide)).trans rfl), hc (k * 5 + 3) _ ((rvVs_at xs k 3 x h (by decide)).trans rfl), hc (k * 5 + 4) _ ((rvVs_at xs k 4 x h (by decide)).trans rfl)⟩

/-- The bytes of records, as the laws count them. -/
def rsum : List Rr → Nat
  | [] => 0
  | x :: xs => x.own.size + x.da.size + rsum xs
theorem rsum_step : ∀ (xs : List Rr) (k : Nat) (x : Rr), xs[k]? = some x → rsum (xs.take (k + 1)) = rsum (xs.take k) + (x.own.size + x.da.size) := by
  intro xs
  induction xs with
  | nil => intro k x h; simp at h
  | cons y xs ih =>
    intro k x h
    cases k with
    | zero => simp at h; subst h; simp [rsum]
    | succ k =>
      simp at h
      have := ih k x h
      simp only [List.take_succ_cons, rsum]; omega
theorem rsum_take_le : ∀ (xs : List Rr) (k : Nat), rsum (xs.take k) ≤ rsum xs := by
  intro xs
  induction xs with
  | nil => intro k; simp [rsum]
  | cons y xs ih =>
    intro k
    cases k with
    | zero => simp [rsum]
    | succ k => have := ih k; simp only [List.take_succ_cons, rsum]; omega
theorem rsum_mem : ∀ (xs : List Rr) (x : Rr), x ∈ xs → x.own.size + x.da.size ≤ rsum xs := by
  intro xs
  induction xs with
  | nil => intro x h; simp at h
  | cons y xs ih =>
    intro x h
    rcases List.mem_cons.1 h with rfl | h
    · simp only [rsum]; omega
    · have := ih x h; simp only [rsum]; omega
def szRS (xs : List Rr) (L : Int) : Int := if (xs.length : Int) + (rsum xs : Int) ≤ L then L - xs.length - rsum xs else -1
end Go.Proofs.Ythhagapmcbkeiaa
/- spec.l13Options, spec.l13Count by their contracts. -/
namespace Go.Proofs.Ythhagapmcbkeiaa
open Go.RowKit
set_option linter.unusedVariables false

def oStr : Value → Nat
  | .string s => s.size
  | _ => 0

theorem cell_newO (w : World) (cs : Array Value) (e : Nat) : ∀ (j : Nat) (u : Value), cs.toList[j]? = some u → (w.alloc (.cells cs e)).cell? ((⟨w.heap.size, 0, none⟩ : Addr).add j) = some u := by
  intro j u h
  rw [Nm.addr_add, Nat.zero_add]
  have : (w.alloc (.cells cs e)).heap[w.heap.size]? = some (.cells cs e (0, 0)) := by show (w.heap.push _)[w.heap.size]? = _; simp
  rw [cell_of_row _ _ _ _ _ _ this]
  simpa using h

/-- How many records have a type. -/
def cntR (xs : List Rr) (t : Int) : Nat := xs.countP (fun r => decide (r.ty = t))
theorem cnt_step {xs : List Rr} {k : Nat} {x : Rr} {t : Int} (h : xs[k]? = some x) : cntR (xs.take (k + 1)) t = cntR (xs.take k) t + (if x.ty = t then 1 else 0) := by
  rw [cntR, cntR, List.take_add_one, h]
  simp [List.countP_append, List.countP_cons]
theorem cnt_le (xs : List Rr) (t : Int) : cntR xs t ≤ xs.length := List.countP_le_length

theorem Try.infoOpz2 : (Try.prog.info? 45).map (fun i => (i.zero, i.size, i.bytes)) = some (some (.agg #[.int .i64 0, .string ByteArray.empty]), 2, 24) := by kernel_rfl
theorem opVs_app (a b : List (Int × ByteArray)) : opVs (a ++ b) = opVs a ++ opVs b := by simp [opVs]
theorem ba_drop (S : ByteArray) (n : Nat) : (S.extract n S.size).data.toList = S.data.toList.drop n := by
  simp only [ByteArray.data_extract, Array.toList_extract, List.extract_eq_take_drop]
  exact List.take_of_length_le (by simp)
theorem ba_cut (S : ByteArray) (a b : Nat) : (S.extract a b).data.toList = (S.data.toList.drop a).take (b - a) := by
  simp only [ByteArray.data_extract, Array.toList_extract, List.extract_eq_take_drop]
theorem ba_of {S : ByteArray} {l : List UInt8} (h : S.data.toList = l) : S = ⟨l.toArray⟩ := by
  rw [← h]

theorem optA_enough : ∀ (f g : Nat) (acc : List (Int × ByteArray)) (l : List UInt8), l.length < f → l.length < g → optA f acc l = optA g acc l := by
  intro f
  induction f with
  | zero => intro g acc l h; omega
  | succ f ih =>
    intro g acc l h1 h2
    cases g with
    | zero => omega
    | succ g =>
      by_cases hn : l = []
      · rw [hn, optA_nil, optA_nil]
      · by_cases hb : l.length < 4 ∨ l.length < 4 + numL ((l.drop 2).take 2)
        · rw [optA_bad hn hb, optA_bad hn hb]
        · rw [optA_step hn hb, optA_step hn hb]
          exact ih g _ _ (by rw [List.length_drop]; omega) (by rw [List.length_drop]; omega)

/-- What spec.l13Options answers. -/
def OpPost (l : List UInt8) (w : World) (e : Ending) (w' : World) : Prop := (match optR l with
  | none => e = .returned (.tuple #[.slice none 0 0, .bool false])
  | some os => ∃ u, e = .returned (.tuple #[u, .bool true]) ∧ w'.ownsRow w.heap.size 45 2 u os.length (opVs os)) ∧ Below w.heap.size w w'

end Go.Proofs.Ythhagapmcbkeiaa
/- The source of drawn numbers: spec.l01Next by its contract. -/
namespace Go.Proofs.Ythhagapmcbkeiaa
open Go.RowKit

/-- The bytes that the source reads lie where the slice leads, in another block than g. -/
def CodeAt (w : World) (g : Nat) (a : Option Addr) (n : Nat) : Prop :=
  n = 0 ∨ ∃ b off, a = some ⟨b, off, none⟩ ∧ b ≠ g ∧ ∀ i, i < n → ∃ c : Int, w.cell? ⟨b, off + i, none⟩ = some (.int .u8 c) ∧ 0 ≤ c ∧ c < 256

/-- A source lies in block g. -/
def Src (w : World) (g : Nat) (a : Option Addr) (n cap : Nat) : Prop :=
  ∃ pos st : Int, w.heap[g]? = some (.cells #[.slice a n cap, .int .i64 pos, .int .u64 st] 49 (0, 0)) ∧ 0 ≤ pos ∧ pos ≤ n ∧ n ≤ 1048576 ∧ CodeAt w g a n

theorem code_set {w : World} {g i : Nat} {a : Option Addr} {n : Nat} {v : Value} (h : CodeAt w g a n) : CodeAt (w.setCell ⟨g, i, none⟩ v) g a n := by
  rcases h with h | ⟨b, off, e, hb, hc⟩
  · exact .inl h
  · refine .inr ⟨b, off, e, hb, fun j hj => ?_⟩
    obtain ⟨c, h1, h2⟩ := hc j hj
    refine ⟨c, ?_, h2⟩
    rw [World.cell?_setCell_other w ⟨g, i, none⟩ ⟨b, off + j, none⟩ v (by intro h; cases h; exact hb rfl)]
    exact h1

theorem src_one {w : World} {g n cap : Nat} {a : Option Addr} {pos st : Int} (hb : w.heap[g]? = some (.cells #[.slice a n cap, .int .i64 pos, .int .u64 st] 49 (0, 0))) (hp0 : 0 ≤ pos) (hpn : pos ≤ n) (hn : n ≤ 1048576) (hc : CodeAt w g a n) (s2 : Int) :
    Src (w.setCell ⟨g, 2, none⟩ (.int .u64 s2)) g a n cap ∧ w.grownBy (w.setCell ⟨g, 2, none⟩ (.int .u64 s2)) (some g) := by
  refine ⟨⟨pos, s2, ?_, hp0, hpn, hn, code_set hc⟩, ⟨rfl, rfl, rfl, by simp, fun k _ hk => heap_setCell_other w ⟨g, 2, none⟩ k _ (fun e => hk (by simp [e]))⟩⟩
  rw [heap_setCell_same w g 2 _ _ _ hb]; rfl

theorem src_two {w : World} {g n cap : Nat} {a : Option Addr} {pos st : Int} (hb : w.heap[g]? = some (.cells #[.slice a n cap, .int .i64 pos, .int .u64 st] 49 (0, 0))) (hn : n ≤ 1048576) (hc : CodeAt w g a n) (s2 p2 : Int) (hp0 : 0 ≤ p2) (hpn : p2 ≤ n) :
    Src ((w.setCell ⟨g, 2, none⟩ (.int .u64 s2)).setCell ⟨g, 1, none⟩ (.int .i64 p2)) g a n cap ∧ w.grownBy ((w.setCell ⟨g, 2, none⟩ (.int .u64 s2)).setCell ⟨g, 1, none⟩ (.int .i64 p2)) (some g) := by
  have h1 := heap_setCell_same w g 2 _ _ (.int .u64 s2) hb
  have h2 := heap_setCell_same _ g 1 _ _ (.int .i64 p2) h1
  refine ⟨⟨p2, s2, ?_, hp0, hpn, hn, code_set (code_set hc)⟩, ⟨rfl, rfl, rfl, by simp, fun k _ hk => ?_⟩⟩
  · rw [h2]; rfl
  · rw [heap_setCell_other _ ⟨g, 1, none⟩ k _ (fun e => hk (by simp [e])), heap_setCell_other w ⟨g, 2, none⟩ k _ (fun e => hk (by simp [e]))]

theorem grown_drewS {w w' : World} {row : Option Nat} (h : w.grownBy w' row) : w.grownBy w'.drew row := ⟨h.os, h.tape, h.output, h.size, h.block⟩

theorem grown_step {w w1 w2 : World} {g : Nat} (h : w.grownBy w1 (some g)) (h2 : w1.grownBy w2 (some g)) : w.grownBy w2 (some g) :=
  ⟨h2.os.trans h.os, h2.tape.trans h.tape, h2.output.trans h.output, Nat.le_trans h.size h2.size, fun k hk hne => (h2.block k (Nat.lt_of_lt_of_le hk h.size) hne).trans (h.block k hk hne)⟩

theorem grown_own {w w1 w2 : World} {g : Nat} {row : Option Nat} (h : w.grownBy w1 (some g)) (h2 : w1.grownBy w2 row) (hr : ∀ k, row = some k → w.heap.size ≤ k) : w.grownBy w2 (some g) :=
  ⟨h2.os.trans h.os, h2.tape.trans h.tape, h2.output.trans h.output, Nat.le_trans h.size h2.size, fun k hk hne =>
    (h2.block k (Nat.lt_of_lt_of_le hk h.size) (fun e => by have := hr k e.symm; omega)).trans (h.block k hk hne)⟩

theorem grown_below {w w1 w2 : World} {g : Nat} (h : w.grownBy w1 (some g)) (h2 : Below w1.heap.size w1 w2) : w.grownBy w2 (some g) :=
  ⟨h2.os.trans h.os, h2.tape.trans h.tape, h2.output.trans h.output, Nat.le_trans h.size h2.size, fun k hk hne =>
    (h2.block k (Nat.lt_of_lt_of_le hk h.size)).trans (h.block k hk hne)⟩

theorem grown_alloc {w w1 : World} {g : Nat} (h : w.grownBy w1 (some g)) (o : Obj) : w.grownBy (w1.alloc o) (some g) :=
  grown_below h ((Below.refl _ _).alloc (Nat.le_refl _) o)

theorem below_of_grown {w w1 : World} {B g : Nat} (h : w.grownBy w1 (some g)) (hg : B ≤ g) (hB : B ≤ w.heap.size) : Below B w w1 :=
  (Below.refl B w).grown h hB (fun k hk => by simp at hk; omega)

/-- A source stays where blocks other than its own and its bytes' have turned. -/
theorem src_below {w w1 : World} {g n cap : Nat} {a : Option Addr} (h : Src w g a n cap) (hb : Below w.heap.size w w1) : Src w1 g a n cap := by
  obtain ⟨pos, st, h1, h2, h3, h4, h5⟩ := h
  refine ⟨pos, st, ?_, h2, h3, h4, ?_⟩
  · rw [hb.block g (Array.getElem?_eq_some_iff.1 h1).1]; exact h1
  · rcases h5 with h5 | ⟨b, off, e, hne, hc⟩
    · exact .inl h5
    · refine .inr ⟨b, off, e, hne, fun j hj => ?_⟩
      obtain ⟨c, hc1, hc2⟩ := hc j hj
      exact ⟨c, (hb.cell (World.block_lt_of_cell? w _ hc1)).trans hc1, hc2⟩

/-- .. also behind an append onto a row whose block came later. -/
theorem src_grown {w w0 w1 : World} {g n cap : Nat} {a : Option Addr} {row : Option Nat} (h : Src w g a n cap) (hg : w.grownBy w1 row) (hr : ∀ k, row = some k → w0.heap.size ≤ k) (hlt : g < w0.heap.size) (hcode : CodeAt w0 g a n) : Src w1 g a n cap := by
  obtain ⟨pos, st, h1, h2, h3, h4, h5⟩ := h
  refine ⟨pos, st, ?_, h2, h3, h4, ?_⟩
  · rw [hg.block g (Array.getElem?_eq_some_iff.1 h1).1 (fun e => by have := hr g e.symm; omega)]; exact h1
  · rcases h5 with h5 | ⟨b, off, e, hne, hc⟩
    · exact .inl h5
    · rcases hcode with h6 | ⟨b', off', e', _, hc'⟩
      · exact .inl h6
      · rw [e] at e'
        simp only [Option.some.injEq, Addr.mk.injEq, and_true] at e'
        obtain ⟨rfl, rfl⟩ := e'
        refine .inr ⟨b, off, e, hne, fun j hj => ?_⟩
        obtain ⟨c, hc1, hc2⟩ := hc j hj
        obtain ⟨c', hc1', _⟩ := hc' j hj
        have hbl := World.block_lt_of_cell? w0 _ hc1'
        exact ⟨c, hg.cell hc1 (fun e => by have h7 := hr b e.symm; have h8 : b < w0.heap.size := hbl; omega), hc2⟩

theorem src_code {w : World} {g n cap : Nat} {a : Option Addr} (h : Src w g a n cap) : CodeAt w g a n ∧ g < w.heap.size := by
  obtain ⟨pos, st, h1, h2, h3, h4, h5⟩ := h
  exact ⟨h5, (Array.getElem?_eq_some_iff.1 h1).1⟩

/-- A row of the call's own is not the source's block: its elements are of another type. -/
theorem row_src {w : World} {B e m g n cap : Nat} {a : Option Addr} {v : Value} {xs : List Value} (h : w.ownsRow B e 1 v m xs) (hs : Src w g a n cap) (hne : e ≠ 49) : v.ownBlock = none ∨ v.ownBlock ≠ some g := by
  obtain ⟨pos, st, h1, _⟩ := hs
  rcases h.2 with ⟨rfl, _⟩ | ⟨g', cap', cur, rfl, _, hh, _⟩
  · exact .inl rfl
  · right
    simp only [Value.ownBlock, ne_eq, Option.some.injEq]
    intro e2
    subst e2
    rw [hh] at h1
    simp at h1
    exact hne h1.2

theorem next_bound {x N : Int} (hx : 0 ≤ x) (h1 : 1 ≤ N) (h2 : N ≤ 1048576) : 0 ≤ wrap64 (x.tmod N) ∧ wrap64 (x.tmod N) < N := by
  have a1 : 0 ≤ x.tmod N := Int.tmod_nonneg N hx
  have a2 : x.tmod N < N := Int.tmod_lt_of_pos x (by omega)
  rw [IntWalk.wrap64_in (x.tmod N) ⟨by omega, by omega⟩]
  exact ⟨a1, a2⟩

theorem u64_nn (k : Int) : 0 ≤ IntKind.u64.wrap k := (bounds_u64 (wf_wrap .u64 k)).1
theorem bits_nn (op : BinOp) (x y : Int) : 0 ≤ bits op .u64 x y := (bounds_u64 (wf_bits op .u64 x y)).1

set_option maxRecDepth 100000 in
set_option maxHeartbeats 800000 in
theorem l01Next_any (g : Nat) (a : Option Addr) (n cap : Nat) (N : Int) (w : World) (h : Src w g a n cap) (hN : N ≤ 1048576) :
    Calls Try.prog 11 #[.pointer (some ⟨g, 0, none⟩), .int .i64 N] w fun e w' => ∃ r : Int, e = .returned (.int .i64 r) ∧ 0 ≤ r ∧ (0 < N → r < N) ∧ Src w' g a n cap ∧ w.grownBy w' (some g) := by
  obtain ⟨pos, st, hb, hp0, hpn, hn, hcode⟩ := h
  by_cases hN0 : N ≤ 0
  · go_enter Try.func11, Try.ntmps11
    go_wp2
    go_ret
    exact ⟨0, rfl, by omega, by omega, ⟨pos, st, hb, hp0, hpn, hn, hcode⟩, World.grownBy.refl _ _⟩
  · have c0 : w.cell? ⟨g, 0, none⟩ = some (.slice a n cap) := by rw [cell_of_row _ _ _ _ _ _ hb]; rfl
    have c1 : w.cell? ⟨g, 1, none⟩ = some (.int .i64 pos) := by rw [cell_of_row _ _ _ _ _ _ hb]; rfl
    have c2 : w.cell? ⟨g, 2, none⟩ = some (.int .u64 st) := by rw [cell_of_row _ _ _ _ _ _ hb]; rfl
    have f0 := frozen_of_row w g 0 _ _ hb
    have f1 := frozen_of_row w g 1 _ _ hb
    have f2 := frozen_of_row w g 2 _ _ hb
    have hN1 : 1 ≤ N := by omega
    by_cases hlt : pos < n
    · obtain ⟨b, off, rfl, hbg, hcell⟩ := hcode.resolve_left (by omega)
      obtain ⟨k, rfl⟩ := Int.eq_ofNat_of_zero_le hp0
      obtain ⟨c, hc, hc0, hc1⟩ := hcell k (by omega)
      have HS := fun s2 => Nm.hide (src_two hb hn hcode s2 ((k : Int) + 1) (by omega) (by omega))
      clear hb hcode
      go_enter Try.func11, Try.ntmps11
      go_wp2
      go_region
      go_wp2
      go_region
      go_wp2
      go_ret
      have B := next_bound (N := N) (bits_nn .xor (IntKind.u64.wrap (IntKind.u64.wrap (st * 6364136223846793005) + 1442695040888963407) / 8589934592) c) hN1 hN
      exact ⟨_, rfl, B.1, fun _ => B.2, (HS _).out.1, grown_drewS (grown_drewS (HS _).out.2)⟩
    · have HS := fun s2 => Nm.hide (src_one hb hp0 hpn hn hcode s2)
      have hge : (n : Int) ≤ pos := by omega
      clear hb hcode
      go_enter Try.func11, Try.ntmps11
      go_wp2
      go_region
      go_wp2
      go_ret
      have B := next_bound (N := N) (x := IntKind.u64.wrap (IntKind.u64.wrap (st * 6364136223846793005) + 1442695040888963407) / 8589934592) (Int.ediv_nonneg (u64_nn _) (by decide)) hN1 hN
      exact ⟨_, rfl, B.1, fun _ => B.2, (HS _).out.1, grown_drewS (HS _).out.2⟩
end Go.Proofs.Ythhagapmcbkeiaa
/- The size of bytes that are made. -/
namespace Go.Proofs.Ythhagapmcbkeiaa
open Go.RowKit

theorem mk_size (l : List UInt8) : (⟨l.toArray⟩ : ByteArray).size = l.length := by show l.toArray.size = _; simp
end Go.Proofs.Ythhagapmcbkeiaa
/- Names as text, as plain mathematics. -/
namespace Go.Proofs.Ythhagapmcbkeiaa.Nm
open Go.RowKit

def marks : List UInt8 := [46, 92, 34, 59, 40, 41, 64, 36]
def markB (c : UInt8) : Bool := marks.any (· == c)

def threeL (c : UInt8) : List UInt8 := [UInt8.ofNat (48 + c.toNat / 100), UInt8.ofNat (48 + c.toNat / 10 % 10), UInt8.ofNat (48 + c.toNat % 10)]

def showB (c : UInt8) : List UInt8 :=
  if markB c = true then [92, c]
  else if 33 ≤ c.toNat ∧ c.toNat ≤ 126 then [c]
  else 92 :: threeL c

def showX (l : List UInt8) : List UInt8 := l.flatMap showB

def showL : List ByteArray → List UInt8
  | [] => []
  | l :: r => (showX l.data.toList ++ [46]) ++ showL r

theorem showB_mark {c : UInt8} (h : markB c = true) : showB c = [92, c] := by rw [showB, if_pos h]
theorem showB_plain {c : UInt8} (h : markB c = false) (h1 : 33 ≤ c.toNat ∧ c.toNat ≤ 126) : showB c = [c] := by rw [showB, if_neg (by simp [h]), if_pos h1]
theorem showB_num {c : UInt8} (h : markB c = false) (h1 : ¬ (33 ≤ c.toNat ∧ c.toNat ≤ 126)) : showB c = 92 :: threeL c := by rw [showB, if_neg (by simp [h]), if_neg h1]

theorem showB_length (c : UInt8) : (showB c).length ≤ 4 ∧ 1 ≤ (showB c).length := by
  unfold showB threeL
  split
  · simp
  · split <;> simp

theorem showX_append (a b : List UInt8) : showX (a ++ b) = showX a ++ showX b := by simp [showX]

theorem showX_length (l : List UInt8) : (showX l).length ≤ 4 * l.length := by
  induction l with
  | nil => simp [showX]
  | cons c r ih =>
    have := showB_length c
    simp only [showX, List.flatMap_cons, List.length_append, List.length_cons] at *
    omega

theorem showL_append (a b : List ByteArray) : showL (a ++ b) = showL a ++ showL b := by
  induction a with
  | nil => simp [showL]
  | cons x a ih => simp [showL, ih]

theorem showL_length (ls : List ByteArray) : (showL ls).length ≤ 4 * wsum ls := by
  induction ls with
  | nil => simp [showL]
  | cons x r ih =>
    have := showX_length x.data.toList
    simp only [showL, wsum, List.length_append, List.length_cons, List.length_nil, Array.length_toList, ByteArray.size_data] at *
    omega

theorem showL_step {ls : List ByteArray} {k : Nat} {x : ByteArray} (h : ls[k]? = some x) : showL (ls.take (k + 1)) = showL (ls.take k) ++ (showX x.data.toList ++ [46]) := by
  rw [take_step h, showL_append]; simp [showL]

theorem showX_step {x : ByteArray} {j : Nat} (h : j < x.size) : showX (x.data.toList.take (j + 1)) = showX (x.data.toList.take j) ++ showB x[j] := by
  have e : x.data.toList[j]? = some x[j] := by
    rw [List.getElem?_eq_getElem (by simpa using h)]; rfl
  rw [take_step e, showX_append]; simp [showX]

theorem showL_pos {ls : List ByteArray} (h : ls ≠ []) : 0 < (showL ls).length := by
  cases ls with
  | nil => exact absurd rfl h
  | cons x r => simp only [showL, List.length_append, List.length_cons, List.length_nil]; omega

def showS (s : ByteArray) : ByteArray × Int :=
  match split s with
  | none => (ByteArray.empty, 1)
  | some [] => (⟨#[46]⟩, 0)
  | some ls => (⟨(showL ls).toArray⟩, 0)

theorem showS_none {s : ByteArray} (h : split s = none) : showS s = (ByteArray.empty, 1) := by simp [showS, h]
theorem showS_root {s : ByteArray} (h : split s = some []) : showS s = (⟨#[46]⟩, 0) := by simp [showS, h]
theorem showS_some {s : ByteArray} {ls : List ByteArray} (h : split s = some ls) (hn : ls ≠ []) : showS s = (⟨(showL ls).toArray⟩, 0) := by
  cases ls with
  | nil => exact absurd rfl hn
  | cons x r => simp [showS, h]

theorem u8_back (c : UInt8) : ((c.toNat : Int)).toNat.toUInt8 = c := by
  simp

theorem mark_idx (c : UInt8) : decide (0 ≤ firstIdx ⟨#[46, 92, 34, 59, 40, 41, 64, 36]⟩ c) = markB c := by
  rw [firstIdx_nonneg]; rfl

theorem bys_mark (c : UInt8) : [Value.int .u8 (c.toNat : Int)] = bys [c] := rfl
theorem bys_num (c : UInt8) : [Value.int .u8 92, .int .u8 (48 + (c.toNat : Int) / 100), .int .u8 (48 + (c.toNat : Int) / 10 % 10), .int .u8 (48 + (c.toNat : Int) % 10)] = bys (92 :: threeL c) := by
  have := c.toNat_lt
  simp [bys, threeL]; omega

theorem markB_true {c : UInt8} (h : markB c = true) : c = 46 ∨ c = 92 ∨ c = 34 ∨ c = 59 ∨ c = 40 ∨ c = 41 ∨ c = 64 ∨ c = 36 := by
  simp [markB, marks] at h
  rcases h with h | h | h | h | h | h | h | h <;> simp [← h]

theorem markB_false {c : UInt8} (h : markB c = false) : (c == 46) = false ∧ (c == 92) = false ∧ (c == 34) = false ∧ (c == 59) = false ∧ (c == 40) = false ∧ (c == 41) = false ∧ (c == 64) = false ∧ (c == 36) = false := by
  simp only [markB, marks, List.any_cons, List.any_nil, Bool.or_eq_false_iff, beq_eq_false_iff_ne] at h
  obtain ⟨h1, h2, h3, h4, h5, h6, h7, h8, _⟩ := h
  simp only [beq_eq_false_iff_ne]
  exact ⟨h1.symm, h2.symm, h3.symm, h4.symm, h5.symm, h6.symm, h7.symm, h8.symm⟩

theorem four_cells (a b c d : Int) : ∀ u ∈ [Value.int .u8 a, .int .u8 b, .int .u8 c, .int .u8 d], u.oneCell' = true := by
  intro u hu
  simp at hu
  rcases hu with rfl | rfl | rfl | rfl <;> rfl

end Go.Proofs.Ythhagapmcbkeiaa.Nm
