import Derived.WalkKit
import Derived.Lib.AppendStr
import Derived.Laws.IdiomStrings
/- Names, as plain mathematics: the labels of a name in wire form. -/
namespace Go.Proofs.Ytkiadnglbjamfaa.Nm

def splitF : Nat → ByteArray → Option (List ByteArray)
  | 0, _ => none
  | f + 1, r =>
    if h : 0 < r.size then
      if r[0].toNat = 0 then (if r.size = 1 then some [] else none)
      else if 63 < r[0].toNat ∨ r.size < r[0].toNat + 1 then none
      else (splitF f (r.extract (r[0].toNat + 1) r.size)).map (fun ls => r.extract 1 (r[0].toNat + 1) :: ls)
    else none

def split (s : ByteArray) : Option (List ByteArray) := if s.size ≤ 255 then splitF 256 s else none

theorem splitF_empty (f : Nat) (r : ByteArray) (h : r.size = 0) : splitF f r = none := by
  cases f with
  | zero => rfl
  | succ f => rw [splitF, dif_neg (by omega)]

theorem splitF_end (f : Nat) (r : ByteArray) (h : 0 < r.size) (h0 : r[0].toNat = 0) (h1 : r.size = 1) : splitF (f + 1) r = some [] := by
  rw [splitF, dif_pos h, if_pos h0, if_pos h1]

theorem splitF_zero (f : Nat) (r : ByteArray) (h : 0 < r.size) (h0 : r[0].toNat = 0) (h1 : r.size ≠ 1) : splitF (f + 1) r = none := by
  rw [splitF, dif_pos h, if_pos h0, if_neg h1]

theorem splitF_bad (f : Nat) (r : ByteArray) (h : 0 < r.size) (h0 : r[0].toNat ≠ 0) (h1 : 63 < r[0].toNat ∨ r.size < r[0].toNat + 1) : splitF (f + 1) r = none := by
  rw [splitF, dif_pos h, if_neg h0, if_pos h1]

theorem splitF_step (f : Nat) (r : ByteArray) (h : 0 < r.size) (h0 : r[0].toNat ≠ 0) (h1 : r[0].toNat ≤ 63) (h2 : r[0].toNat + 1 ≤ r.size) :
    splitF (f + 1) r = (splitF f (r.extract (r[0].toNat + 1) r.size)).map (fun ls => r.extract 1 (r[0].toNat + 1) :: ls) := by
  rw [splitF, dif_pos h, if_neg h0, if_neg (by omega)]

theorem split_long (s : ByteArray) (h : 255 < s.size) : split s = none := by rw [split, if_neg (by omega)]
theorem split_short (s : ByteArray) (h : s.size ≤ 255) : split s = splitF 256 s := by rw [split, if_pos h]

/-- Where the reading stands: 'ls' are the labels that were cut off, 'r' is the rest. -/
def At (s : ByteArray) (ls : List ByteArray) (r : ByteArray) : Prop :=
  ∃ f, r.size < f ∧ split s = (splitF f r).map (fun t => ls ++ t)

theorem at_start (s : ByteArray) (h : s.size ≤ 255) : At s [] s := ⟨256, by omega, by rw [split_short s h]; simp⟩

theorem at_empty {s r : ByteArray} {ls : List ByteArray} (h : At s ls r) (h0 : r.size = 0) : split s = none := by
  obtain ⟨f, _, e⟩ := h; rw [e, splitF_empty f r h0]; rfl

theorem at_end {s r : ByteArray} {ls : List ByteArray} (h : At s ls r) (hp : 0 < r.size) (h0 : r[0].toNat = 0) (h1 : r.size = 1) : split s = some ls := by
  obtain ⟨f, hf, e⟩ := h
  obtain ⟨g, rfl⟩ : ∃ g, f = g + 1 := ⟨f - 1, by omega⟩
  rw [e, splitF_end g r hp h0 h1]; simp

theorem at_zero {s r : ByteArray} {ls : List ByteArray} (h : At s ls r) (hp : 0 < r.size) (h0 : r[0].toNat = 0) (h1 : r.size ≠ 1) : split s = none := by
  obtain ⟨f, hf, e⟩ := h
  obtain ⟨g, rfl⟩ : ∃ g, f = g + 1 := ⟨f - 1, by omega⟩
  rw [e, splitF_zero g r hp h0 h1]; rfl

theorem at_bad {s r : ByteArray} {ls : List ByteArray} (h : At s ls r) (hp : 0 < r.size) (h0 : r[0].toNat ≠ 0) (h1 : 63 < r[0].toNat ∨ r.size < r[0].toNat + 1) : split s = none := by
  obtain ⟨f, hf, e⟩ := h
  obtain ⟨g, rfl⟩ : ∃ g, f = g + 1 := ⟨f - 1, by omega⟩
  rw [e, splitF_bad g r hp h0 h1]; rfl

theorem at_step {s r : ByteArray} {ls : List ByteArray} (h : At s ls r) (hp : 0 < r.size) (h0 : r[0].toNat ≠ 0) (h1 : r[0].toNat ≤ 63) (h2 : r[0].toNat + 1 ≤ r.size) :
    At s (ls ++ [r.extract 1 (r[0].toNat + 1)]) (r.extract (r[0].toNat + 1) r.size) := by
  obtain ⟨f, hf, e⟩ := h
  obtain ⟨g, rfl⟩ : ∃ g, f = g + 1 := ⟨f - 1, by omega⟩
  refine ⟨g, by simp; omega, ?_⟩
  rw [e, splitF_step g r hp h0 h1 h2, Option.map_map]
  congr 1; funext t; simp

theorem tl_len (r : ByteArray) : r.toList.length = r.size := by rw [ByteArray.toList_eq]; simp

theorem tl_one {r : ByteArray} (h : 0 < r.size) (h1 : r.size = 1) (h0 : r[0].toNat = 0) : (r.toList == [0]) = true := by
  rw [beq_iff_eq, ByteArray.toList_eq]
  refine List.ext_getElem (by simpa using h1) ?_
  intro i hi hj
  have : i = 0 := by simpa using hj
  subst this
  have e : r.data.toList[0] = r[0] := rfl
  rw [e]
  exact UInt8.toNat_inj.1 (by simpa using h0)

theorem tl_not_one {r : ByteArray} (h : 0 < r.size) (h1 : ¬ (r.size = 1 ∧ r[0].toNat = 0)) : (r.toList == [0]) = false := by
  rw [beq_eq_false_iff_ne]
  intro e
  rw [ByteArray.toList_eq] at e
  apply h1
  refine ⟨by have := congrArg List.length e; simpa using this, ?_⟩
  have g : r.data.toList[0]? = some 0 := by rw [e]; rfl
  have g2 : r.data.toList[0]? = some r[0] := List.getElem?_eq_getElem (by simpa using h)
  rw [g2] at g
  have g3 : r[0] = 0 := by simpa using g
  rw [g3]; rfl

theorem tl_not_one_empty {r : ByteArray} (h : r.size = 0) : (r.toList == [0]) = false := by
  rw [beq_eq_false_iff_ne]
  intro e
  have := congrArg List.length e
  rw [tl_len] at this
  simp at this; omega

theorem tl_empty {r : ByteArray} (h : r.size = 0) : r.toList.isEmpty = true := by
  rw [List.isEmpty_iff, ← List.length_eq_zero_iff, tl_len]; exact h

theorem tl_not_empty {r : ByteArray} (h : 0 < r.size) : r.toList.isEmpty = false := by
  rw [Bool.eq_false_iff]
  intro e
  rw [List.isEmpty_iff, ← List.length_eq_zero_iff, tl_len] at e; omega

theorem one_cell (x : Value) (h : x.oneCell' = true) : ∀ u : Value, u ∈ [x] → u.oneCell' = true := by
  intro u hu; simp at hu; subst hu; exact h

end Go.Proofs.Ytkiadnglbjamfaa.Nm
/- Lists of labels: as plain mathematics, and as they lie in memory. -/
namespace Go.Proofs.Ytkiadnglbjamfaa.Nm
open Go.RowKit

def wsum : List ByteArray → Nat
  | [] => 0
  | l :: r => (1 + l.size) + wsum r

def preL : List ByteArray → List UInt8
  | [] => []
  | l :: r => (UInt8.ofNat l.size :: l.data.toList) ++ preL r

def joinL (ls : List ByteArray) : List UInt8 := preL ls ++ [0]

theorem hide {p : Prop} (h : p) : Hid p := h

theorem wsum_append (a b : List ByteArray) : wsum (a ++ b) = wsum a + wsum b := by
  induction a with
  | nil => simp [wsum]
  | cons x a ih => simp only [List.cons_append, wsum, ih]; omega

theorem preL_append (a b : List ByteArray) : preL (a ++ b) = preL a ++ preL b := by
  induction a with
  | nil => simp [preL]
  | cons x a ih => simp [preL, ih]

theorem preL_length (ls : List ByteArray) : (preL ls).length = wsum ls := by
  induction ls with
  | nil => rfl
  | cons x a ih => simp only [preL, wsum, List.length_append, List.length_cons, ih, Array.length_toList, ByteArray.size_data]; omega

theorem joinL_length (ls : List ByteArray) : (joinL ls).length = wsum ls + 1 := by simp [joinL, preL_length]

theorem length_le_wsum (ls : List ByteArray) : ls.length ≤ wsum ls := by
  induction ls with
  | nil => simp
  | cons x a ih => simp only [wsum, List.length_cons]; omega

theorem take_step {α : Type} {ls : List α} {k : Nat} {x : α} (h : ls[k]? = some x) : ls.take (k + 1) = ls.take k ++ [x] := by
  obtain ⟨hk, e⟩ := List.getElem?_eq_some_iff.1 h
  rw [List.take_succ_eq_append_getElem hk, e]

theorem wsum_step {ls : List ByteArray} {k : Nat} {x : ByteArray} (h : ls[k]? = some x) : wsum (ls.take (k + 1)) = wsum (ls.take k) + (1 + x.size) := by
  rw [take_step h, wsum_append]; simp [wsum]

theorem preL_step {ls : List ByteArray} {k : Nat} {x : ByteArray} (h : ls[k]? = some x) : preL (ls.take (k + 1)) = preL (ls.take k) ++ (UInt8.ofNat x.size :: x.data.toList) := by
  rw [take_step h, preL_append]; simp [preL]

theorem wsum_take_le (ls : List ByteArray) (k : Nat) : wsum (ls.take k) ≤ wsum ls := by
  have e := wsum_append (ls.take k) (ls.drop k)
  rw [List.take_append_drop] at e; omega

/-- Bytes as cells. -/
def bys (l : List UInt8) : List Value := l.map fun b => Value.int .u8 b.toNat

theorem bys_append (a b : List UInt8) : bys (a ++ b) = bys a ++ bys b := by simp [bys]
theorem bys_length (a : List UInt8) : (bys a).length = a.length := by simp [bys]
theorem bys_str (s : ByteArray) : Go.Lib.strCells s = bys s.data.toList := rfl

/-- The labels 'ls' lie where the slice 'v' leads, and may be read. -/
def SRow (w : World) (v : Value) (ls : List ByteArray) : Prop :=
  ∃ a cap, v = .slice a ls.length cap ∧ ls.length ≤ cap ∧ cap ≤ maxLen ∧ (a = none → cap = 0) ∧
    (ls ≠ [] → ∃ b off, a = some ⟨b, off, none⟩ ∧ ∀ i x, ls[i]? = some x → w.cell? ⟨b, off + i, none⟩ = some (.string x))

theorem SRow.of_owns {w : World} {B e : Nat} {v : Value} {ls : List ByteArray} (h : w.ownsRow B e 1 v ls.length (ls.map Value.string)) : SRow w v ls := by
  rcases h.2 with ⟨rfl, h0⟩ | ⟨g, cap, cur, rfl, hb, hg, hn, hm, hs, ht⟩
  · have : ls = [] := List.length_eq_zero_iff.1 h0
    subst this
    exact ⟨none, 0, rfl, by simp, by decide, fun _ => rfl, fun h => absurd rfl h⟩
  · refine ⟨_, cap, rfl, hn, hm, (fun h => by cases h), fun _ => ⟨g, 0, rfl, ?_⟩⟩
    intro i x hx
    obtain ⟨hi, e⟩ := List.getElem?_eq_some_iff.1 hx
    rw [Nat.zero_add, h.cellAt i (by omega)]
    simp [hx]

theorem SRow.below {w w' : World} {v : Value} {ls : List ByteArray} (h : SRow w v ls) (hb : Below w.heap.size w w') : SRow w' v ls := by
  obtain ⟨a, cap, rfl, h1, h2, h2', h3⟩ := h
  refine ⟨a, cap, rfl, h1, h2, h2', fun hne => ?_⟩
  obtain ⟨b, off, rfl, hc⟩ := h3 hne
  refine ⟨b, off, rfl, fun i x hx => ?_⟩
  have := hc i x hx
  rw [hb.cell (World.block_lt_of_cell? w _ this)]
  exact this

theorem below_two {w w1 w2 : World} (h1 : Below w.heap.size w w1) (h2 : Below w1.heap.size w1 w2) : Below w.heap.size w w2 :=
  h1.trans (h2.mono h1.size)

/-- What one append of bytes onto a row of the call's own leaves. -/
theorem bys_step {W wr w1 : World} {v v' : Value} {B e n m : Nat} {l x : List UInt8} (hB : B ≤ wr.heap.size)
    (hown : wr.ownsRow B e 1 v n (bys l)) (hbel : Below B W wr)
    (hown' : w1.ownsRow B e 1 v' (n + m) (bys l ++ bys x)) (hgrow : wr.grownBy w1 v.ownBlock) :
    w1.ownsRow B e 1 v' (n + m) (bys (l ++ x)) ∧ Below B W w1 := by
  refine ⟨by rw [bys_append]; exact hown', ?_⟩
  exact hbel.grown hgrow hB (fun k hk => (hown.lt k hk).1)

theorem bys_step_str {W wr w1 : World} {v v' : Value} {B e n : Nat} {l : List UInt8} {x : ByteArray} (hB : B ≤ wr.heap.size)
    (hown : wr.ownsRow B e 1 v n (bys l)) (hbel : Below B W wr)
    (hown' : w1.ownsRow B e 1 v' (n + x.size) (bys l ++ Go.Lib.strCells x)) (hgrow : wr.grownBy w1 v.ownBlock) :
    w1.ownsRow B e 1 v' (n + x.size) (bys (l ++ x.data.toList)) ∧ Below B W w1 :=
  bys_step hB hown hbel hown' hgrow

theorem conv_own {P : Program} {w : World} {B e src dst n : Nat} {v : Value} {l : List UInt8} (hs : P.underlying src = some (.slice e)) (he : P.underlying e = some (.int .u8)) (hd : P.underlying dst = some .string)
    (h : w.ownsRow B e 1 v n (bys l)) (hp : 0 < n) :
    ∃ g cap, v = .slice (some ⟨g, 0, none⟩) n cap ∧ (convert src dst (.slice (some ⟨g, 0, none⟩) n cap)).run P w = .ok (.string ⟨l.toArray⟩) w := by
  have hn : n = l.length := by have := h.1; rw [bys_length] at this; omega
  subst hn
  rcases h.2 with ⟨rfl, h0⟩ | ⟨g, cap, cur, rfl, hb, hg, hnc, hm, hcs, ht⟩
  · omega
  · refine ⟨g, cap, rfl, run_convert_bytes_back w src dst e ⟨g, 0, none⟩ cap l hs he hd ?_⟩
    intro j hj
    exact h.cells (g := g) rfl j _ (by simp [bys, hj])

theorem addr_add (b off k : Nat) : (⟨b, off, none⟩ : Addr).add k = ⟨b, off + k, none⟩ := by
  unfold Addr.add; split <;> simp_all

theorem SRow.drop_all {w : World} {a : Option Addr} {ls : List ByteArray} {cap k : Nat} (h : SRow w (.slice a ls.length cap) ls) (hk : cap = k) : SRow w (.slice a (ls.length - k) 0) (ls.drop k) := by
  obtain ⟨a', cap', e, h1, h2, h3, h4⟩ := h
  simp only [Value.slice.injEq] at e
  obtain ⟨rfl, _, rfl⟩ := e
  have hd : ls.drop k = [] := List.drop_eq_nil_of_le (by omega)
  rw [hd]
  exact ⟨a, 0, by simp; omega, by simp, by decide, fun _ => rfl, fun h => absurd rfl h⟩

theorem SRow.drop {w : World} {a : Option Addr} {ls : List ByteArray} {cap k : Nat} (h : SRow w (.slice a ls.length cap) ls) (hk : k ≤ ls.length) :
    SRow w (.slice (a.map (fun x => x.add k)) (ls.length - k) (cap - k)) (ls.drop k) := by
  obtain ⟨a', cap', e, h1, h2, h3, h4⟩ := h
  simp only [Value.slice.injEq] at e
  obtain ⟨rfl, _, rfl⟩ := e
  refine ⟨_, _, by rw [List.length_drop], by rw [List.length_drop]; omega, by omega, ?_, ?_⟩
  · intro h; simp at h; have := h3 h; omega
  · intro hne
    obtain ⟨b, off, rfl, hc⟩ := h4 (by intro h; rw [h] at hne; simp at hne)
    refine ⟨b, off + k, by simp [addr_add], ?_⟩
    intro i x hx
    rw [List.getElem?_drop] at hx
    rw [Nat.add_assoc]
    exact hc _ _ hx

theorem wsum_drop_le (ls : List ByteArray) (k : Nat) : wsum (ls.drop k) ≤ wsum ls := by
  have e := wsum_append (ls.take k) (ls.drop k)
  rw [List.take_append_drop] at e; omega

theorem splitF_size : ∀ (f : Nat) (r : ByteArray) (ls : List ByteArray), splitF f r = some ls → wsum ls + 1 = r.size := by
  intro f
  induction f with
  | zero => intro r ls h; simp [splitF] at h
  | succ f ih =>
    intro r ls h
    by_cases hp : 0 < r.size
    · by_cases h0 : r[0].toNat = 0
      · by_cases h1 : r.size = 1
        · rw [splitF_end f r hp h0 h1] at h
          simp at h; subst h; simp [wsum]; omega
        · rw [splitF_zero f r hp h0 h1] at h; simp at h
      · by_cases h1 : 63 < r[0].toNat ∨ r.size < r[0].toNat + 1
        · rw [splitF_bad f r hp h0 h1] at h; simp at h
        · rw [splitF_step f r hp h0 (by omega) (by omega)] at h
          cases e : splitF f (r.extract (r[0].toNat + 1) r.size) with
          | none => rw [e] at h; simp at h
          | some t =>
            rw [e] at h
            simp at h
            have := ih _ _ e
            rw [← h]
            simp at this
            simp [wsum]; omega
    · rw [splitF_empty _ r (by omega)] at h; simp at h

theorem split_size {s : ByteArray} {ls : List ByteArray} (h : split s = some ls) : wsum ls + 1 = s.size ∧ s.size ≤ 255 := by
  by_cases hl : s.size ≤ 255
  · rw [split_short s hl] at h
    exact ⟨splitF_size _ _ _ h, hl⟩
  · rw [split_long s (by omega)] at h; simp at h

end Go.Proofs.Ytkiadnglbjamfaa.Nm
/- Folding, and the order of texts, as plain mathematics. -/
namespace Go.Proofs.Ytkiadnglbjamfaa.Nm
open Go.RowKit

def low (c : UInt8) : UInt8 := if 65 ≤ c.toNat ∧ c.toNat ≤ 90 then UInt8.ofNat (c.toNat + 32) else c
def smallL (l : List UInt8) : List UInt8 := l.map low
def small (s : ByteArray) : ByteArray := ⟨(smallL s.data.toList).toArray⟩

theorem low_up {c : UInt8} (h : 65 ≤ c.toNat ∧ c.toNat ≤ 90) : ((low c).toNat : Int) = (c.toNat : Int) + 32 := by
  rw [low, if_pos h]; simp; omega
theorem low_id {c : UInt8} (h : ¬ (65 ≤ c.toNat ∧ c.toNat ≤ 90)) : low c = c := by rw [low, if_neg h]

theorem small_data (s : ByteArray) : (small s).data.toList = smallL s.data.toList := by simp [small]
theorem small_size (s : ByteArray) : (small s).size = s.size := by
  have : (small s).data.toList.length = s.data.toList.length := by rw [small_data]; simp [smallL]
  simpa using this

theorem ba_ext {a b : ByteArray} (h : a.data.toList = b.data.toList) : a = b := by
  apply ByteArray.ext
  exact Array.toList_inj.1 h

theorem smallL_step {l : List UInt8} {k : Nat} {c : UInt8} (h : l[k]? = some c) : smallL (l.take (k + 1)) = smallL (l.take k) ++ [low c] := by
  rw [take_step h]; simp [smallL]

theorem get_data {x : ByteArray} {j : Nat} (h : j < x.size) : x.data.toList[j]? = some x[j] := by
  rw [List.getElem?_eq_getElem (by simpa using h)]; rfl

/-! What 'split' gives back, put together again. -/

theorem cut_data (r : ByteArray) (h : 0 < r.size) (n : Nat) :
    r.data.toList = r[0] :: ((r.extract 1 (n + 1)).data.toList ++ (r.extract (n + 1) r.size).data.toList) := by
  have e0 : r.data.toList = r[0] :: r.data.toList.drop 1 := by
    have hl : 0 < r.data.toList.length := by simpa using h
    have := List.drop_eq_getElem_cons (i := 0) hl
    rw [List.drop_zero] at this
    exact this
  rw [e0]
  congr 1
  have e1 : (r.extract 1 (n + 1)).data.toList = (r.data.toList.drop 1).take n := by simp
  have e2 : (r.extract (n + 1) r.size).data.toList = (r.data.toList.drop 1).drop n := by
    simp only [ByteArray.data_extract, Array.toList_extract, List.drop_drop]
    rw [List.extract_eq_take_drop, List.take_of_length_le (by simp)]
    congr 1
    omega
  rw [e1, e2, List.take_append_drop]

theorem splitF_join : ∀ (f : Nat) (r : ByteArray) (ls : List ByteArray), splitF f r = some ls → joinL ls = r.data.toList ∧ ∀ x ∈ ls, 1 ≤ x.size ∧ x.size ≤ 63 := by
  intro f
  induction f with
  | zero => intro r ls h; simp [splitF] at h
  | succ f ih =>
    intro r ls h
    by_cases hp : 0 < r.size
    · by_cases h0 : r[0].toNat = 0
      · by_cases h1 : r.size = 1
        · rw [splitF_end f r hp h0 h1] at h
          simp at h
          subst h
          refine ⟨?_, by simp⟩
          have e := cut_data r hp 0
          have z : r[0] = 0 := UInt8.toNat_inj.1 (by simpa using h0)
          rw [e, z]
          have e1 : (r.extract 1 (0 + 1)).data.toList = [] := by simp
          have e2 : (r.extract (0 + 1) r.size).data.toList = [] := by simp [h1]
          rw [e1, e2]; rfl
        · rw [splitF_zero f r hp h0 h1] at h; simp at h
      · by_cases h1 : 63 < r[0].toNat ∨ r.size < r[0].toNat + 1
        · rw [splitF_bad f r hp h0 h1] at h; simp at h
        · rw [splitF_step f r hp h0 (by omega) (by omega)] at h
          cases e : splitF f (r.extract (r[0].toNat + 1) r.size) with
          | none => rw [e] at h; simp at h
          | some t =>
            rw [e] at h
            simp at h
            obtain ⟨i1, i2⟩ := ih _ _ e
            have hsz : (r.extract 1 (r[0].toNat + 1)).size = r[0].toNat := by simp; omega
            rw [← h]
            constructor
            · rw [cut_data r hp r[0].toNat, ← i1]
              simp only [joinL, preL, hsz]
              simp
            · intro x hx
              rcases List.mem_cons.1 hx with rfl | hx
              · rw [hsz]; omega
              · exact i2 x hx
    · rw [splitF_empty _ r (by omega)] at h; simp at h

theorem split_join {s : ByteArray} {ls : List ByteArray} (h : split s = some ls) : joinL ls = s.data.toList ∧ ∀ x ∈ ls, 1 ≤ x.size ∧ x.size ≤ 63 := by
  by_cases hl : s.size ≤ 255
  · rw [split_short s hl] at h
    exact splitF_join _ _ _ h
  · rw [split_long s (by omega)] at h; simp at h

theorem low_len {n : Nat} (h : n ≤ 63) : low (UInt8.ofNat n) = UInt8.ofNat n := by
  apply low_id
  simp; omega

theorem preL_small (ls : List ByteArray) (h : ∀ x ∈ ls, x.size ≤ 63) : preL (ls.map small) = smallL (preL ls) := by
  induction ls with
  | nil => rfl
  | cons x r ih =>
    have hx := h x (List.mem_cons_self)
    have := ih (fun y hy => h y (List.mem_cons_of_mem _ hy))
    simp only [List.map_cons, preL, small_size, small_data, this]
    simp [smallL, low_len hx]

theorem joinL_small {s : ByteArray} {ls : List ByteArray} (h : split s = some ls) : (⟨(joinL (ls.map small)).toArray⟩ : ByteArray) = small s := by
  obtain ⟨h1, h2⟩ := split_join h
  apply ba_ext
  rw [small_data, ← h1]
  simp only [joinL]
  rw [preL_small ls (fun x hx => (h2 x hx).2)]
  simp [smallL, low]

theorem wsum_small (ls : List ByteArray) : wsum (ls.map small) = wsum ls := by
  induction ls with
  | nil => rfl
  | cons x r ih => simp only [List.map_cons, wsum, small_size, ih]

def foldS (s : ByteArray) : ByteArray := if (split s).isSome then small s else ByteArray.empty
theorem foldS_none {s : ByteArray} (h : split s = none) : foldS s = ByteArray.empty := by simp [foldS, h]
theorem foldS_some {s : ByteArray} {ls : List ByteArray} (h : split s = some ls) : foldS s = small s := by simp [foldS, h]

end Go.Proofs.Ytkiadnglbjamfaa.Nm
/- The order of texts and of names, as plain mathematics. -/
namespace Go.Proofs.Ytkiadnglbjamfaa.Nm
open Go.RowKit

def cmpI (a b : Int) : Int := if a < b then -1 else if b < a then 1 else 0
def ordL (a b : List UInt8) : Int := if Op.bytesLess a b = true then -1 else if a = b then 0 else 1

theorem cmpI_lt {a b : Int} (h : a < b) : cmpI a b = -1 := if_pos h
theorem cmpI_gt {a b : Int} (h : b < a) : cmpI a b = 1 := by rw [cmpI, if_neg (by omega), if_pos h]
theorem cmpI_eq {a b : Int} (h : a = b) : cmpI a b = 0 := by rw [cmpI, if_neg (by omega), if_neg (by omega)]
theorem cmpI_ne {a b : Int} (h : a ≠ b) : cmpI a b ≠ 0 := by
  by_cases h1 : a < b
  · rw [cmpI_lt h1]; decide
  · rw [cmpI_gt (by omega)]; decide

theorem ordL_nil : ordL [] [] = 0 := rfl
theorem ordL_left (y : UInt8) (b : List UInt8) : ordL [] (y :: b) = -1 := rfl
theorem ordL_right (x : UInt8) (a : List UInt8) : ordL (x :: a) [] = 1 := rfl
theorem ordL_same (x : UInt8) (a b : List UInt8) : ordL (x :: a) (x :: b) = ordL a b := by
  simp [ordL, Op.bytesLess]
theorem ordL_ne {x y : UInt8} (a b : List UInt8) (h : x ≠ y) : ordL (x :: a) (y :: b) = cmpI x.toNat y.toNat := by
  have hn : x.toNat ≠ y.toNat := fun e => h (UInt8.toNat_inj.1 e)
  by_cases hl : x < y
  · have hl' : (x.toNat : Int) < (y.toNat : Int) := by have := UInt8.lt_iff_toNat_lt.1 hl; omega
    rw [cmpI_lt hl']
    simp [ordL, Op.bytesLess, hl]
  · have hl' : (y.toNat : Int) < (x.toNat : Int) := by
      have : ¬ x.toNat < y.toNat := fun e => hl (UInt8.lt_iff_toNat_lt.2 e)
      omega
    rw [cmpI_gt hl']
    simp [ordL, Op.bytesLess, hl, h]

theorem ord_at : ∀ (k : Nat) (a b : List UInt8) (x y : UInt8), a.take k = b.take k → a[k]? = some x → b[k]? = some y → x ≠ y → ordL a b = cmpI x.toNat y.toNat := by
  intro k
  induction k with
  | zero =>
    intro a b x y _ hx hy hne
    cases a with
    | nil => simp at hx
    | cons c a =>
      cases b with
      | nil => simp at hy
      | cons d b =>
        simp at hx hy
        subst hx hy
        exact ordL_ne a b hne
  | succ k ih =>
    intro a b x y ht hx hy hne
    cases a with
    | nil => simp at hx
    | cons c a =>
      cases b with
      | nil => simp at hy
      | cons d b =>
        simp at ht hx hy
        obtain ⟨rfl, ht⟩ := ht
        rw [ordL_same]
        exact ih a b x y ht hx hy hne

theorem ord_end : ∀ (k : Nat) (a b : List UInt8), a.take k = b.take k → k ≤ a.length → k ≤ b.length → (k = a.length ∨ k = b.length) → ordL a b = cmpI a.length b.length := by
  intro k
  induction k with
  | zero =>
    intro a b _ _ _ h
    cases a with
    | nil =>
      cases b with
      | nil => rfl
      | cons d b => rw [ordL_left, cmpI_lt (by simp)]
    | cons c a =>
      cases b with
      | nil => rw [ordL_right, cmpI_gt (by simp)]
      | cons d b => simp at h
  | succ k ih =>
    intro a b ht h1 h2 h
    cases a with
    | nil => simp at h1
    | cons c a =>
      cases b with
      | nil => simp at h2
      | cons d b =>
        simp at ht h1 h2 h
        obtain ⟨rfl, ht⟩ := ht
        rw [ordL_same, ih a b ht h1 h2 h]
        simp only [List.length_cons, cmpI]
        congr 1
        · simp
        · congr 1
          simp

theorem take_snoc_eq {a b : List UInt8} {k : Nat} {x y : UInt8} (h : a.take k = b.take k) (hx : a[k]? = some x) (hy : b[k]? = some y) (e : x = y) : a.take (k + 1) = b.take (k + 1) := by
  rw [take_step hx, take_step hy, h, e]

theorem small_get {x : ByteArray} {j : Nat} (h : j < x.size) : (smallL x.data.toList)[j]? = some (low x[j]) := by
  simp only [smallL, List.getElem?_map, get_data h, Option.map_some]

theorem smallL_length (x : ByteArray) : (smallL x.data.toList).length = x.size := by simp [smallL]

def ordS (x y : ByteArray) : Int := ordL (smallL x.data.toList) (smallL y.data.toList)

def cmpRev : List ByteArray → List ByteArray → Int
  | [], [] => 0
  | [], _ :: _ => -1
  | _ :: _, [] => 1
  | x :: a, y :: b => if ordS x y = 0 then cmpRev a b else ordS x y

def cmpLs (xs ys : List ByteArray) : Int := cmpRev xs.reverse ys.reverse

theorem cmp_stop {a b : List ByteArray} {k : Nat} {x y : ByteArray} (hx : a[k]? = some x) (hy : b[k]? = some y) (h : ordS x y ≠ 0) : cmpRev (a.drop k) (b.drop k) = ordS x y := by
  obtain ⟨h1, rfl⟩ := List.getElem?_eq_some_iff.1 hx
  obtain ⟨h2, rfl⟩ := List.getElem?_eq_some_iff.1 hy
  rw [List.drop_eq_getElem_cons h1, List.drop_eq_getElem_cons h2, cmpRev, if_neg h]

theorem cmp_go {a b : List ByteArray} {k : Nat} {x y : ByteArray} (hx : a[k]? = some x) (hy : b[k]? = some y) (h : ordS x y = 0) : cmpRev (a.drop k) (b.drop k) = cmpRev (a.drop (k + 1)) (b.drop (k + 1)) := by
  obtain ⟨h1, rfl⟩ := List.getElem?_eq_some_iff.1 hx
  obtain ⟨h2, rfl⟩ := List.getElem?_eq_some_iff.1 hy
  rw [List.drop_eq_getElem_cons h1, List.drop_eq_getElem_cons h2, cmpRev, if_pos h]

theorem cmp_end {a b : List ByteArray} {k : Nat} (h1 : k ≤ a.length) (h2 : k ≤ b.length) (h : k = a.length ∨ k = b.length) : cmpRev (a.drop k) (b.drop k) = cmpI a.length b.length := by
  rcases h with h | h
  · rw [List.drop_of_length_le (by omega)]
    by_cases e : k = b.length
    · rw [List.drop_of_length_le (by omega), cmpI_eq (by omega)]; rfl
    · rw [List.drop_eq_getElem_cons (by omega : k < b.length), cmpI_lt (by omega)]; rfl
  · rw [List.drop_of_length_le (l := b) (by omega)]
    by_cases e : k = a.length
    · rw [List.drop_of_length_le (by omega), cmpI_eq (by omega)]; rfl
    · rw [List.drop_eq_getElem_cons (by omega : k < a.length), cmpI_gt (by omega)]; rfl

theorem rev_get {ls : List ByteArray} {k : Nat} (h : k < ls.length) {x : ByteArray} (hx : ls[ls.length - (k + 1)]? = some x) : ls.reverse[k]? = some x := by
  rw [List.getElem?_reverse h, ← hx]
  congr 1
  omega

def cmpS (a b : ByteArray) : Int :=
  match split a, split b with
  | some xs, some ys => cmpLs xs ys
  | _, _ => 0

end Go.Proofs.Ytkiadnglbjamfaa.Nm
/- When two names are the same, as plain mathematics. -/
namespace Go.Proofs.Ytkiadnglbjamfaa
open Go.RowKit

theorem bless_self : ∀ l : List UInt8, Op.bytesLess l l = false := by
  intro l
  induction l with
  | nil => rfl
  | cons x l ih => simp [Op.bytesLess, ih]

theorem ordL_zero (a b : List UInt8) : Nm.ordL a b = 0 ↔ a = b := by
  constructor
  · intro h
    by_cases h1 : Op.bytesLess a b = true
    · rw [Nm.ordL, if_pos h1] at h; omega
    · rw [Nm.ordL, if_neg h1] at h
      by_cases h2 : a = b
      · exact h2
      · rw [if_neg h2] at h; omega
  · intro h
    subst h
    rw [Nm.ordL, if_neg (by simp [bless_self]), if_pos rfl]

def sameS (a b : ByteArray) : Bool := (Nm.split a).isSome && (Nm.split b).isSome && decide (Nm.ordS a b = 0)

theorem same_left {a b : ByteArray} (h : Nm.split a = none) : sameS a b = false := by simp [sameS, h]
theorem same_right {a b : ByteArray} (h : Nm.split b = none) : sameS a b = false := by simp [sameS, h]
theorem same_some {a b : ByteArray} {xs ys : List ByteArray} (ha : Nm.split a = some xs) (hb : Nm.split b = some ys) : sameS a b = decide (Nm.ordS a b = 0) := by simp [sameS, ha, hb]

theorem small_pos {a : ByteArray} {xs : List ByteArray} (h : Nm.split a = some xs) : (Nm.small a).toList.isEmpty = false := by
  apply Nm.tl_not_empty
  rw [Nm.small_size]
  have := Nm.split_size h
  omega

theorem small_eq (a b : ByteArray) : ((Nm.small a).toList == (Nm.small b).toList) = decide (Nm.ordS a b = 0) := by
  rw [Bool.eq_iff_iff]
  simp only [beq_iff_eq, decide_eq_true_eq, Nm.ordS, ordL_zero]
  rw [ByteArray.toList_eq, ByteArray.toList_eq, Nm.small_data, Nm.small_data]

end Go.Proofs.Ytkiadnglbjamfaa
/- What stands below what, as plain mathematics. -/
namespace Go.Proofs.Ytkiadnglbjamfaa
open Go.RowKit

theorem splitF_of : ∀ (zs : List ByteArray) (f : Nat) (r : ByteArray), r.data.toList = Nm.joinL zs → (∀ x ∈ zs, 1 ≤ x.size ∧ x.size ≤ 63) → r.size < f → Nm.splitF f r = some zs := by
  intro zs
  induction zs with
  | nil =>
    intro f r hd _ hf
    have hsz : r.size = 1 := by have := congrArg List.length hd; simpa [Nm.joinL, Nm.preL] using this
    have hp : 0 < r.size := by omega
    have h0 : r[0].toNat = 0 := by
      have e := Nm.get_data hp
      rw [hd] at e
      have : r[0] = 0 := by simpa [Nm.joinL, Nm.preL] using e.symm
      rw [this]; rfl
    obtain ⟨g, rfl⟩ : ∃ g, f = g + 1 := ⟨f - 1, by omega⟩
    exact Nm.splitF_end g r hp h0 hsz
  | cons x t ih =>
    intro f r hd hx hf
    have hx0 := hx x List.mem_cons_self
    have hlen : r.size = (1 + x.size) + Nm.wsum t + 1 := by
      have := congrArg List.length hd
      rw [Nm.joinL_length] at this
      simp only [Nm.wsum] at this
      simpa using this
    have hp : 0 < r.size := by omega
    have e0 : r[0] = UInt8.ofNat x.size := by
      have e := Nm.get_data hp
      rw [hd] at e
      simpa [Nm.joinL, Nm.preL] using e.symm
    have hn : r[0].toNat = x.size := by rw [e0]; simp; omega
    have hd2 : r.data.toList = UInt8.ofNat x.size :: (x.data.toList ++ Nm.joinL t) := by rw [hd]; simp [Nm.joinL, Nm.preL]
    have xl : x.data.toList.length = x.size := by simp
    have c1 : r.extract 1 (x.size + 1) = x := by
      apply Nm.ba_ext
      have e1 : (r.extract 1 (x.size + 1)).data.toList = (r.data.toList.drop 1).take x.size := by simp
      rw [e1, hd2, List.drop_succ_cons, List.drop_zero, ← xl, List.take_left]
    have c2 : (r.extract (x.size + 1) r.size).data.toList = Nm.joinL t := by
      have e2 : (r.extract (x.size + 1) r.size).data.toList = (r.data.toList.drop 1).drop x.size := by
        simp only [ByteArray.data_extract, Array.toList_extract, List.drop_drop]
        rw [List.extract_eq_take_drop, List.take_of_length_le (by simp)]
        congr 1
        omega
      rw [e2, hd2, List.drop_succ_cons, List.drop_zero, ← xl, List.drop_left]
    obtain ⟨g, rfl⟩ : ∃ g, f = g + 1 := ⟨f - 1, by omega⟩
    rw [Nm.splitF_step g r hp (by omega) (by omega) (by omega), hn, c1, ih g _ c2 (fun y hy => hx y (List.mem_cons_of_mem _ hy)) (by simp; omega)]
    rfl

theorem split_of_join {zs : List ByteArray} (h : ∀ x ∈ zs, 1 ≤ x.size ∧ x.size ≤ 63) (hw : Nm.wsum zs ≤ 254) : Nm.split ⟨(Nm.joinL zs).toArray⟩ = some zs := by
  have hsz : (ByteArray.mk (Nm.joinL zs).toArray).size = Nm.wsum zs + 1 := by
    show (Nm.joinL zs).toArray.size = _
    rw [List.size_toArray, Nm.joinL_length]
  rw [Nm.split_short _ (by omega)]
  exact splitF_of zs 256 _ (by simp) h (by omega)

theorem ordS_zero (x y : ByteArray) : Nm.ordS x y = 0 ↔ Nm.small x = Nm.small y := by
  rw [Nm.ordS, ordL_zero]
  constructor
  · intro h
    apply Nm.ba_ext
    rw [Nm.small_data, Nm.small_data, h]
  · intro h
    rw [← Nm.small_data, ← Nm.small_data, h]

theorem cmpRev_zero : ∀ (a b : List ByteArray), Nm.cmpRev a b = 0 ↔ a.map Nm.small = b.map Nm.small := by
  intro a
  induction a with
  | nil =>
    intro b
    cases b with
    | nil => simp [Nm.cmpRev]
    | cons y b => simp [Nm.cmpRev]
  | cons x a ih =>
    intro b
    cases b with
    | nil => simp [Nm.cmpRev]
    | cons y b =>
      rw [Nm.cmpRev]
      by_cases h : Nm.ordS x y = 0
      · rw [if_pos h, ih b]
        simp [(ordS_zero x y).1 h]
      · rw [if_neg h]
        have hne : Nm.small x ≠ Nm.small y := fun e => h ((ordS_zero x y).2 e)
        simp [h, hne]

theorem cmpLs_zero (a b : List ByteArray) : Nm.cmpLs a b = 0 ↔ a.map Nm.small = b.map Nm.small := by
  rw [Nm.cmpLs, cmpRev_zero, List.map_reverse, List.map_reverse]
  constructor
  · intro h; exact List.reverse_inj.1 h
  · intro h; rw [h]

theorem smallL_joinL {zs : List ByteArray} (h : ∀ x ∈ zs, 1 ≤ x.size ∧ x.size ≤ 63) : Nm.smallL (Nm.joinL zs) = Nm.joinL (zs.map Nm.small) := by
  simp only [Nm.joinL]
  rw [Nm.preL_small zs (fun x hx => (h x hx).2)]
  simp [Nm.smallL, Nm.low]

theorem join_inj {a b : List ByteArray} (ha : ∀ x ∈ a, 1 ≤ x.size ∧ x.size ≤ 63) (hb : ∀ x ∈ b, 1 ≤ x.size ∧ x.size ≤ 63) (wa : Nm.wsum a ≤ 254) (wb : Nm.wsum b ≤ 254) (h : Nm.joinL a = Nm.joinL b) : a = b := by
  have h1 := split_of_join ha wa
  have h2 := split_of_join hb wb
  rw [h] at h1
  rw [h1] at h2
  exact Option.some.inj h2

theorem small_ok {zs : List ByteArray} (h : ∀ x ∈ zs, 1 ≤ x.size ∧ x.size ≤ 63) : ∀ x ∈ zs.map Nm.small, 1 ≤ x.size ∧ x.size ≤ 63 := by
  intro x hx
  obtain ⟨y, hy, rfl⟩ := List.mem_map.1 hx
  rw [Nm.small_size]
  exact h y hy

/-- Whether the labels 'xs' end with the labels 'ys', letters folded. -/
def underB (xs ys : List ByteArray) : Bool := decide (ys.length ≤ xs.length) && decide (Nm.cmpLs (xs.drop (xs.length - ys.length)) ys = 0)

/-- Names are the same just if their labels are. -/
theorem ord_join {zs ys : List ByteArray} {b : ByteArray} (hz : ∀ x ∈ zs, 1 ≤ x.size ∧ x.size ≤ 63) (wz : Nm.wsum zs ≤ 254) (hb : Nm.split b = some ys) :
    Nm.ordS ⟨(Nm.joinL zs).toArray⟩ b = 0 ↔ Nm.cmpLs zs ys = 0 := by
  obtain ⟨hj, hy⟩ := Nm.split_join hb
  obtain ⟨wy, wy2⟩ := Nm.split_size hb
  rw [Nm.ordS, ordL_zero, cmpLs_zero]
  simp only
  rw [← hj, smallL_joinL hz, smallL_joinL hy]
  constructor
  · intro h
    exact join_inj (small_ok hz) (small_ok hy) (by rw [Nm.wsum_small]; omega) (by rw [Nm.wsum_small]; omega) h
  · intro h; rw [h]

def isUnderS (a b : ByteArray) : Bool :=
  match Nm.split a, Nm.split b with
  | some xs, some ys => underB xs ys
  | _, _ => false

theorem isUnder_left {a b : ByteArray} (h : Nm.split a = none) : isUnderS a b = false := by simp [isUnderS, h]
theorem isUnder_right {a b : ByteArray} (h : Nm.split b = none) : isUnderS a b = false := by
  cases ha : Nm.split a <;> simp [isUnderS, h, ha]
theorem isUnder_some {a b : ByteArray} {xs ys : List ByteArray} (ha : Nm.split a = some xs) (hb : Nm.split b = some ys) : isUnderS a b = underB xs ys := by simp [isUnderS, ha, hb]

theorem drop_ok {xs : List ByteArray} (h : ∀ x ∈ xs, 1 ≤ x.size ∧ x.size ≤ 63) (k : Nat) : ∀ x ∈ xs.drop k, 1 ≤ x.size ∧ x.size ≤ 63 :=
  fun x hx => h x (List.mem_of_mem_drop hx)

/-- What the model asks: whether the name of the last labels is the other. -/
theorem under_same {xs ys : List ByteArray} {a b : ByteArray} (ha : Nm.split a = some xs) (hb : Nm.split b = some ys) (hl : ys.length ≤ xs.length) :
    sameS ⟨(Nm.joinL (xs.drop (xs.length - ys.length))).toArray⟩ b = underB xs ys := by
  have hx := (Nm.split_join ha).2
  have hw := Nm.split_size ha
  have hd := Nm.wsum_drop_le xs (xs.length - ys.length)
  have hs := split_of_join (drop_ok hx (xs.length - ys.length)) (by omega)
  rw [same_some hs hb, underB]
  simp only [hl, decide_true, Bool.true_and]
  rw [Bool.eq_iff_iff]
  simp only [decide_eq_true_eq]
  exact ord_join (drop_ok hx _) (by omega) hb

end Go.Proofs.Ytkiadnglbjamfaa
