import Derived.WalkKit
import Derived.Lib.AppendStr
import Derived.Laws.IdiomStrings
import Derived.Lib.Split
import Derived.Lib.IndexMore
import Derived.Test.YtddabafaejahbaaGreatDoorRows
import Derived.WalkSpells
import Derived.WalkLawsBesides
/- Names, as plain mathematics: the labels of a name in wire form. -/
namespace Go.Proofs.YtddabafaejahbaaGreatDoor.Nm
def splitF : Nat → ByteArray → Option (List ByteArray)
 | 0, _ => none
 | f + 1, r =>
   if h : 0 < r.size then
    if r[0].toNat = 0 then (if r.size = 1 then some [] else none)
    else if 63 < r[0].toNat ∨ r.size < r[0].toNat + 1 then none
    else (splitF f (r.extract (r[0].toNat + 1) r.size)).map (fun ls => r.extract 1 (r[0].toNat + 1) :: ls)
   else none
def split (s : ByteArray) : Option (List ByteArray) := if s.size ≤ 255 then splitF 256 s else none
theorem splitF_empty (f : Nat) (r : ByteArray) (h : r.size = 0) : splitF f r = none := by
 cases f with
 | zero => rfl
 | succ f => rw [splitF, dif_neg (by omega)]
theorem splitF_end (f : Nat) (r : ByteArray) (h : 0 < r.size) (h0 : r[0].toNat = 0) (h1 : r.size = 1) : splitF (f + 1) r = some [] := by
 rw [splitF, dif_pos h, if_pos h0, if_pos h1]
theorem splitF_zero (f : Nat) (r : ByteArray) (h : 0 < r.size) (h0 : r[0].toNat = 0) (h1 : r.size ≠ 1) : splitF (f + 1) r = none := by
 rw [splitF, dif_pos h, if_pos h0, if_neg h1]
theorem splitF_bad (f : Nat) (r : ByteArray) (h : 0 < r.size) (h0 : r[0].toNat ≠ 0) (h1 : 63 < r[0].toNat ∨ r.size < r[0].toNat + 1) : splitF (f + 1) r = none := by
 rw [splitF, dif_pos h, if_neg h0, if_pos h1]
theorem splitF_step (f : Nat) (r : ByteArray) (h : 0 < r.size) (h0 : r[0].toNat ≠ 0) (h1 : r[0].toNat ≤ 63) (h2 : r[0].toNat + 1 ≤ r.size) :
 splitF (f + 1) r = (splitF f (r.extract (r[0].toNat + 1) r.size)).map (fun ls => r.extract 1 (r[0].toNat + 1) :: ls) := by
 rw [splitF, dif_pos h, if_neg h0, if_neg (by omega)]
theorem split_long (s : ByteArray) (h : 255 < s.size) : split s = none := by rw [split, if_neg (by omega)]
theorem split_short (s : ByteArray) (h : s.size ≤ 255) : split s = splitF 256 s := by rw [split, if_pos h]
/-- Where the reading stands: 'ls' are the labels that were cut off, 'r' is the rest. -/
def At (s : ByteArray) (ls : List ByteArray) (r : ByteArray) : Prop :=
 ∃ f, r.size < f ∧ split s = (splitF f r).map (fun t => ls ++ t)
theorem at_start (s : ByteArray) (h : s.size ≤ 255) : At s [] s := ⟨256, by omega, by rw [split_short s h]; simp⟩
theorem at_empty {s r : ByteArray} {ls : List ByteArray} (h : At s ls r) (h0 : r.size = 0) : split s = none := by
 obtain ⟨f, _, e⟩ := h; rw [e, splitF_empty f r h0]; rfl
theorem at_end {s r : ByteArray} {ls : List ByteArray} (h : At s ls r) (hp : 0 < r.size) (h0 : r[0].toNat = 0) (h1 : r.size = 1) : split s = some ls := by
 obtain ⟨f, hf, e⟩ := h; obtain ⟨g, rfl⟩ : ∃ g, f = g + 1 := ⟨f - 1, by omega⟩; rw [e, splitF_end g r hp h0 h1]; simp
theorem at_zero {s r : ByteArray} {ls : List ByteArray} (h : At s ls r) (hp : 0 < r.size) (h0 : r[0].toNat = 0) (h1 : r.size ≠ 1) : split s = none := by
 obtain ⟨f, hf, e⟩ := h; obtain ⟨g, rfl⟩ : ∃ g, f = g + 1 := ⟨f - 1, by omega⟩; rw [e, splitF_zero g r hp h0 h1]; rfl
theorem at_bad {s r : ByteArray} {ls : List ByteArray} (h : At s ls r) (hp : 0 < r.size) (h0 : r[0].toNat ≠ 0) (h1 : 63 < r[0].toNat ∨ r.size < r[0].toNat + 1) : split s = none := by
 obtain ⟨f, hf, e⟩ := h; obtain ⟨g, rfl⟩ : ∃ g, f = g + 1 := ⟨f - 1, by omega⟩; rw [e, splitF_bad g r hp h0 h1]; rfl
theorem at_step {s r : ByteArray} {ls : List ByteArray} (h : At s ls r) (hp : 0 < r.size) (h0 : r[0].toNat ≠ 0) (h1 : r[0].toNat ≤ 63) (h2 : r[0].toNat + 1 ≤ r.size) :
 At s (ls ++ [r.extract 1 (r[0].toNat + 1)]) (r.extract (r[0].toNat + 1) r.size) := by
 obtain ⟨f, hf, e⟩ := h; obtain ⟨g, rfl⟩ : ∃ g, f = g + 1 := ⟨f - 1, by omega⟩; refine ⟨g, by simp; omega, ?_⟩; rw [e, splitF_step g r hp h0 h1 h2, Option.map_map]; congr 1; funext t; simp
theorem tl_len (r : ByteArray) : r.toList.length = r.size := by rw [ByteArray.toList_eq]; simp
theorem tl_one {r : ByteArray} (h : 0 < r.size) (h1 : r.size = 1) (h0 : r[0].toNat = 0) : (r.toList == [0]) = true := by
 rw [beq_iff_eq, ByteArray.toList_eq]; refine List.ext_getElem (by simpa using h1) ?_; intro i hi hj; have : i = 0 := by simpa using hj
 subst this; have e : r.data.toList[0] = r[0] := rfl; rw [e]; exact UInt8.toNat_inj.1 (by simpa using h0)
theorem tl_not_one {r : ByteArray} (h : 0 < r.size) (h1 : ¬ (r.size = 1 ∧ r[0].toNat = 0)) : (r.toList == [0]) = false := by
 rw [beq_eq_false_iff_ne]; intro e; rw [ByteArray.toList_eq] at e; apply h1; refine ⟨by have := congrArg List.length e; simpa using this, ?_⟩; have g : r.data.toList[0]? = some 0 := by rw [e]; rfl
 have g2 : r.data.toList[0]? = some r[0] := List.getElem?_eq_getElem (by simpa using h); rw [g2] at g; have g3 : r[0] = 0 := by simpa using g
 rw [g3]; rfl
theorem tl_empty {r : ByteArray} (h : r.size = 0) : r.toList.isEmpty = true := by
 rw [List.isEmpty_iff, ← List.length_eq_zero_iff, tl_len]; exact h
theorem tl_not_empty {r : ByteArray} (h : 0 < r.size) : r.toList.isEmpty = false := by
 rw [Bool.eq_false_iff]; intro e; rw [List.isEmpty_iff, ← List.length_eq_zero_iff, tl_len] at e; omega
theorem one_cell (x : Value) (h : x.oneCell' = true) : ∀ u : Value, u ∈ [x] → u.oneCell' = true := by
 intro u hu; simp at hu; subst hu; exact h
end Go.Proofs.YtddabafaejahbaaGreatDoor.Nm
/- A text cut at every byte of one value: mathematics. -/
namespace Go.Proofs.YtddabafaejahbaaGreatDoor
open Go.RowKit
/-- A text cut at every byte c: from byte i on, the piece under way began at a. -/
def cutF (s : ByteArray) (c : UInt8) : Nat → Nat → Nat → List ByteArray
 | 0, _, a => [s.extract a s.size]
 | f + 1, i, a => if h : i < s.size then
     (if s[i].toNat = c.toNat then s.extract a i :: cutF s c f (i + 1) (i + 1) else cutF s c f (i + 1) a)
   else [s.extract a s.size]
def cutB (s : ByteArray) (c : UInt8) : List ByteArray := cutF s c s.size 0 0
def CutAt (s : ByteArray) (c : UInt8) (ls : List ByteArray) (i a : Nat) : Prop := cutB s c = ls ++ cutF s c (s.size - i) i a
theorem cut_start (s : ByteArray) (c : UInt8) : CutAt s c [] 0 0 := by simp [CutAt, cutB]
theorem cut_here {s : ByteArray} {c : UInt8} {ls : List ByteArray} {i a : Nat} (h : CutAt s c ls i a) (hi : i < s.size) (e : s[i].toNat = c.toNat) : CutAt s c (ls ++ [s.extract a i]) (i + 1) (i + 1) := by
 rw [CutAt] at h ⊢; rw [h, show s.size - i = s.size - (i + 1) + 1 by omega, cutF, dif_pos hi, if_pos e]; simp
theorem cut_on {s : ByteArray} {c : UInt8} {ls : List ByteArray} {i a : Nat} (h : CutAt s c ls i a) (hi : i < s.size) (e : ¬ s[i].toNat = c.toNat) : CutAt s c ls (i + 1) a := by
 rw [CutAt] at h ⊢; rw [h, show s.size - i = s.size - (i + 1) + 1 by omega, cutF, dif_pos hi, if_neg e]
theorem cut_end {s : ByteArray} {c : UInt8} {ls : List ByteArray} {i a : Nat} (h : CutAt s c ls i a) (hi : s.size ≤ i) : cutB s c = ls ++ [s.extract a s.size] := by
 rw [CutAt, Nat.sub_eq_zero_of_le hi] at h; exact h
end Go.Proofs.YtddabafaejahbaaGreatDoor
/- Lists of labels: as plain mathematics, and as they lie in memory. -/
namespace Go.Proofs.YtddabafaejahbaaGreatDoor.Nm
open Go.RowKit
def wsum : List ByteArray → Nat
 | [] => 0
 | l :: r => (1 + l.size) + wsum r
def preL : List ByteArray → List UInt8
 | [] => []
 | l :: r => (UInt8.ofNat l.size :: l.data.toList) ++ preL r
def joinL (ls : List ByteArray) : List UInt8 := preL ls ++ [0]
theorem hide {p : Prop} (h : p) : Hid p := h
theorem wsum_append (a b : List ByteArray) : wsum (a ++ b) = wsum a + wsum b := by
 induction a with
 | nil => simp [wsum]
 | cons x a ih => simp only [List.cons_append, wsum, ih]; omega
theorem preL_append (a b : List ByteArray) : preL (a ++ b) = preL a ++ preL b := by
 induction a with
 | nil => simp [preL]
 | cons x a ih => simp [preL, ih]
theorem preL_length (ls : List ByteArray) : (preL ls).length = wsum ls := by
 induction ls with
 | nil => rfl
 | cons x a ih => simp only [preL, wsum, List.length_append, List.length_cons, ih, Array.length_toList, ByteArray.size_data]; omega
theorem joinL_length (ls : List ByteArray) : (joinL ls).length = wsum ls + 1 := by simp [joinL, preL_length]
theorem length_le_wsum (ls : List ByteArray) : ls.length ≤ wsum ls := by
 induction ls with
 | nil => simp
 | cons x a ih => simp only [wsum, List.length_cons]; omega
theorem take_step {α : Type} {ls : List α} {k : Nat} {x : α} (h : ls[k]? = some x) : ls.take (k + 1) = ls.take k ++ [x] := by
 obtain ⟨hk, e⟩ := List.getElem?_eq_some_iff.1 h; rw [List.take_succ_eq_append_getElem hk, e]
theorem wsum_step {ls : List ByteArray} {k : Nat} {x : ByteArray} (h : ls[k]? = some x) : wsum (ls.take (k + 1)) = wsum (ls.take k) + (1 + x.size) := by
 rw [take_step h, wsum_append]; simp [wsum]
theorem preL_step {ls : List ByteArray} {k : Nat} {x : ByteArray} (h : ls[k]? = some x) : preL (ls.take (k + 1)) = preL (ls.take k) ++ (UInt8.ofNat x.size :: x.data.toList) := by
 rw [take_step h, preL_append]; simp [preL]
theorem wsum_take_le (ls : List ByteArray) (k : Nat) : wsum (ls.take k) ≤ wsum ls := by
 have e := wsum_append (ls.take k) (ls.drop k); rw [List.take_append_drop] at e; omega
/-- Bytes as cells. -/
def bys (l : List UInt8) : List Value := l.map fun b => Value.int .u8 b.toNat
theorem bys_append (a b : List UInt8) : bys (a ++ b) = bys a ++ bys b := by simp [bys]
theorem bys_length (a : List UInt8) : (bys a).length = a.length := by simp [bys]
/-- The labels 'ls' lie where the slice 'v' leads, and may be read. -/
def SRow (w : World) (v : Value) (ls : List ByteArray) : Prop :=
 ∃ a cap, v = .slice a ls.length cap ∧ ls.length ≤ cap ∧ cap ≤ maxLen ∧ (a = none → cap = 0) ∧
   (ls ≠ [] → ∃ b off, a = some ⟨b, off, none⟩ ∧ ∀ i x, ls[i]? = some x → w.cell? ⟨b, off + i, none⟩ = some (.string x))
theorem SRow.of_owns {w : World} {B e : Nat} {v : Value} {ls : List ByteArray} (h : w.ownsRow B e 1 v ls.length (ls.map Value.string)) : SRow w v ls := by
 rcases h.2 with ⟨rfl, h0⟩ | ⟨g, cap, cur, rfl, hb, hg, hn, hm, hs, ht⟩
 · have : ls = [] := List.length_eq_zero_iff.1 h0; subst this; exact ⟨none, 0, rfl, by simp, by decide, fun _ => rfl, fun h => absurd rfl h⟩
 · refine ⟨_, cap, rfl, hn, hm, (fun h => by cases h), fun _ => ⟨g, 0, rfl, ?_⟩⟩; intro i x hx; obtain ⟨hi, e⟩ := List.getElem?_eq_some_iff.1 hx; rw [Nat.zero_add, h.cellAt i (by omega)]; simp [hx]
theorem SRow.below {w w' : World} {v : Value} {ls : List ByteArray} (h : SRow w v ls) (hb : Below w.heap.size w w') : SRow w' v ls := by
 obtain ⟨a, cap, rfl, h1, h2, h2', h3⟩ := h; refine ⟨a, cap, rfl, h1, h2, h2', fun hne => ?_⟩; obtain ⟨b, off, rfl, hc⟩ := h3 hne; refine ⟨b, off, rfl, fun i x hx => ?_⟩; have := hc i x hx; rw [hb.cell (World.block_lt_of_cell? w _ this)]; exact this
theorem below_two {w w1 w2 : World} (h1 : Below w.heap.size w w1) (h2 : Below w1.heap.size w1 w2) : Below w.heap.size w w2 :=
 h1.trans (h2.mono h1.size)
/-- What one append of bytes onto a row of the call's own leaves. -/
theorem bys_step {W wr w1 : World} {v v' : Value} {B e n m : Nat} {l x : List UInt8} (hB : B ≤ wr.heap.size)
 (hown : wr.ownsRow B e 1 v n (bys l)) (hbel : Below B W wr)
 (hown' : w1.ownsRow B e 1 v' (n + m) (bys l ++ bys x)) (hgrow : wr.grownBy w1 v.ownBlock) :
 w1.ownsRow B e 1 v' (n + m) (bys (l ++ x)) ∧ Below B W w1 := by
 refine ⟨by rw [bys_append]; exact hown', ?_⟩; exact hbel.grown hgrow hB (fun k hk => (hown.lt k hk).1)
theorem bys_step_str {W wr w1 : World} {v v' : Value} {B e n : Nat} {l : List UInt8} {x : ByteArray} (hB : B ≤ wr.heap.size)
 (hown : wr.ownsRow B e 1 v n (bys l)) (hbel : Below B W wr)
 (hown' : w1.ownsRow B e 1 v' (n + x.size) (bys l ++ Go.Lib.strCells x)) (hgrow : wr.grownBy w1 v.ownBlock) :
 w1.ownsRow B e 1 v' (n + x.size) (bys (l ++ x.data.toList)) ∧ Below B W w1 :=
 bys_step hB hown hbel hown' hgrow
theorem conv_own {P : Program} {w : World} {B e src dst n : Nat} {v : Value} {l : List UInt8} (hs : P.underlying src = some (.slice e)) (he : P.underlying e = some (.int .u8)) (hd : P.underlying dst = some .string)
 (h : w.ownsRow B e 1 v n (bys l)) (hp : 0 < n) :
 ∃ g cap, v = .slice (some ⟨g, 0, none⟩) n cap ∧ (convert src dst (.slice (some ⟨g, 0, none⟩) n cap)).run P w = .ok (.string ⟨l.toArray⟩) w := by
 have hn : n = l.length := by have := h.1; rw [bys_length] at this; omega
 subst hn
 rcases h.2 with ⟨rfl, h0⟩ | ⟨g, cap, cur, rfl, hb, hg, hnc, hm, hcs, ht⟩
 · omega
 · refine ⟨g, cap, rfl, run_convert_bytes_back w src dst e ⟨g, 0, none⟩ cap l hs he hd ?_⟩; intro j hj; exact h.cells (g := g) rfl j _ (by simp [bys, hj])
theorem addr_add (b off k : Nat) : (⟨b, off, none⟩ : Addr).add k = ⟨b, off + k, none⟩ := by
 unfold Addr.add; split <;> simp_all
theorem splitF_size : ∀ (f : Nat) (r : ByteArray) (ls : List ByteArray), splitF f r = some ls → wsum ls + 1 = r.size := by
 intro f
 induction f with
 | zero => intro r ls h; simp [splitF] at h
 | succ f ih =>
   intro r ls h
   by_cases hp : 0 < r.size
   · by_cases h0 : r[0].toNat = 0
     · by_cases h1 : r.size = 1
       · rw [splitF_end f r hp h0 h1] at h; simp at h; subst h; simp [wsum]; omega
       · rw [splitF_zero f r hp h0 h1] at h; simp at h
     · by_cases h1 : 63 < r[0].toNat ∨ r.size < r[0].toNat + 1
       · rw [splitF_bad f r hp h0 h1] at h; simp at h
       · rw [splitF_step f r hp h0 (by omega) (by omega)] at h
         cases e : splitF f (r.extract (r[0].toNat + 1) r.size) with
         | none => rw [e] at h; simp at h
         | some t =>
           rw [e] at h; simp at h; have := ih _ _ e; rw [← h]; simp at this; simp [wsum]; omega
   · rw [splitF_empty _ r (by omega)] at h; simp at h
theorem split_size {s : ByteArray} {ls : List ByteArray} (h : split s = some ls) : wsum ls + 1 = s.size ∧ s.size ≤ 255 := by
 by_cases hl : s.size ≤ 255
 · rw [split_short s hl] at h; exact ⟨splitF_size _ _ _ h, hl⟩
 · rw [split_long s (by omega)] at h; simp at h
end Go.Proofs.YtddabafaejahbaaGreatDoor.Nm
/- Folding, and the order of texts, as plain mathematics. -/
namespace Go.Proofs.YtddabafaejahbaaGreatDoor.Nm
open Go.RowKit
def low (c : UInt8) : UInt8 := if 65 ≤ c.toNat ∧ c.toNat ≤ 90 then UInt8.ofNat (c.toNat + 32) else c
def smallL (l : List UInt8) : List UInt8 := l.map low
def small (s : ByteArray) : ByteArray := ⟨(smallL s.data.toList).toArray⟩
theorem low_up {c : UInt8} (h : 65 ≤ c.toNat ∧ c.toNat ≤ 90) : ((low c).toNat : Int) = (c.toNat : Int) + 32 := by
 rw [low, if_pos h]; simp; omega
theorem low_id {c : UInt8} (h : ¬ (65 ≤ c.toNat ∧ c.toNat ≤ 90)) : low c = c := by rw [low, if_neg h]
theorem small_data (s : ByteArray) : (small s).data.toList = smallL s.data.toList := by simp [small]
theorem small_size (s : ByteArray) : (small s).size = s.size := by
 have : (small s).data.toList.length = s.data.toList.length := by rw [small_data]; simp [smallL]
 simpa using this
theorem ba_ext {a b : ByteArray} (h : a.data.toList = b.data.toList) : a = b := by
 apply ByteArray.ext; exact Array.toList_inj.1 h
theorem smallL_step {l : List UInt8} {k : Nat} {c : UInt8} (h : l[k]? = some c) : smallL (l.take (k + 1)) = smallL (l.take k) ++ [low c] := by
 rw [take_step h]; simp [smallL]
theorem get_data {x : ByteArray} {j : Nat} (h : j < x.size) : x.data.toList[j]? = some x[j] := by
 rw [List.getElem?_eq_getElem (by simpa using h)]; rfl
/-! What 'split' gives back, put together again. -/
theorem cut_data (r : ByteArray) (h : 0 < r.size) (n : Nat) :
 r.data.toList = r[0] :: ((r.extract 1 (n + 1)).data.toList ++ (r.extract (n + 1) r.size).data.toList) := by
 have e0 : r.data.toList = r[0] :: r.data.toList.drop 1 := by
  have hl : 0 < r.data.toList.length := by simpa using h
  have := List.drop_eq_getElem_cons (i := 0) hl; rw [List.drop_zero] at this; exact this
 rw [e0]; congr 1; have e1 : (r.extract 1 (n + 1)).data.toList = (r.data.toList.drop 1).take n := by simp
 have e2 : (r.extract (n + 1) r.size).data.toList = (r.data.toList.drop 1).drop n := by
  simp only [ByteArray.data_extract, Array.toList_extract, List.drop_drop]; rw [List.extract_eq_take_drop, List.take_of_length_le (by simp)]; congr 1; omega
 rw [e1, e2, List.take_append_drop]
theorem splitF_join : ∀ (f : Nat) (r : ByteArray) (ls : List ByteArray), splitF f r = some ls → joinL ls = r.data.toList ∧ ∀ x ∈ ls, 1 ≤ x.size ∧ x.size ≤ 63 := by
 intro f
 induction f with
 | zero => intro r ls h; simp [splitF] at h
 | succ f ih =>
   intro r ls h
   by_cases hp : 0 < r.size
   · by_cases h0 : r[0].toNat = 0
     · by_cases h1 : r.size = 1
       · rw [splitF_end f r hp h0 h1] at h; simp at h; subst h; refine ⟨?_, by simp⟩; have e := cut_data r hp 0; have z : r[0] = 0 := UInt8.toNat_inj.1 (by simpa using h0); rw [e, z]; have e1 : (r.extract 1 (0 + 1)).data.toList = [] := by simp
         have e2 : (r.extract (0 + 1) r.size).data.toList = [] := by simp [h1]
         rw [e1, e2]; rfl
       · rw [splitF_zero f r hp h0 h1] at h; simp at h
     · by_cases h1 : 63 < r[0].toNat ∨ r.size < r[0].toNat + 1
       · rw [splitF_bad f r hp h0 h1] at h; simp at h
       · rw [splitF_step f r hp h0 (by omega) (by omega)] at h
         cases e : splitF f (r.extract (r[0].toNat + 1) r.size) with
         | none => rw [e] at h; simp at h
         | some t =>
           rw [e] at h; simp at h; obtain ⟨i1, i2⟩ := ih _ _ e; have hsz : (r.extract 1 (r[0].toNat + 1)).size = r[0].toNat := by simp; omega
           rw [← h]; constructor
           · rw [cut_data r hp r[0].toNat, ← i1]; simp only [joinL, preL, hsz]; simp
           · intro x hx
             rcases List.mem_cons.1 hx with rfl | hx
             · rw [hsz]; omega
             · exact i2 x hx
   · rw [splitF_empty _ r (by omega)] at h; simp at h
theorem split_join {s : ByteArray} {ls : List ByteArray} (h : split s = some ls) : joinL ls = s.data.toList ∧ ∀ x ∈ ls, 1 ≤ x.size ∧ x.size ≤ 63 := by
 by_cases hl : s.size ≤ 255
 · rw [split_short s hl] at h; exact splitF_join _ _ _ h
 · rw [split_long s (by omega)] at h; simp at h
end Go.Proofs.YtddabafaejahbaaGreatDoor.Nm
/- A text cut at every byte of one value: the model's way and the library's. -/
namespace Go.Proofs.YtddabafaejahbaaGreatDoor
open Go.RowKit
def cutP (c : UInt8) : List UInt8 → List (List UInt8)
 | [] => [[]]
 | x :: r => if x = c then [] :: cutP c r else match cutP c r with
   | [] => [[x]]
   | h :: t => (x :: h) :: t
theorem cutP_ne (c : UInt8) (l : List UInt8) : ∃ h t, cutP c l = h :: t := by
 cases l with
 | nil => exact ⟨_, _, rfl⟩
 | cons x r =>
   rw [cutP]; split
   · exact ⟨_, _, rfl⟩
   · split <;> exact ⟨_, _, rfl⟩
theorem cutP_miss {c : UInt8} : ∀ {l : List UInt8}, c ∉ l → cutP c l = [l] := by
 intro l
 induction l with
 | nil => intro _; rfl
 | cons x r ih =>
   intro h; simp only [List.mem_cons, not_or] at h; rw [cutP, if_neg (fun e => h.1 e.symm), ih h.2]
theorem cutP_hit {c : UInt8} {b : List UInt8} : ∀ {a : List UInt8}, c ∉ a → cutP c (a ++ c :: b) = a :: cutP c b := by
 intro a
 induction a with
 | nil => intro _; rw [List.nil_append, cutP, if_pos rfl]
 | cons x r ih =>
   intro h; simp only [List.mem_cons, not_or] at h; rw [List.cons_append, cutP, if_neg (fun e => h.1 e.symm), ih h.2]
theorem occ_one {l : List UInt8} {c : UInt8} {j : Nat} : Lib.occAt l [c] j = true ↔ l[j]? = some c := by
 unfold Lib.occAt
 cases hd : l.drop j with
 | nil =>
   have : l.length ≤ j := List.drop_eq_nil_iff.1 hd
   simp [List.getElem?_eq_none this]
 | cons x r =>
   have hx : l[j]? = some x := by
    have := congrArg (fun l => l[0]?) hd; simpa [List.getElem?_drop] using this
   rw [hx]; simp [List.isPrefixOf]
   exact eq_comm
theorem index_cases (l : List UInt8) (c : UInt8) : (Lib.index l [c] = -1 ∧ c ∉ l) ∨ ∃ i : Nat, Lib.index l [c] = i ∧ l = l.take i ++ c :: l.drop (i + 1) ∧ c ∉ l.take i := by
 rcases Lib.index_spec l [c] with ⟨h, hn⟩ | ⟨i, h, hi, ho, hno⟩
 · refine .inl ⟨h, fun hm => ?_⟩; obtain ⟨j, hj⟩ := List.getElem?_of_mem hm; have hjl : j < l.length := (List.getElem?_eq_some_iff.1 hj).1; have := hn j (by omega); rw [occ_one.2 hj] at this; cases this
 · refine .inr ⟨i, h, ?_, fun hm => ?_⟩
   · have hx := occ_one.1 ho; obtain ⟨hl, hx⟩ := List.getElem?_eq_some_iff.1 hx; have h2 := List.drop_eq_getElem_cons hl; rw [hx] at h2; rw [← h2, List.take_append_drop]
   · obtain ⟨j, hj⟩ := List.getElem?_of_mem hm; rw [List.getElem?_take] at hj
     by_cases hji : j < i
     · rw [if_pos hji] at hj; have := hno j hji; rw [occ_one.2 hj] at this; cases this
     · rw [if_neg hji] at hj; cases hj
theorem split_cutP (c : UInt8) : ∀ (k : Nat) (l : List UInt8), (Lib.splitK [c] 0 k l).length = min (k + 1) (cutP c l).length ∧ ((cutP c l).length ≤ k + 1 → Lib.splitK [c] 0 k l = cutP c l) := by
 intro k
 induction k with
 | zero =>
   intro l; obtain ⟨h, t, e⟩ := cutP_ne c l
   rcases index_cases l c with ⟨_, hm⟩ | ⟨i, _, hl, hm⟩
   · rw [cutP_miss hm]; simp [Lib.splitK]
   · have e2 := cutP_hit (b := l.drop (i + 1)) hm; rw [← hl] at e2; obtain ⟨h', t', e'⟩ := cutP_ne c (l.drop (i + 1)); rw [e2, e']
     simp [Lib.splitK]
 | succ k ih =>
   intro l
   rcases index_cases l c with ⟨hx, hm⟩ | ⟨i, hx, hl, hm⟩
   · rw [cutP_miss hm, Lib.splitK, if_pos (by rw [hx]; rfl)]; simp
   · have e2 := cutP_hit (b := l.drop (i + 1)) hm; rw [← hl] at e2
     have hne : ¬ (Lib.index l [c] == -1) = true := by
      rw [hx, beq_iff_eq]; omega
     rw [e2, Lib.splitK, if_neg hne, hx]; simp only [Int.toNat_natCast, Nat.add_zero, List.length_cons, List.length_nil]; have := ih (l.drop (i + 1)); refine ⟨by rw [this.1]; omega, fun h => ?_⟩; rw [this.2 (by omega)]
theorem count_cutP (c : UInt8) : ∀ (n : Nat) (l : List UInt8), l.length ≤ n → Lib.count l [c] + 1 = (cutP c l).length := by
 intro n
 induction n with
 | zero =>
   intro l h; have : l = [] := List.length_eq_zero_iff.1 (by omega); subst this
   rw [Lib.count_miss (by rfl)]; rfl
 | succ n ih =>
   intro l h
   rcases index_cases l c with ⟨hx, hm⟩ | ⟨i, hx, hl, hm⟩
   · rw [cutP_miss hm, Lib.count_miss hx]; rfl
   · have e2 := cutP_hit (b := l.drop (i + 1)) hm; rw [← hl] at e2
     have hlen : (l.drop (i + 1)).length ≤ n := by
      have := congrArg List.length hl; simp at this ⊢; omega
     have hi := ih _ hlen; rw [e2, Lib.count_hit (by simp) hx]; simp only [List.length_cons, List.length_nil, Nat.zero_add]; omega
/-- The model's cutting is that one. -/
theorem cutF_data (s : ByteArray) (c : UInt8) : ∀ (f i a : Nat), a ≤ i → i ≤ s.size → f = s.size - i →
 ∃ h t, cutP c (s.data.toList.drop i) = h :: t ∧ (cutF s c f i a).map (·.data.toList) = ((s.data.toList.take i).drop a ++ h) :: t := by
 intro f
 induction f with
 | zero =>
   intro i a ha hi hf; have hd : s.data.toList.drop i = [] := List.drop_eq_nil_of_le (by simp; omega); refine ⟨[], [], by rw [hd]; rfl, ?_⟩; have : i = s.size := by omega
   subst this; simp [cutF, List.extract_eq_take_drop]
   rw [List.take_of_length_le (by simp), List.take_of_length_le (by simp)]
 | succ f ih =>
   intro i a ha hi hf; have hlt : i < s.size := by omega
   have hd : s.data.toList.drop i = s[i] :: s.data.toList.drop (i + 1) := by
    rw [List.drop_eq_getElem_cons (by simpa using hlt)]; rfl
   have ht : s.data.toList.take (i + 1) = s.data.toList.take i ++ [s[i]] := Nm.take_step (Nm.get_data hlt); rw [cutF, dif_pos hlt, hd]
   by_cases e : s[i].toNat = c.toNat
   · have ec : s[i] = c := UInt8.toNat_inj.1 e; rw [if_pos e]; obtain ⟨h, t, h1, h2⟩ := ih (i + 1) (i + 1) (Nat.le_refl _) (by omega) (by omega); refine ⟨[], h :: t, by rw [cutP, if_pos ec, h1], ?_⟩; rw [List.map_cons, h2, List.drop_eq_nil_of_le (by simp; omega), List.nil_append, List.append_nil]; congr 1; simp [List.extract_eq_take_drop, List.drop_take]
   · have ec : ¬ s[i] = c := fun h => e (by rw [h])
     rw [if_neg e]; obtain ⟨h, t, h1, h2⟩ := ih (i + 1) a (by omega) (by omega) (by omega); refine ⟨s[i] :: h, t, by rw [cutP, if_neg ec, h1], ?_⟩; rw [h2, ht, List.drop_append_of_le_length (by simp; omega)]; simp
theorem cutB_data (s : ByteArray) (c : UInt8) : (cutB s c).map (·.data.toList) = cutP c s.data.toList := by
 obtain ⟨h, t, h1, h2⟩ := cutF_data s c s.size 0 0 (Nat.le_refl _) (Nat.zero_le _) rfl; rw [List.drop_zero] at h1; rw [cutB, h2, h1]; simp
theorem data_inj : ∀ {a b : List ByteArray}, a.map (·.data.toList) = b.map (·.data.toList) → a = b := by
 intro a
 induction a with
 | nil => intro b h; cases b with
   | nil => rfl
   | cons => simp at h
 | cons x r ih => intro b h; cases b with
   | nil => simp at h
   | cons y t =>
     simp only [List.map_cons, List.cons.injEq] at h; rw [Nm.ba_ext h.1, ih h.2]
theorem cutB_len (s : ByteArray) (c : UInt8) : (cutB s c).length = (cutP c s.data.toList).length := by rw [← cutB_data, List.length_map]
theorem splitB_len (s : ByteArray) (c : UInt8) (k : Nat) : (Lib.splitB ⟨#[c]⟩ 0 k s).length = min (k + 1) (cutB s c).length := by
 have h := congrArg List.length (Lib.splitB_data ⟨#[c]⟩ 0 k s); rw [List.length_map] at h; rw [h, cutB_len]; exact (split_cutP c k s.data.toList).1
theorem splitB_cut {s : ByteArray} {c : UInt8} {k : Nat} (h : (cutB s c).length ≤ k + 1) : Lib.splitB ⟨#[c]⟩ 0 k s = cutB s c := by
 apply data_inj; rw [Lib.splitB_data, cutB_data]; rw [cutB_len] at h; exact (split_cutP c k s.data.toList).2 h
theorem count_cut (s : ByteArray) (c : UInt8) : Lib.countB s ⟨#[c]⟩ + 1 = (cutB s c).length := by
 rw [cutB_len]; exact count_cutP c _ s.data.toList (Nat.le_refl _)
theorem cutP_le (c : UInt8) : ∀ l : List UInt8, (cutP c l).length ≤ l.length + 1 := by
 intro l
 induction l with
 | nil => simp [cutP]
 | cons x r ih =>
   rw [cutP]; split
   · simp; omega
   · split
     · simp
     · rename_i h t e; rw [e] at ih; simp at ih ⊢; omega
theorem cutB_le (s : ByteArray) (c : UInt8) : (cutB s c).length ≤ s.size + 1 := by
 rw [cutB_len]; have := cutP_le c s.data.toList; simpa using this
end Go.Proofs.YtddabafaejahbaaGreatDoor
/- A name's text, as plain mathematics. -/
namespace Go.Proofs.YtddabafaejahbaaGreatDoor.Nm
open Go.RowKit
def digB (c : UInt8) : Bool := decide (48 ≤ c.toNat) && decide (c.toNat ≤ 57)
def num3 (c d e : UInt8) : Nat := (c.toNat - 48) * 100 + (d.toNat - 48) * 10 + (e.toNat - 48)
def esc3 (c : UInt8) : List UInt8 → Option (UInt8 × Nat)
 | d :: e :: _ => if digB d = true ∧ digB e = true then (if num3 c d e ≤ 255 then some (UInt8.ofNat (num3 c d e), 3) else none) else none
 | _ => none
/-- What stands behind a backslash: the byte, and how many bytes it takes. -/
def escF : List UInt8 → Option (UInt8 × Nat)
 | [] => none
 | c :: r => if digB c = true then esc3 c r else some (c, 1)
theorem esc_byte {c : UInt8} (r : List UInt8) (h : digB c = false) : escF (c :: r) = some (c, 1) := by
 rw [escF, if_neg (by simp [h])]
theorem esc_short {c : UInt8} {r : List UInt8} (h : digB c = true) (hr : r.length < 2) : escF (c :: r) = none := by
 rw [escF, if_pos h]
 match r, hr with
 | [], _ => rfl
 | [_], _ => rfl
theorem esc_three {c d e : UInt8} {r : List UInt8} (h : digB c = true) : escF (c :: d :: e :: r) = if digB d = true ∧ digB e = true then (if num3 c d e ≤ 255 then some (UInt8.ofNat (num3 c d e), 3) else none) else none := by
 rw [escF, if_pos h, esc3]
theorem esc_len {l : List UInt8} {b : UInt8} {n : Nat} (h : escF l = some (b, n)) : 1 ≤ n ∧ n ≤ l.length ∧ n ≤ 3 := by
 cases l with
 | nil => simp [escF] at h
 | cons c r =>
   cases hd : digB c with
   | false =>
     rw [esc_byte r hd] at h; simp at h; simp only [List.length_cons]
     omega
   | true =>
     match r with
     | [] => rw [esc_short hd (by simp)] at h; simp at h
     | [_] => rw [esc_short hd (by simp)] at h; simp at h
     | d :: e :: r =>
       rw [esc_three hd] at h
       split at h
       · split at h
         · simp at h; simp only [List.length_cons]; omega
         · simp at h
       · simp at h
def fitsB (n : Nat) : Bool := decide (1 ≤ n) && decide (n ≤ 63)
def scanF : Nat → Bool → List UInt8 → List UInt8 → List ByteArray → List ByteArray × Bool × Int
 | 0, _, _, _, _ => ([], false, 0)
 | _ + 1, st, [], now, done =>
   if st = true then (done, true, 0)
   else if fitsB now.length = true then (done ++ [⟨now.toArray⟩], false, 0) else ([], false, 2)
 | f + 1, _, c :: r, now, done =>
   if c = 46 then
    (if fitsB now.length = true then scanF f true r [] (done ++ [⟨now.toArray⟩]) else ([], false, 2))
   else if c = 92 then
    (match escF r with
    | none => ([], false, 4)
    | some (b, n) => scanF f false (r.drop n) (now ++ [b]) done)
   else scanF f false r (now ++ [c]) done
def scanS (s : ByteArray) : List ByteArray × Bool × Int := scanF (s.size + 1) false s.data.toList [] []
def ScAt (s : ByteArray) (st : Bool) (k : Nat) (now : List UInt8) (done : List ByteArray) : Prop :=
 k ≤ s.size ∧ ∃ f, s.size - k < f ∧ scanS s = scanF f st (s.data.toList.drop k) now done
theorem sc_start (s : ByteArray) : ScAt s false 0 [] [] := ⟨Nat.zero_le _, s.size + 1, by omega, by rw [List.drop_zero]; rfl⟩
theorem sc_start' (s : ByteArray) (h : 0 < s.size) : ScAt s true 0 [] [] := by
 refine ⟨Nat.zero_le _, s.size + 1, by omega, ?_⟩; rw [List.drop_zero, scanS]
 cases hd : s.data.toList with
 | nil =>
   have : s.data.toList.length = 0 := by rw [hd]; rfl
   simp at this; have h2 : s.size = 0 := by simp [this]
   omega
 | cons c r => simp only [scanF]
theorem drop_at {s : ByteArray} {k : Nat} (h : k < s.size) : s.data.toList.drop k = s[k] :: s.data.toList.drop (k + 1) := by
 have hl : k < s.data.toList.length := by simpa using h
 rw [List.drop_eq_getElem_cons hl]; rfl
theorem drop_end {s : ByteArray} : s.data.toList.drop s.size = [] := List.drop_of_length_le (by simp)
section
variable {s : ByteArray} {st : Bool} {k : Nat} {now : List UInt8} {done : List ByteArray}
theorem sc_dot (h : ScAt s st k now done) (hk : k < s.size) (hc : s[k] = 46) (hf : fitsB now.length = true) : ScAt s true (k + 1) [] (done ++ [⟨now.toArray⟩]) := by
 obtain ⟨_, f, hf2, e⟩ := h; obtain ⟨g, rfl⟩ : ∃ g, f = g + 1 := ⟨f - 1, by omega⟩; refine ⟨by omega, g, by omega, ?_⟩; rw [e, drop_at hk, scanF, if_pos hc, if_pos hf]
theorem sc_dot_bad (h : ScAt s st k now done) (hk : k < s.size) (hc : s[k] = 46) (hf : fitsB now.length = false) : scanS s = ([], false, 2) := by
 obtain ⟨_, f, hf2, e⟩ := h; obtain ⟨g, rfl⟩ : ∃ g, f = g + 1 := ⟨f - 1, by omega⟩; rw [e, drop_at hk, scanF, if_pos hc, if_neg (by simp [hf])]
theorem sc_esc_bad (h : ScAt s st k now done) (hk : k < s.size) (hc : s[k] = 92) (he : escF (s.data.toList.drop (k + 1)) = none) : scanS s = ([], false, 4) := by
 obtain ⟨_, f, hf2, e⟩ := h; obtain ⟨g, rfl⟩ : ∃ g, f = g + 1 := ⟨f - 1, by omega⟩; rw [e, drop_at hk, scanF, if_neg (by rw [hc]; decide), if_pos hc, he]
theorem sc_esc (h : ScAt s st k now done) (hk : k < s.size) (hc : s[k] = 92) {b : UInt8} {n : Nat} (he : escF (s.data.toList.drop (k + 1)) = some (b, n)) : ScAt s false (k + 1 + n) (now ++ [b]) done := by
 obtain ⟨_, f, hf2, e⟩ := h; obtain ⟨g, rfl⟩ : ∃ g, f = g + 1 := ⟨f - 1, by omega⟩; have hl := esc_len he; simp only [List.length_drop, Array.length_toList, ByteArray.size_data] at hl; refine ⟨by omega, g, by omega, ?_⟩; rw [e, drop_at hk, scanF, if_neg (by rw [hc]; decide), if_pos hc, he]; simp only [List.drop_drop]
theorem sc_plain (h : ScAt s st k now done) (hk : k < s.size) (hc : s[k] ≠ 46) (hc2 : s[k] ≠ 92) : ScAt s false (k + 1) (now ++ [s[k]]) done := by
 obtain ⟨_, f, hf2, e⟩ := h; obtain ⟨g, rfl⟩ : ∃ g, f = g + 1 := ⟨f - 1, by omega⟩; refine ⟨by omega, g, by omega, ?_⟩; rw [e, drop_at hk, scanF, if_neg hc, if_neg hc2]
theorem sc_abs (h : ScAt s true k now done) (hk : k = s.size) : scanS s = (done, true, 0) := by
 obtain ⟨_, f, hf2, e⟩ := h; obtain ⟨g, rfl⟩ : ∃ g, f = g + 1 := ⟨f - 1, by omega⟩; rw [e, hk, drop_end, scanF, if_pos rfl]
theorem sc_rel (h : ScAt s false k now done) (hk : k = s.size) (hf : fitsB now.length = true) : scanS s = (done ++ [⟨now.toArray⟩], false, 0) := by
 obtain ⟨_, f, hf2, e⟩ := h; obtain ⟨g, rfl⟩ : ∃ g, f = g + 1 := ⟨f - 1, by omega⟩; rw [e, hk, drop_end, scanF, if_neg (by simp), if_pos hf]
theorem sc_rel_bad (h : ScAt s false k now done) (hk : k = s.size) (hf : fitsB now.length = false) : scanS s = ([], false, 2) := by
 obtain ⟨_, f, hf2, e⟩ := h; obtain ⟨g, rfl⟩ : ∃ g, f = g + 1 := ⟨f - 1, by omega⟩; rw [e, hk, drop_end, scanF, if_neg (by simp), if_neg (by simp [hf])]
end
theorem fits_yes {n : Nat} (h1 : 1 ≤ n) (h2 : n ≤ 63) : fitsB n = true := by simp [fitsB, h1, h2]
theorem fits_no {n : Nat} (h : ¬ (1 ≤ n ∧ n ≤ 63)) : fitsB n = false := by
 simp [fitsB]; omega
end Go.Proofs.YtddabafaejahbaaGreatDoor.Nm
/- Numbers as text: mathematics. -/
namespace Go.Proofs.YtddabafaejahbaaGreatDoor
open Go.RowKit
def decF : Nat → Nat → List UInt8
 | 0, _ => []
 | f + 1, n => if n < 10 then [UInt8.ofNat (48 + n)] else decF f (n / 10) ++ [UInt8.ofNat (48 + n % 10)]
theorem decF_enough : ∀ (f g n : Nat), n < f → n < g → decF f n = decF g n := by
 intro f
 induction f with
 | zero => intro g n h; omega
 | succ f ih =>
   intro g n hf hg
   cases g with
   | zero => omega
   | succ g =>
     rw [decF, decF]
     by_cases h : n < 10
     · rw [if_pos h, if_pos h]
     · rw [if_neg h, if_neg h, ih g (n / 10) (by omega) (by omega)]
/-- A number in decimal digits. -/
def decL (n : Nat) : List UInt8 := decF (n + 1) n
def decS (n : Nat) : ByteArray := ⟨(decL n).toArray⟩
theorem decL_small {n : Nat} (h : n < 10) : decL n = [UInt8.ofNat (48 + n)] := by rw [decL, decF, if_pos h]
theorem decL_step {n : Nat} (h : ¬ n < 10) : decL n = decL (n / 10) ++ [UInt8.ofNat (48 + n % 10)] := by
 rw [decL, decF, if_neg h, decF_enough _ (n / 10 + 1) _ (by omega) (by omega)]; rfl
theorem decL_len20 {n : Nat} (h : n < 10000000000000000000) : (decL n).length ≤ 20 := by
 have key : ∀ (k n : Nat), n < 10 ^ (k + 1) → (decL n).length ≤ k + 1 := by
  intro k
  induction k with
  | zero => intro n hn; rw [decL_small (by simpa using hn)]; simp
  | succ k ih =>
    intro n hn
    by_cases h10 : n < 10
    · rw [decL_small h10]; simp
    · rw [decL_step h10]; have := ih (n / 10) (by rw [Nat.pow_succ] at hn; omega)
      simp; omega
 exact key 19 n (by have : (10 : Nat) ^ (19 + 1) = 100000000000000000000 := by decide
                    omega)
/-- The number of a text of digits. -/
def numD (l : List UInt8) : Nat := l.foldl (fun n c => n * 10 + (c.toNat - 48)) 0
theorem numD_snoc (l : List UInt8) (c : UInt8) : numD (l ++ [c]) = numD l * 10 + (c.toNat - 48) := by simp [numD]
def numO (s : ByteArray) (most : Nat) : Option Nat :=
 if 1 ≤ s.size ∧ s.size ≤ most ∧ s.data.toList.all Nm.digB = true then some (numD s.data.toList) else none
theorem numO_len {s : ByteArray} {most : Nat} (h : ¬ (1 ≤ s.size ∧ s.size ≤ most)) : numO s most = none := by
 rw [numO, if_neg (fun h' => h ⟨h'.1, h'.2.1⟩)]
theorem numO_bad {s : ByteArray} {most k : Nat} (hk : k < s.size) (h : Nm.digB s[k] = false) : numO s most = none := by
 rw [numO, if_neg]; rintro ⟨_, _, h3⟩; have := List.all_eq_true.1 h3 s[k] (List.mem_of_getElem? (Nm.get_data hk)); rw [h] at this; cases this
theorem numO_good {s : ByteArray} {most : Nat} (h1 : 1 ≤ s.size) (h2 : s.size ≤ most) (h : ∀ j, (hj : j < s.size) → Nm.digB s[j] = true) : numO s most = some (numD s.data.toList) := by
 rw [numO, if_pos]; refine ⟨h1, h2, ?_⟩; rw [List.all_eq_true]; intro c hc; obtain ⟨i, hi⟩ := List.getElem?_of_mem hc
 have hl : i < s.size := by
  have := (List.getElem?_eq_some_iff.1 hi).1; simpa using this
 rw [Nm.get_data hl] at hi; simp at hi; rw [← hi]; exact h _ hl
theorem numD_lt : ∀ (l : List UInt8), (∀ c ∈ l, Nm.digB c = true) → numD l < 10 ^ l.length := by
 have key : ∀ (l : List UInt8) (a : Nat), (∀ c ∈ l, Nm.digB c = true) → l.foldl (fun n c => n * 10 + (c.toNat - 48)) a < (a + 1) * 10 ^ l.length := by
  intro l
  induction l with
  | nil => intro a _; simp
  | cons c l ih =>
    intro a h
    have hc : c.toNat ≤ 57 := by
     have := h c (List.mem_cons_self); simp [Nm.digB] at this; omega
    rw [List.foldl_cons, List.length_cons, Nat.pow_succ]; refine Nat.lt_of_lt_of_le (ih _ (fun x hx => h x (List.mem_cons_of_mem _ hx))) ?_; have h1 : a * 10 + (c.toNat - 48) + 1 ≤ (a + 1) * 10 := by omega
    have h2 := Nat.mul_le_mul_right (10 ^ l.length) h1; have h3 : (a + 1) * 10 * 10 ^ l.length = (a + 1) * (10 ^ l.length * 10) := by rw [Nat.mul_assoc, Nat.mul_comm 10]
    omega
 intro l h; have := key l 0 h; rw [Nat.zero_add, Nat.one_mul] at this; exact this
end Go.Proofs.YtddabafaejahbaaGreatDoor
/- What ReadV4 answers: mathematics. -/
namespace Go.Proofs.YtddabafaejahbaaGreatDoor
open Go.RowKit
/-- A part of an address of four bytes. -/
def v4Part (p : ByteArray) : Option Nat := match numO p 3 with
 | some n => if n ≤ 255 ∧ decS n = p then some n else none
 | none => none
def v4All : List ByteArray → Option (List UInt8)
 | [] => some []
 | p :: r => match v4Part p with
   | none => none
   | some n => (v4All r).map (fun t => UInt8.ofNat n :: t)
def readV4S (s : ByteArray) : ByteArray × Int :=
 if (cutB s 46).length = 4 then (match v4All (cutB s 46) with
  | some l => (⟨l.toArray⟩, 0)
  | none => (⟨#[]⟩, 7)) else (⟨#[]⟩, 7)
theorem v4_count {s : ByteArray} (h : (cutB s 46).length ≠ 4) : readV4S s = (⟨#[]⟩, 7) := by rw [readV4S, if_neg h]
/-- The reading stands behind k parts. -/
def V4At (ls : List ByteArray) (k : Nat) (o : List UInt8) : Prop := v4All ls = (v4All (ls.drop k)).map (fun t => o ++ t)
theorem v4_start (ls : List ByteArray) : V4At ls 0 [] := by simp [V4At]
theorem v4_next {ls : List ByteArray} {k n : Nat} {o : List UInt8} {p : ByteArray} (h : V4At ls k o) (hp : ls[k]? = some p) (hn : v4Part p = some n) : V4At ls (k + 1) (o ++ [UInt8.ofNat n]) := by
 have hk : k < ls.length := (List.getElem?_eq_some_iff.1 hp).1; have hx : ls[k] = p := (List.getElem?_eq_some_iff.1 hp).2; rw [V4At] at h ⊢; rw [h, List.drop_eq_getElem_cons hk, hx, v4All, hn]; simp only [Option.map_map]; congr 1; funext t; simp
theorem v4_bad {s : ByteArray} {k : Nat} {o : List UInt8} {p : ByteArray} (h : V4At (cutB s 46) k o) (hp : (cutB s 46)[k]? = some p) (hn : v4Part p = none) : readV4S s = (⟨#[]⟩, 7) := by
 have hk : k < (cutB s 46).length := (List.getElem?_eq_some_iff.1 hp).1; have hx : (cutB s 46)[k] = p := (List.getElem?_eq_some_iff.1 hp).2; have e : v4All ((cutB s 46).drop k) = none := by rw [List.drop_eq_getElem_cons hk, hx, v4All, hn]
 rw [V4At, e] at h; rw [readV4S, h]
 split <;> rfl
theorem v4_end {s : ByteArray} {o : List UInt8} (h4 : (cutB s 46).length = 4) (h : V4At (cutB s 46) 4 o) : readV4S s = (⟨o.toArray⟩, 0) := by
 have e : (cutB s 46).drop 4 = [] := List.drop_eq_nil_of_le (by omega); rw [V4At, e] at h; rw [readV4S, if_pos h4, h]; simp [v4All]
/-- How long the parts are together. -/
theorem cutP_sum (c : UInt8) : ∀ l : List UInt8, ((cutP c l).map List.length).sum + (cutP c l).length = l.length + 1 := by
 intro l
 induction l with
 | nil => rfl
 | cons x r ih =>
   rw [cutP]; split
   · simp; omega
   · split
     · rename_i e; rw [e] at ih; simp at ih
     · rename_i h t e; rw [e] at ih; simp at ih ⊢; omega
theorem v4_sizes : ∀ {ls : List ByteArray} {l : List UInt8}, v4All ls = some l → (ls.map (fun p => p.data.toList.length)).sum ≤ 3 * ls.length := by
 intro ls
 induction ls with
 | nil => intro l _; simp
 | cons p r ih =>
   intro l h; rw [v4All] at h
   cases hp : v4Part p with
   | none => rw [hp] at h; cases h
   | some n =>
     rw [hp] at h
     cases hr : v4All r with
     | none => rw [hr] at h; cases h
     | some t =>
       have := ih hr
       have hz : p.size ≤ 3 := by
        unfold v4Part at hp
        by_cases hq : 1 ≤ p.size ∧ p.size ≤ 3
        · exact hq.2
        · rw [numO_len hq] at hp; cases hp
       have hz2 : p.data.toList.length = p.size := by simp
       simp only [List.map_cons, List.sum_cons, List.length_cons]; omega
theorem v4_long {s : ByteArray} (h : 15 < s.size) : readV4S s = (⟨#[]⟩, 7) := by
 rw [readV4S]; split
 · rename_i h4
   cases hv : v4All (cutB s 46) with
   | none => rfl
   | some l =>
     exfalso
     have h1 := v4_sizes hv; have h2 := cutP_sum 46 s.data.toList; rw [← cutB_data, List.map_map, List.length_map] at h2; have h3 : s.data.toList.length = s.size := by simp
     have h5 : ((cutB s 46).map (List.length ∘ fun x => x.data.toList)).sum = ((cutB s 46).map (fun p => p.data.toList.length)).sum := rfl; omega
 · rfl
theorem dec_two {x y : Nat} (hx : x < 10) (hy : y < 10) (h0 : x ≠ 0) : decL (10 * x + y) = [UInt8.ofNat (48 + x), UInt8.ofNat (48 + y)] := by
 rw [decL_step (by omega), show (10 * x + y) / 10 = x by omega, show (10 * x + y) % 10 = y by omega, decL_small hx]; rfl
theorem dec_three {x y z : Nat} (hx : x < 10) (hy : y < 10) (hz : z < 10) (h0 : x ≠ 0) : decL (100 * x + 10 * y + z) = [UInt8.ofNat (48 + x), UInt8.ofNat (48 + y), UInt8.ofNat (48 + z)] := by
 rw [decL_step (by omega), show (100 * x + 10 * y + z) / 10 = 10 * x + y by omega, show (100 * x + 10 * y + z) % 10 = z by omega, dec_two hx hy h0]; rfl
theorem dec_len2 {n : Nat} (h : n < 100) : (decL n).length ≤ 2 := by
 by_cases h1 : n < 10
 · rw [decL_small h1]; simp
 · rw [decL_step h1, decL_small (by omega)]; simp
theorem dec_len1 {n : Nat} (h : n < 10) : (decL n).length = 1 := by rw [decL_small h]; rfl
theorem dig_back {c : UInt8} (h : Nm.digB c = true) : UInt8.ofNat (48 + (c.toNat - 48)) = c ∧ c.toNat - 48 < 10 := by
 simp [Nm.digB] at h
 have e : 48 + (c.toNat - 48) = c.toNat := by omega
 rw [e]; exact ⟨by simp, by omega⟩
/-- A number of at most three digits has no needless nought ahead just where it is written so. -/
theorem dec_iff {p : ByteArray} {n : Nat} (h : numO p 3 = some n) (hp : 0 < p.size) : decS n = p ↔ ¬ (1 < p.size ∧ p[0].toNat = 48) := by
 have hq : 1 ≤ p.size ∧ p.size ≤ 3 ∧ p.data.toList.all Nm.digB = true := by
  unfold numO at h
  by_cases hc : 1 ≤ p.size ∧ p.size ≤ 3 ∧ p.data.toList.all Nm.digB = true
  · exact hc
  · rw [if_neg hc] at h; cases h
 have hn : n = numD p.data.toList := by
  rw [numO, if_pos hq] at h; exact (Option.some.inj h).symm
 have hsz : p.data.toList.length = p.size := by simp
 have h0 : p.data.toList[0]? = some p[0] := Nm.get_data hp
 have hS : decS n = p ↔ decL n = p.data.toList := by
  constructor
  · intro e; rw [← e]; simp [decS]
  · intro e; apply Nm.ba_ext; simp [decS, e]
 rw [hS]; generalize p[0] = q at *; generalize p.data.toList = l at *; generalize p.size = z at *; obtain ⟨_, hz3, hall⟩ := hq
 match l, hsz with
 | [a], hsz =>
   simp at hsz h0; simp only [List.all_cons, List.all_nil, Bool.and_true] at hall; obtain ⟨e1, e2⟩ := dig_back hall; have : n = a.toNat - 48 := by rw [hn]; simp [numD]
   rw [this, decL_small e2, e1]; constructor
   · intro _; omega
   · intro _; rfl
 | [a, b], hsz =>
   simp at hsz h0; simp only [List.all_cons, List.all_nil, Bool.and_true, Bool.and_eq_true] at hall; obtain ⟨e1, e2⟩ := dig_back hall.1; obtain ⟨f1, f2⟩ := dig_back hall.2; have hd : 48 ≤ a.toNat := by have := hall.1; simp [Nm.digB] at this; omega
   have : n = 10 * (a.toNat - 48) + (b.toNat - 48) := by rw [hn]; simp [numD]; omega
   subst h0
   by_cases ha : a.toNat = 48
   · constructor
     · intro e; have h1 := congrArg List.length e; rw [dec_len1 (by omega)] at h1; simp at h1
     · intro hx; exact absurd ⟨by omega, ha⟩ hx
   · constructor
     · intro _ hx; exact ha hx.2
     · intro _
       rw [this, dec_two e2 f2 (by omega), e1, f1]
 | [a, b, c], hsz =>
   simp at hsz h0; simp only [List.all_cons, List.all_nil, Bool.and_true, Bool.and_eq_true] at hall; obtain ⟨e1, e2⟩ := dig_back hall.1; obtain ⟨f1, f2⟩ := dig_back hall.2.1; obtain ⟨g1, g2⟩ := dig_back hall.2.2; have hd : 48 ≤ a.toNat := by have := hall.1; simp [Nm.digB] at this; omega
   have : n = 100 * (a.toNat - 48) + 10 * (b.toNat - 48) + (c.toNat - 48) := by rw [hn]; simp [numD]; omega
   subst h0
   by_cases ha : a.toNat = 48
   · constructor
     · intro e; have h1 := congrArg List.length e; have := dec_len2 (n := n) (by omega); simp at h1; omega
     · intro hx; exact absurd ⟨by omega, ha⟩ hx
   · constructor
     · intro _ hx; exact ha hx.2
     · intro _
       rw [this, dec_three e2 f2 g2 (by omega), e1, f1, g1]
 | a :: b :: c :: d :: r, hsz => simp at hsz; omega
 | [], hsz => simp at hsz; omega
theorem part_none {p : ByteArray} (h : numO p 3 = none) : v4Part p = none := by rw [v4Part, h]
theorem part_big {p : ByteArray} {n : Nat} (h : numO p 3 = some n) (hn : 255 < n) : v4Part p = none := by rw [v4Part, h]; simp only; rw [if_neg (by omega)]
theorem part_not {p : ByteArray} {n : Nat} (h : numO p 3 = some n) (hd : decS n ≠ p) : v4Part p = none := by rw [v4Part, h]; simp only; rw [if_neg (fun x => hd x.2)]
theorem part_some {p : ByteArray} {n : Nat} (h : numO p 3 = some n) (hn : n ≤ 255) (hd : decS n = p) : v4Part p = some n := by rw [v4Part, h]; simp only; rw [if_pos ⟨hn, hd⟩]
theorem num_pos {p : ByteArray} {n m : Nat} (h : numO p m = some n) : 0 < p.size := by
 unfold numO at h
 by_cases hc : 1 ≤ p.size ∧ p.size ≤ m ∧ p.data.toList.all Nm.digB = true
 · omega
 · rw [if_neg hc] at h; cases h
def strV (p : ByteArray × Int) : Value := .tuple #[.string p.1, .int .i64 p.2]
end Go.Proofs.YtddabafaejahbaaGreatDoor
/- The value of a digit of base 16: mathematics. -/
namespace Go.Proofs.YtddabafaejahbaaGreatDoor
open Go.RowKit
/-- A hexadecimal digit's value, or minus one. -/
def hexV (c : UInt8) : Int :=
 if Nm.digB c = true then (c.toNat : Int) - 48 else if 97 ≤ c.toNat ∧ c.toNat ≤ 102 then (c.toNat : Int) - 97 + 10
 else if 65 ≤ c.toNat ∧ c.toNat ≤ 70 then (c.toNat : Int) - 65 + 10 else -1
end Go.Proofs.YtddabafaejahbaaGreatDoor
/- What ReadV6 answers: mathematics. -/
namespace Go.Proofs.YtddabafaejahbaaGreatDoor
open Go.RowKit
def isHex (c : UInt8) : Bool := decide (0 ≤ hexV c)
theorem hexV_lt (c : UInt8) : hexV c < 16 ∧ -1 ≤ hexV c := by
 unfold hexV; split
 · rename_i h; simp [Nm.digB] at h; omega
 · split
   · omega
   · split <;> omega
/-- The number of digits of base 16. -/
def hexN (l : List UInt8) : Nat := l.foldl (fun n c => n * 16 + (hexV c).toNat) 0
theorem hexN_snoc (l : List UInt8) (c : UInt8) : hexN (l ++ [c]) = hexN l * 16 + (hexV c).toNat := by simp [hexN]
theorem hexN_lt (l : List UInt8) : hexN l < 16 ^ l.length := by
 have key : ∀ (l : List UInt8) (a : Nat), l.foldl (fun n c => n * 16 + (hexV c).toNat) a < (a + 1) * 16 ^ l.length := by
  intro l
  induction l with
  | nil => intro a; simp
  | cons c l ih =>
    intro a; have hc := hexV_lt c; rw [List.foldl_cons, List.length_cons, Nat.pow_succ]; refine Nat.lt_of_lt_of_le (ih _) ?_; have h1 : a * 16 + (hexV c).toNat + 1 ≤ (a + 1) * 16 := by omega
    have h2 := Nat.mul_le_mul_right (16 ^ l.length) h1; have h3 : (a + 1) * 16 * 16 ^ l.length = (a + 1) * (16 ^ l.length * 16) := by rw [Nat.mul_assoc, Nat.mul_comm 16]
    omega
 have := key l 0; rw [Nat.zero_add, Nat.one_mul] at this; exact this
theorem hexN_small {l : List UInt8} (h : l.length ≤ 4) : hexN l < 65536 := by
 have h1 := hexN_lt l; have h2 : 16 ^ l.length ≤ 16 ^ 4 := Nat.pow_le_pow_right (by decide) h; have h3 : (16 : Nat) ^ 4 = 65536 := by decide
 omega
def grpO (p : ByteArray) : Option Nat := if 1 ≤ p.size ∧ p.size ≤ 4 ∧ p.data.toList.all isHex = true then some (hexN p.data.toList) else none
theorem grpO_len {p : ByteArray} (h : ¬ (1 ≤ p.size ∧ p.size ≤ 4)) : grpO p = none := by rw [grpO, if_neg (fun h' => h ⟨h'.1, h'.2.1⟩)]
theorem grpO_bad {p : ByteArray} {k : Nat} (hk : k < p.size) (h : hexV p[k] < 0) : grpO p = none := by
 rw [grpO, if_neg]; rintro ⟨_, _, h3⟩; have := List.all_eq_true.1 h3 p[k] (List.mem_of_getElem? (Nm.get_data hk)); simp [isHex] at this
 omega
theorem grpO_good {p : ByteArray} (h1 : 1 ≤ p.size) (h2 : p.size ≤ 4) (h : ∀ j, (hj : j < p.size) → 0 ≤ hexV p[j]) : grpO p = some (hexN p.data.toList) := by
 rw [grpO, if_pos]; refine ⟨h1, h2, ?_⟩; rw [List.all_eq_true]; intro c hc; obtain ⟨i, hi⟩ := List.getElem?_of_mem hc
 have hl : i < p.size := by
  have := (List.getElem?_eq_some_iff.1 hi).1; simpa using this
 rw [Nm.get_data hl] at hi; simp at hi; rw [← hi]; simp [isHex]
 exact h _ hl
theorem grpO_lt {p : ByteArray} {n : Nat} (h : grpO p = some n) : n < 65536 := by
 unfold grpO at h
 by_cases hc : 1 ≤ p.size ∧ p.size ≤ 4 ∧ p.data.toList.all isHex = true
 · rw [if_pos hc] at h; have := hexN_small (l := p.data.toList) (by simp; omega); rw [← Option.some.inj h]; exact this
 · rw [if_neg hc] at h; cases h
def put2 (n : Nat) : List UInt8 := [UInt8.ofNat (n / 256), UInt8.ofNat (n % 256)]
/-- A part of an address of sixteen bytes. -/
def gPart (p : ByteArray) (last : Bool) : Option (List UInt8) :=
 if last = true ∧ (readV4S p).2 = 0 then some (readV4S p).1.data.toList else (grpO p).map put2
def gFrom (last : Bool) : List ByteArray → Option (List UInt8)
 | [] => some []
 | p :: r => match gPart p (last && r.isEmpty) with
   | none => none
   | some b => (gFrom last r).map (fun t => b ++ t)
def GAt (last : Bool) (ls : List ByteArray) (k : Nat) (o : List UInt8) : Prop := gFrom last ls = (gFrom last (ls.drop k)).map (fun t => o ++ t)
theorem g_start (last : Bool) (ls : List ByteArray) : GAt last ls 0 [] := by simp [GAt]
theorem drop_at' {ls : List ByteArray} {k : Nat} {p : ByteArray} (hp : ls[k]? = some p) : ls.drop k = p :: ls.drop (k + 1) ∧ (ls.drop (k + 1)).isEmpty = decide (k + 1 = ls.length) := by
 have hk : k < ls.length := (List.getElem?_eq_some_iff.1 hp).1; have hx : ls[k] = p := (List.getElem?_eq_some_iff.1 hp).2; refine ⟨by rw [List.drop_eq_getElem_cons hk, hx], ?_⟩; rw [Bool.eq_iff_iff, List.isEmpty_iff, decide_eq_true_eq, List.drop_eq_nil_iff]; omega
theorem g_next {last : Bool} {ls : List ByteArray} {k : Nat} {o b : List UInt8} {p : ByteArray} (h : GAt last ls k o) (hp : ls[k]? = some p) (hb : gPart p (last && decide (k + 1 = ls.length)) = some b) : GAt last ls (k + 1) (o ++ b) := by
 obtain ⟨e1, e2⟩ := drop_at' hp; rw [GAt] at h ⊢; rw [h, e1, gFrom, e2, hb]; simp only [Option.map_map]; congr 1; funext t; simp
theorem g_bad {last : Bool} {ls : List ByteArray} {k : Nat} {o : List UInt8} {p : ByteArray} (h : GAt last ls k o) (hp : ls[k]? = some p) (hb : gPart p (last && decide (k + 1 = ls.length)) = none) : gFrom last ls = none := by
 obtain ⟨e1, e2⟩ := drop_at' hp; rw [GAt] at h; rw [h, e1, gFrom, e2, hb]; rfl
theorem g_end {last : Bool} {ls : List ByteArray} {k : Nat} {o : List UInt8} (h : GAt last ls k o) (hk : ls.length ≤ k) : gFrom last ls = some o := by
 rw [GAt, List.drop_eq_nil_of_le hk] at h; rw [h]; simp [gFrom]
/-- An address of four bytes has four. -/
theorem v4_four {p : ByteArray} (h : (readV4S p).2 = 0) : (readV4S p).1.data.toList.length = 4 := by
 have key : ∀ (ls : List ByteArray) (l : List UInt8), v4All ls = some l → l.length = ls.length := by
  intro ls
  induction ls with
  | nil => intro l h; simp [v4All] at h; subst h; rfl
  | cons p r ih =>
    intro l h; rw [v4All] at h
    cases hp : v4Part p with
    | none => rw [hp] at h; cases h
    | some n =>
      rw [hp] at h
      cases hr : v4All r with
      | none => rw [hr] at h; cases h
      | some t =>
        rw [hr] at h; simp at h; subst h; simp [ih t hr]
 unfold readV4S at h ⊢
 split at h
 · rename_i h4; rw [if_pos h4]
   cases hv : v4All (cutB p 46) with
   | none => rw [hv] at h; simp at h
   | some l =>
     simp
     rw [key _ _ hv, h4]
 · simp at h
theorem gPart_len {p : ByteArray} {last : Bool} {b : List UInt8} (h : gPart p last = some b) : b.length = 2 ∨ b.length = 4 := by
 unfold gPart at h
 split at h
 · rename_i hc; simp at h; rw [← h]; exact .inr (v4_four hc.2)
 · cases hg : grpO p with
   | none => rw [hg] at h; cases h
   | some n => rw [hg] at h; simp at h; subst h; exact .inl rfl
theorem gFrom_even (last : Bool) : ∀ (ls : List ByteArray) (l : List UInt8), gFrom last ls = some l → l.length % 2 = 0 ∧ l.length ≤ 4 * ls.length := by
 intro ls
 induction ls with
 | nil => intro l h; simp [gFrom] at h; subst h; simp
 | cons p r ih =>
   intro l h; rw [gFrom] at h
   cases hp : gPart p (last && r.isEmpty) with
   | none => rw [hp] at h; cases h
   | some b =>
     rw [hp] at h
     cases hr : gFrom last r with
     | none => rw [hr] at h; cases h
     | some t =>
       rw [hr] at h; simp at h; subst h; have h1 := gPart_len hp; have h2 := ih t hr; simp
       omega
def groupsS (s : ByteArray) (last : Bool) : Option (List UInt8) := if s.size = 0 then some [] else gFrom last (cutB s 58)
theorem groups_even {s : ByteArray} {last : Bool} {l : List UInt8} (h : groupsS s last = some l) : l.length % 2 = 0 ∧ l.length ≤ 4 * (s.size + 1) := by
 unfold groupsS at h
 split at h
 · simp at h; subst h; simp
 · have := gFrom_even last _ _ h; have h2 := cutB_le s 58; omega
def v6Gap (s : ByteArray) (i : Nat) : ByteArray × Int := match groupsS (s.extract 0 i) false, groupsS (s.extract (i + 2) s.size) true with
 | some a, some b => if 14 < a.length + b.length then (⟨#[]⟩, 7) else (⟨(a ++ List.replicate (16 - a.length - b.length) 0 ++ b).toArray⟩, 0)
 | _, _ => (⟨#[]⟩, 7)
def v6Whole (s : ByteArray) : ByteArray × Int := match groupsS s true with
 | some o => if o.length = 16 then (⟨o.toArray⟩, 0) else (⟨#[]⟩, 7)
 | none => (⟨#[]⟩, 7)
def readV6S (s : ByteArray) : ByteArray × Int := if 100 < s.size then (⟨#[]⟩, 7) else
 if 0 ≤ Lib.index s.data.toList [58, 58] then v6Gap s (Lib.index s.data.toList [58, 58]).toNat else v6Whole s
theorem occ_two {s : ByteArray} {i : Nat} (_h : i + 2 ≤ s.size) : Lib.occAt s.data.toList [58, 58] i = ((s.extract i (i + 2)).toList == [58, 58]) := by
 rw [Bool.eq_iff_iff, beq_iff_eq, ByteArray.toList_eq]; unfold Lib.occAt; rw [List.isPrefixOf_iff_prefix, List.prefix_iff_eq_take]
 have e : (s.extract i (i + 2)).data.toList = (s.data.toList.drop i).take 2 := by
  simp [List.extract_eq_take_drop]
 rw [e]; constructor
 · intro h; exact h.symm
 · intro h; exact h.symm
def NoDD (s : ByteArray) (i : Nat) : Prop := Lib.NoOcc s.data.toList [58, 58] i
theorem dd_start (s : ByteArray) : NoDD s 0 := Lib.NoOcc.zero _ _
theorem dd_next {s : ByteArray} {i : Nat} (h : NoDD s i) (hi : i + 2 ≤ s.size) (hn : ((s.extract i (i + 2)).toList == [58, 58]) = false) : NoDD s (i + 1) := by
 intro j hj
 by_cases e : j = i
 · subst e; rw [occ_two hi]; exact hn
 · exact h j (by omega)
theorem dd_hit {s : ByteArray} {i : Nat} (h : NoDD s i) (h100 : ¬ 100 < s.size) (hi : i + 2 ≤ s.size) (hn : ((s.extract i (i + 2)).toList == [58, 58]) = true) : readV6S s = v6Gap s i := by
 have e := Lib.index_hit h (by simp; omega) (by rw [occ_two hi]; exact hn); rw [readV6S, if_neg h100, e, if_pos (by omega), Int.toNat_natCast]
theorem dd_none {s : ByteArray} {i : Nat} (h : NoDD s i) (h100 : ¬ 100 < s.size) (hi : s.size < i + 2) : readV6S s = v6Whole s := by
 have e := Lib.index_past (sub := [58, 58]) (by simp) h (by simp; omega); rw [readV6S, if_neg h100, e, if_neg (by omega)]
theorem v6_long {s : ByteArray} (h : 100 < s.size) : readV6S s = (⟨#[]⟩, 7) := by rw [readV6S, if_pos h]
end Go.Proofs.YtddabafaejahbaaGreatDoor
/- (labelList).wireSize and (labelList).wire by their contracts. -/
namespace Go.Proofs.YtddabafaejahbaaGreatDoor
open Go.RowKit
theorem Tryz.infoU8 : (Tryz.prog.info? 5).map (fun i => (i.zero, i.size, i.bytes)) = some (some (.int .u8 0), 1, 1) := by kernel_rfl
set_option maxRecDepth 100000 in
set_option maxHeartbeats 400000 in
theorem wireSize_any (v : Value) (ls : List ByteArray) (w : World) (h : Nm.SRow w v ls) (hlen : Nm.wsum ls ≤ 1000000000) :
 Calls Tryz.prog 196 #[v] w fun e w' => e = .returned (.int .i64 ((1 + Nm.wsum ls : Nat) : Int)) ∧ w' = w := by
 obtain ⟨a, cap, rfl, hcap, hmx, hnl, hc⟩ := h; have hll := Nm.length_le_wsum ls
 by_cases hne : ls = []
 · subst hne; go_enter Tryz.func196, Tryz.ntmps196; go_wp2
   go_loop [3, 8] (fun t i => t = .int .i64 1 ∧ i = .int .i64 0) (fun _ _ => 0)
   case atStart => exact ⟨rfl, rfl⟩
   case round =>
    obtain ⟨rfl, rfl⟩ := hrel; go_wp2; go_ret; exact ⟨rfl, rfl⟩
 · obtain ⟨b, off, rfl, hcell⟩ := hc hne; clear hc hnl hne; go_enter Tryz.func196, Tryz.ntmps196; go_wp2
   go_loop [3, 8] (fun t i => ∃ k : Nat, k ≤ ls.length ∧ i = .int .i64 k ∧ t = .int .i64 ((1 + Nm.wsum (ls.take k) : Nat) : Int)) (fun _ i => ls.length - (intOf i).toNat)
   case atStart => exact ⟨0, Nat.zero_le _, rfl, rfl⟩
   case round =>
    obtain ⟨k, hk, rfl, rfl⟩ := hrel; have hw := Nm.wsum_take_le ls k
    by_cases hlt : k < ls.length
    · obtain ⟨x, hx⟩ : ∃ x, ls[k]? = some x := ⟨_, List.getElem?_eq_getElem hlt⟩; have hcx := hcell k x hx; have HS : Hid (Nm.wsum (ls.take (k + 1)) = Nm.wsum (ls.take k) + (1 + x.size)) := Nm.wsum_step hx; have hw1 : Nm.wsum (ls.take k) + (1 + x.size) ≤ Nm.wsum ls := by rw [← HS.out]; exact Nm.wsum_take_le ls (k + 1)
      clear hx hcell; go_wp2
      go_round
      case rel => exact ⟨k + 1, by omega, by go_num, by rw [HS.out]; go_num⟩
      case measure => simp [intOf]; omega
    · go_wp2; go_ret; have : k = ls.length := by omega
      subst this; rw [List.take_length]; exact ⟨rfl, rfl⟩
def wireS (ls : List ByteArray) : ByteArray := if 255 < 1 + Nm.wsum ls then ByteArray.empty else ⟨(Nm.joinL ls).toArray⟩
def wireC (ls : List ByteArray) : Int := if 255 < 1 + Nm.wsum ls then 3 else 0
theorem wireS_short {ls : List ByteArray} (h : Nm.wsum ls ≤ 254) : wireS ls = ⟨(Nm.joinL ls).toArray⟩ := if_neg (by omega)
theorem wireC_short {ls : List ByteArray} (h : Nm.wsum ls ≤ 254) : wireC ls = 0 := if_neg (by omega)
theorem byte_len (x : ByteArray) (h : x.size ≤ 255) : [Value.int .u8 (x.size : Int)] = Nm.bys [UInt8.ofNat x.size] := by
 simp [Nm.bys]; omega
set_option maxRecDepth 100000 in
set_option maxHeartbeats 800000 in
theorem wire_any (v : Value) (ls : List ByteArray) (w : World) (h : Nm.SRow w v ls) (hlen : Nm.wsum ls ≤ 1000000000) :
 Calls Tryz.prog 161 #[v] w fun e w' => e = .returned (.tuple #[.string (wireS ls), .int .i64 (wireC ls)]) ∧ Below w.heap.size w w' := by
 have hws := wireSize_any v ls w h hlen; obtain ⟨j0, hj, k0, k1, k2⟩ := info_parts Tryz.infoU8; obtain ⟨a, cap, rfl, hcap, hmx, hnl, hc⟩ := h; have hll := Nm.length_le_wsum ls
 by_cases hlong : 255 < 1 + Nm.wsum ls
 · have HS : Hid (wireS ls = ByteArray.empty) := if_pos hlong; have HC : Hid (wireC ls = 3) := if_pos hlong; have hl' : (255 : Int) < ((1 + Nm.wsum ls : Nat) : Int) := by omega
   clear hc; go_enter Tryz.func161, Tryz.ntmps161; go_wp2_with fail
   refine hws.mono ?_; rintro e w1 ⟨rfl, rfl⟩; go_wp2; go_ret2; rw [HS.out, HC.out]; exact ⟨rfl, Below.refl _ _⟩
 · have HS : Hid (wireS ls = ⟨(Nm.joinL ls).toArray⟩) := if_neg hlong; have HC : Hid (wireC ls = 0) := if_neg hlong; have hl' : ((1 + Nm.wsum ls : Nat) : Int) ≤ 255 := by omega
   go_enter Tryz.func161, Tryz.ntmps161; go_wp2_with fail
   refine hws.mono ?_; rintro e w1 ⟨rfl, rfl⟩; go_wp2_with (at_make; refine wpList_make_own _ rfl _ _ 87 rfl w1.heap.size 5 j0 (.int .u8 0) 1 Tryz.underlying87 hj k0 k1 .i64 .i64 _ (1 + Nm.wsum ls) rfl rfl rfl (by rw [k2]; omega) (by unfold maxLen; omega) (Nat.le_refl _) ?_; intro w2 hown0 hgrow0)
   go_loopw [5, 16] (fun v i wr => ∃ k : Nat, k ≤ ls.length ∧ i = .int .i64 k ∧ wr.ownsRow w1.heap.size 5 1 v (Nm.wsum (ls.take k)) (Nm.bys (Nm.preL (ls.take k))) ∧ Below w1.heap.size w1 wr)
    (fun _ i _ => ls.length - (intOf i).toNat)
   case atStart => exact ⟨0, Nat.zero_le _, rfl, hown0, (Below.refl _ w1).grown hgrow0 (Nat.le_refl _) (fun k hk => by cases hk)⟩
   case round =>
    obtain ⟨k, hk, rfl, hown, hbel⟩ := hrel; have hw := Nm.wsum_take_le ls k; have hsz := hbel.size
    by_cases hlt : k < ls.length
    · obtain ⟨x, hx⟩ : ∃ x, ls[k]? = some x := ⟨_, List.getElem?_eq_getElem hlt⟩; obtain ⟨b, off, rfl, hcell⟩ := hc (by intro h; rw [h] at hlt; simp at hlt); have hcx : wr.cell? ⟨b, off + k, none⟩ = some (.string x) := (hbel.cell (World.block_lt_of_cell? w1 _ (hcell k x hx))).trans (hcell k x hx); have HW : Hid (Nm.wsum (ls.take (k + 1)) = Nm.wsum (ls.take k) + (1 + x.size)) := Nm.wsum_step hx; have HP : Hid (Nm.preL (ls.take (k + 1)) = Nm.preL (ls.take k) ++ (UInt8.ofNat x.size :: x.data.toList)) := Nm.preL_step hx; have hw1 : Nm.wsum (ls.take k) + (1 + x.size) ≤ Nm.wsum ls := by rw [← HW.out]; exact Nm.wsum_take_le ls (k + 1)
      clear hx hcell hc hnl hws hown0 hgrow0; go_wp2_with (first | (at_builtin; refine wpList_append_own _ rfl (.tmp 20) (.tmp 24) 87 rfl w1.heap.size 5 j0 (.int .u8 0) 1 1 Tryz.underlying87 hj k0 k1 k2 rfl (by decide) _ _ _ rfl (hown.alloc _) ⟨wr.heap.size, 0, none⟩ 1 1 [.int .u8 (x.size : Int)] rfl rfl (cell_one_new _ _ _) (Nm.one_cell _ rfl) (by unfold maxLen; omega) (by omega) (by simp; omega) ?_; intro va wa hown1 hgrow1 hnl1; clear hnl1; rw [byte_len x (by omega)] at hown1; have R1 := Nm.bys_step (x := [UInt8.ofNat x.size]) (by simp; omega) (hown.alloc _) (hbel.alloc hsz _) hown1 hgrow1; clear hown1 hgrow1) | (at_builtin; refine Go.Lib.wpList_append_own_string _ rfl (.tmp 26) (.tmp 27) 87 9 rfl w1.heap.size 5 j0 Tryz.underlying87 Tryz.underlying9 hj k0 k1 k2 _ _ _ rfl R1.1 x rfl (by unfold maxLen; omega) (by omega) R1.2.size ?_; intro vb wb hown2 hgrow2 hnl2; clear hnl2; have R2 := Nm.bys_step_str R1.2.size R1.1 R1.2 hown2 hgrow2; clear hown2 hgrow2))
      go_roundw
      case rel => exact ⟨k + 1, by omega, by go_num, by rw [HW.out, HP.out]; simpa [Nat.add_assoc] using R2.1, R2.2⟩
      case measure => simp [intOf]; omega
    · have hkl : k = ls.length := by omega
      subst hkl; rw [List.take_length] at hown; clear hc hnl hws hown0 hgrow0 hw hlt; have hone : (ByteArray.mk #[0]).size = 1 := rfl; go_wp2_with (at_builtin; refine Go.Lib.wpList_append_own_string _ rfl (.tmp 30) _ 87 9 rfl w1.heap.size 5 j0 Tryz.underlying87 Tryz.underlying9 hj k0 k1 k2 _ _ _ rfl hown ⟨#[0]⟩ rfl (by unfold maxLen; omega) (by omega) hsz ?_; intro vb wb hown2 hgrow2 hnl2; clear hnl2; have R2 := Nm.bys_step_str hsz hown hbel hown2 hgrow2; clear hown2 hgrow2; obtain ⟨g, cp, rfl, hcv⟩ := Nm.conv_own (P := Tryz.prog) Tryz.underlying87 Tryz.underlying5 Tryz.underlying9 R2.1 (by omega); rw [hone] at hcv)
      go_ret2; rw [HS.out, HC.out]; exact ⟨rfl, R2.2⟩
end Go.Proofs.YtddabafaejahbaaGreatDoor
/- MakeName, as plain mathematics. -/
namespace Go.Proofs.YtddabafaejahbaaGreatDoor
open Go.RowKit
def badB (x : ByteArray) : Bool := decide (x.size < 1 ∨ 63 < x.size)
def makeS (ls : List ByteArray) : ByteArray × Int :=
 if 127 < ls.length then (ByteArray.empty, 3)
 else if ls.any badB then (ByteArray.empty, 2)
 else if 255 < 1 + Nm.wsum ls then (ByteArray.empty, 3)
 else (⟨(Nm.joinL ls).toArray⟩, 0)
theorem wsum_good : ∀ (ls : List ByteArray), ls.any badB = false → Nm.wsum ls ≤ 64 * ls.length := by
 intro ls
 induction ls with
 | nil => intro _; simp [Nm.wsum]
 | cons x r ih =>
   intro h; simp only [List.any_cons, Bool.or_eq_false_iff] at h; have h1 : ¬ (x.size < 1 ∨ 63 < x.size) := by simpa [badB] using h.1
   have := ih h.2; simp only [Nm.wsum, List.length_cons]; omega
theorem any_step {ls : List ByteArray} {k : Nat} {x : ByteArray} (h : ls[k]? = some x) (h0 : (ls.take k).any badB = false) (hg : ¬ (x.size < 1 ∨ 63 < x.size)) : (ls.take (k + 1)).any badB = false := by
 have : badB x = false := by simpa [badB] using hg
 rw [Nm.take_step h]; simp [h0, this]
theorem any_bad {ls : List ByteArray} {k : Nat} {x : ByteArray} (h : ls[k]? = some x) (hg : x.size < 1 ∨ 63 < x.size) : ls.any badB = true := by
 rw [List.any_eq_true]; exact ⟨x, List.mem_of_getElem? h, by simpa [badB] using hg⟩
theorem make_bad {ls : List ByteArray} (h : ls.length ≤ 127) (hb : ls.any badB = true) : makeS ls = (ByteArray.empty, 2) := by
 rw [makeS, if_neg (by omega), if_pos hb]
theorem make_many {ls : List ByteArray} (h : 127 < ls.length) : makeS ls = (ByteArray.empty, 3) := by rw [makeS, if_pos h]
theorem make_long {ls : List ByteArray} (h : ls.length ≤ 127) (hb : ls.any badB = false) (hl : 255 < 1 + Nm.wsum ls) : makeS ls = (ByteArray.empty, 3) := by
 rw [makeS, if_neg (by omega), if_neg (by simp [hb]), if_pos hl]
theorem make_good {ls : List ByteArray} (h : ls.length ≤ 127) (hb : ls.any badB = false) (hl : ¬ 255 < 1 + Nm.wsum ls) : makeS ls = (⟨(Nm.joinL ls).toArray⟩, 0) := by
 rw [makeS, if_neg (by omega), if_neg (by simp [hb]), if_neg hl]
theorem make_wire {ls : List ByteArray} (h : ls.length ≤ 127) (hb : ls.any badB = false) : makeS ls = (wireS ls, wireC ls) := by
 by_cases hl : 255 < 1 + Nm.wsum ls
 · rw [make_long h hb hl, wireS, wireC, if_pos hl, if_pos hl]
 · rw [make_good h hb hl, wireS, wireC, if_neg hl, if_neg hl]
end Go.Proofs.YtddabafaejahbaaGreatDoor
/- MakeName of labels that fit. -/
namespace Go.Proofs.YtddabafaejahbaaGreatDoor
open Go.RowKit
theorem wsum_two : ∀ (ls : List ByteArray), (∀ x ∈ ls, 1 ≤ x.size ∧ x.size ≤ 63) → 2 * ls.length ≤ Nm.wsum ls := by
 intro ls
 induction ls with
 | nil => intro _; simp
 | cons x r ih =>
   intro h; have h1 := h x List.mem_cons_self; have h2 := ih (fun y hy => h y (List.mem_cons_of_mem _ hy)); simp only [Nm.wsum, List.length_cons]; omega
theorem make_wire_ok {ls : List ByteArray} (h : ∀ x ∈ ls, 1 ≤ x.size ∧ x.size ≤ 63) : makeS ls = (wireS ls, wireC ls) := by
 have hb : ls.any badB = false := by
  rw [List.any_eq_false]; intro x hx; have h1 := h x hx; have h2 : badB x = false := by rw [badB, decide_eq_false]; omega
  simp [h2]
 by_cases hl : 127 < ls.length
 · have := wsum_two ls h; rw [make_many hl, wireS, wireC, if_pos (by omega), if_pos (by omega)]
 · exact make_wire (by omega) hb
end Go.Proofs.YtddabafaejahbaaGreatDoor
/- ReadName, as plain mathematics. -/
namespace Go.Proofs.YtddabafaejahbaaGreatDoor
open Go.RowKit
theorem scanF_ok : ∀ (f : Nat) (st : Bool) (rest now : List UInt8) (done : List ByteArray), (∀ x ∈ done, 1 ≤ x.size ∧ x.size ≤ 63) →
 (∀ x ∈ (Nm.scanF f st rest now done).1, 1 ≤ x.size ∧ x.size ≤ 63) ∧ (Nm.scanF f st rest now done).1.length ≤ done.length + rest.length + 1 := by
 intro f
 induction f with
 | zero => intro st rest now done _; simp [Nm.scanF]
 | succ f ih =>
   intro st rest now done hd
   have snoc : Nm.fitsB now.length = true → ∀ x ∈ done ++ [(⟨now.toArray⟩ : ByteArray)], 1 ≤ x.size ∧ x.size ≤ 63 := by
    intro hf x hx
    rcases List.mem_append.1 hx with h | h
    · exact hd x h
    · simp at h; subst h; have hsz : (ByteArray.mk now.toArray).size = now.length := by show now.toArray.size = _; simp
      rw [hsz]; simp [Nm.fitsB] at hf
      omega
   cases rest with
   | nil =>
     rw [Nm.scanF]; split
     · exact ⟨hd, by simp⟩
     · split
       · rename_i h; exact ⟨snoc h, by simp⟩
       · simp
   | cons c r =>
     rw [Nm.scanF]; split
     · split
       · rename_i h; have := ih true r [] _ (snoc h); refine ⟨this.1, ?_⟩; have h2 := this.2; simp only [List.length_append, List.length_cons, List.length_nil] at h2 ⊢; omega
       · simp
     · split
       · cases he : Nm.escF r with
         | none => simp
         | some bn =>
           obtain ⟨b, n⟩ := bn; have := ih false (r.drop n) (now ++ [b]) done hd; refine ⟨this.1, ?_⟩; have h2 := this.2; simp only [List.length_drop, List.length_cons] at h2 ⊢; omega
       · have := ih false r (now ++ [c]) done hd; refine ⟨this.1, ?_⟩; have h2 := this.2; simp only [List.length_cons] at h2 ⊢; omega
theorem scanS_ok (s : ByteArray) : (∀ x ∈ (Nm.scanS s).1, 1 ≤ x.size ∧ x.size ≤ 63) ∧ (Nm.scanS s).1.length ≤ s.size + 1 := by
 have := scanF_ok (s.size + 1) false s.data.toList [] [] (by simp); refine ⟨this.1, ?_⟩; have h := this.2; simpa [Nm.scanS] using h
theorem wsum_le64 : ∀ (ls : List ByteArray), (∀ x ∈ ls, 1 ≤ x.size ∧ x.size ≤ 63) → Nm.wsum ls ≤ 64 * ls.length := by
 intro ls
 induction ls with
 | nil => intro _; simp [Nm.wsum]
 | cons x r ih =>
   intro h; have h1 := h x List.mem_cons_self; have h2 := ih (fun y hy => h y (List.mem_cons_of_mem _ hy)); simp only [Nm.wsum, List.length_cons]; omega
def readS (t o : ByteArray) : ByteArray × Int :=
 if o.size ≠ 0 ∧ Nm.split o = none then (ByteArray.empty, 32)
 else if 1100 < t.size then (ByteArray.empty, 3)
 else if t.size = 0 then (ByteArray.empty, 1)
 else if (t.toList == [64]) = true then (if o.size = 0 then (ByteArray.empty, 5) else (o, 0))
 else if (t.toList == [46]) = true then (⟨#[0]⟩, 0)
 else if (Nm.scanS t).2.2 ≠ 0 then (ByteArray.empty, (Nm.scanS t).2.2)
 else if (Nm.scanS t).2.1 = true then makeS (Nm.scanS t).1
 else if o.size = 0 then (ByteArray.empty, 5)
 else makeS ((Nm.scanS t).1 ++ (Nm.split o).getD [])
section
variable {t o : ByteArray}
theorem read_form (h : o.size ≠ 0 ∧ Nm.split o = none) : readS t o = (ByteArray.empty, 32) := by rw [readS, if_pos h]
theorem read_long (h : ¬ (o.size ≠ 0 ∧ Nm.split o = none)) (h1 : 1100 < t.size) : readS t o = (ByteArray.empty, 3) := by rw [readS, if_neg h, if_pos h1]
theorem read_empty (h : ¬ (o.size ≠ 0 ∧ Nm.split o = none)) (h1 : t.size = 0) : readS t o = (ByteArray.empty, 1) := by
 rw [readS, if_neg h, if_neg (by omega), if_pos h1]
theorem read_at (h : ¬ (o.size ≠ 0 ∧ Nm.split o = none)) (h1 : t.size ≤ 1100) (h2 : 0 < t.size) (h3 : (t.toList == [64]) = true) : readS t o = if o.size = 0 then (ByteArray.empty, 5) else (o, 0) := by
 rw [readS, if_neg h, if_neg (by omega), if_neg (by omega), if_pos h3]
theorem read_dot (h : ¬ (o.size ≠ 0 ∧ Nm.split o = none)) (h1 : t.size ≤ 1100) (h2 : 0 < t.size) (h3 : (t.toList == [64]) = false) (h4 : (t.toList == [46]) = true) : readS t o = (⟨#[0]⟩, 0) := by
 rw [readS, if_neg h, if_neg (by omega), if_neg (by omega), if_neg (by simp [h3]), if_pos h4]
theorem read_scan (h : ¬ (o.size ≠ 0 ∧ Nm.split o = none)) (h1 : t.size ≤ 1100) (h2 : 0 < t.size) (h3 : (t.toList == [64]) = false) (h4 : (t.toList == [46]) = false) :
 readS t o = if (Nm.scanS t).2.2 ≠ 0 then (ByteArray.empty, (Nm.scanS t).2.2)
  else if (Nm.scanS t).2.1 = true then makeS (Nm.scanS t).1
  else if o.size = 0 then (ByteArray.empty, 5)
  else makeS ((Nm.scanS t).1 ++ (Nm.split o).getD []) := by
 rw [readS, if_neg h, if_neg (by omega), if_neg (by omega), if_neg (by simp [h3]), if_neg (by simp [h4])]
end
/-- A name's labels make the name again. -/
theorem make_split {o : ByteArray} {zs : List ByteArray} (h : Nm.split o = some zs) : makeS zs = (o, 0) := by
 obtain ⟨h1, h2⟩ := Nm.split_join h; have h3 := Nm.split_size h; rw [make_wire_ok h2, wireS_short (by omega), wireC_short (by omega)]; congr 1; apply Nm.ba_ext; simp [h1]
end Go.Proofs.YtddabafaejahbaaGreatDoor
/- spec.l01Digit by its contract. -/
namespace Go.Proofs.YtddabafaejahbaaGreatDoor
open Go.RowKit
set_option maxRecDepth 100000 in
set_option maxHeartbeats 400000 in
theorem l01Digit_any (c : UInt8) (w : World) :
 Calls Tryz.prog 79 #[.int .u8 c.toNat] w fun e w' => e = .returned (.bool (Nm.digB c)) ∧ w' = w := by
 by_cases h1 : 48 ≤ c.toNat
 · have d1 : decide ((48 : Int) ≤ (c.toNat : Int)) = true := by simp; omega
   have HE : Hid (Nm.digB c = decide ((c.toNat : Int) ≤ 57)) := by
    show _ = _
    rw [Nm.digB, decide_eq_true h1, Bool.true_and, Bool.eq_iff_iff]
    simp; omega
   go_enter Tryz.func79, Tryz.ntmps79; go_wp2; go_ret; rw [HE.out]; exact ⟨rfl, rfl⟩
 · have d1 : decide ((48 : Int) ≤ (c.toNat : Int)) = false := by simp; omega
   have HE : Hid (Nm.digB c = false) := by
    show _ = _
    rw [Nm.digB, decide_eq_false h1]; rfl
   go_enter Tryz.func79, Tryz.ntmps79; go_wp2; go_ret; rw [HE.out]; exact ⟨rfl, rfl⟩
end Go.Proofs.YtddabafaejahbaaGreatDoor
/- spec.l03Number by its contract. -/
namespace Go.Proofs.YtddabafaejahbaaGreatDoor
open Go.RowKit
/-- A number and whether there is one, as Go tells them. -/
def numV (o : Option Nat) : Value := .tuple #[.int .i64 ((o.getD 0 : Nat) : Int), .bool o.isSome]
theorem numD_take {s : ByteArray} {k : Nat} (hk : k ≤ s.size) (h : ∀ j, j < k → (hj : j < s.size) → Nm.digB s[j] = true) : numD (s.data.toList.take k) < 10 ^ k := by
 have h1 := numD_lt (s.data.toList.take k) (by
  intro c hc; obtain ⟨i, hi⟩ := List.getElem?_of_mem hc; rw [List.getElem?_take] at hi
  split at hi
  · rename_i hik; have hl : i < s.size := by omega
    rw [Nm.get_data hl] at hi; simp at hi; rw [← hi]; exact h i hik hl
  · cases hi)
 have hz : (s.data.toList.take k).length = k := by simp; omega
 rwa [hz] at h1
set_option maxRecDepth 100000 in
set_option maxHeartbeats 800000 in
theorem l03Number_any (s : ByteArray) (most : Nat) (w : World) (hm : most ≤ 17) :
 Calls Tryz.prog 37 #[.string s, .int .i64 (most : Int)] w fun e w' => e = .returned (numV (numO s most)) ∧ w' = w := by
 by_cases h1 : s.size < 1
 · have HN : Hid (numV (numO s most) = .tuple #[.int .i64 0, .bool false]) := by show _ = _; rw [numO_len (by omega)]; rfl
   have h1' : (s.size : Int) < 1 := by omega
   go_enter Tryz.func37, Tryz.ntmps37; go_wp2; go_ret2; rw [HN.out]; exact ⟨rfl, rfl⟩
 have h1' : (1 : Int) ≤ (s.size : Int) := by omega
 by_cases h2 : most < s.size
 · have HN : Hid (numV (numO s most) = .tuple #[.int .i64 0, .bool false]) := by show _ = _; rw [numO_len (by omega)]; rfl
   have h2' : (most : Int) < (s.size : Int) := by omega
   go_enter Tryz.func37, Tryz.ntmps37; go_wp2; go_ret2; rw [HN.out]; exact ⟨rfl, rfl⟩
 have h2' : (s.size : Int) ≤ (most : Int) := by omega
 go_enter Tryz.func37, Tryz.ntmps37; go_wp2
 go_loop [6, 7] (fun u v => ∃ k : Nat, k ≤ s.size ∧ v = .int .i64 k ∧ u = .int .i64 ((numD (s.data.toList.take k) : Nat) : Int) ∧ ∀ j, j < k → (hj : j < s.size) → Nm.digB s[j] = true) (fun _ v => s.size - (intOf v).toNat)
 case atStart => exact ⟨0, Nat.zero_le _, rfl, rfl, fun j h => by omega⟩
 case round =>
  obtain ⟨k, hk, rfl, rfl, hd⟩ := hrel
  by_cases hlt : k < s.size
  · have hlt' : (k : Int) < (s.size : Int) := by omega
    have hdig := l01Digit_any s[k]; have hlim := numD_take hk hd; have hp17 : 10 ^ k ≤ 10 ^ 17 := Nat.pow_le_pow_right (by decide) (by omega); have hp : (10 : Nat) ^ 17 = 100000000000000000 := by decide
    have hb : numD (s.data.toList.take k) < 100000000000000000 := by omega
    clear hlim hp17 hp
    cases hD : Nm.digB s[k] with
    | false =>
      have HN : Hid (numV (numO s most) = .tuple #[.int .i64 0, .bool false]) := by show _ = _; rw [numO_bad hlt hD]; rfl
      rw [hD] at hdig; clear hD hd; generalize numD (s.data.toList.take k) = m at *; go_wp2_with (go_at_call 79; refine (hdig _).mono ?_; rintro e w1 ⟨rfl, hw⟩; obtain rfl : w = w1 := hw.symm; clear hw)
      go_ret2; rw [HN.out]
      exact ⟨rfl, rfl⟩
    | true =>
      have hc : 48 ≤ s[k].toNat ∧ s[k].toNat ≤ 57 := by simp [Nm.digB] at hD; omega
      have hc1 : (48 : Int) ≤ (s[k].toNat : Int) := by omega
      have hc2 : (s[k].toNat : Int) ≤ 57 := by omega
      have e1 : s.data.toList.take (k + 1) = s.data.toList.take k ++ [s[k]] := Nm.take_step (Nm.get_data hlt); have e2 := numD_snoc (s.data.toList.take k) s[k]; rw [← e1] at e2
      have HD : Hid (∀ j, j < k + 1 → (hj : j < s.size) → Nm.digB s[j] = true) := by
       show ∀ j, _
       intro j hj hjs
       by_cases e : j = k
       · subst e; exact hD
       · exact hd j (by omega) hjs
      have HV : Hid (((numD (s.data.toList.take (k + 1)) : Nat) : Int) = (numD (s.data.toList.take k) : Int) * 10 + ((s[k].toNat : Int) - 48)) := by
       show _ = _
       rw [e2]; omega
      rw [hD] at hdig; clear hD hd e1 e2; generalize numD (s.data.toList.take k) = m at *; go_wp2_with (go_at_call 79; refine (hdig _).mono ?_; rintro e w1 ⟨rfl, hw⟩; obtain rfl : w = w1 := hw.symm; clear hw)
      go_round
      case rel => exact ⟨k + 1, by omega, by go_num, by rw [HV.out], HD.out⟩
      case measure => simp [intOf]; omega
  · have hlt' : (s.size : Int) ≤ (k : Int) := by omega
    have hks : k = s.size := by omega
    have HN : Hid (numV (numO s most) = .tuple #[.int .i64 ((numD (s.data.toList.take k) : Nat) : Int), .bool true]) := by
     show _ = _
     rw [numO_good (by omega) (by omega) (fun j hj => hd j (by omega) hj), hks, List.take_of_length_le (by simp)]; rfl
    clear hd; generalize numD (s.data.toList.take k) = m at *; go_wp2; go_ret2; rw [HN.out]; exact ⟨rfl, rfl⟩
end Go.Proofs.YtddabafaejahbaaGreatDoor
/- spec.l03Unit, l03Mnemonic, l03Hex, l03Script by their contracts. -/
namespace Go.Proofs.YtddabafaejahbaaGreatDoor
open Go.RowKit
def unitS (c : UInt8) : Int :=
 if c.toNat = 115 ∨ c.toNat = 83 then 1 else if c.toNat = 109 ∨ c.toNat = 77 then 60 else if c.toNat = 104 ∨ c.toNat = 72 then 3600
 else if c.toNat = 100 ∨ c.toNat = 68 then 86400 else if c.toNat = 119 ∨ c.toNat = 87 then 604800 else 0
set_option maxRecDepth 100000 in
set_option maxHeartbeats 1600000 in
theorem l03Unit_any (c : UInt8) (w : World) :
 Calls Tryz.prog 87 #[.int .u8 c.toNat] w fun e w' => e = .returned (.int .i64 (unitS c)) ∧ w' = w := by
 have HU : ∀ z, unitS c = z → Hid (unitS c = z) := fun _ h => h
 by_cases h : c.toNat = 115 ∨ c.toNat = 83 ∨ c.toNat = 109 ∨ c.toNat = 77 ∨ c.toNat = 104 ∨ c.toNat = 72 ∨ c.toNat = 100 ∨ c.toNat = 68 ∨ c.toNat = 119 ∨ c.toNat = 87
 · rcases h with h | h | h | h | h | h | h | h | h | h
   all_goals
    have HE : ∃ z, Hid (unitS c = z) ∧ z = unitS c := ⟨_, rfl, rfl⟩; simp only [unitS, h]; go_enter Tryz.func87, Tryz.ntmps87; go_wp2; go_ret; exact ⟨rfl, rfl⟩
 · have HA : Hid (unitS c = 0) := by
    show _ = _
    unfold unitS; rw [if_neg (by omega), if_neg (by omega), if_neg (by omega), if_neg (by omega), if_neg (by omega)]
   have b1 : ((c.toNat : Int) == 115) = false := by rw [beq_eq_false_iff_ne]; omega
   have b2 : ((c.toNat : Int) == 83) = false := by rw [beq_eq_false_iff_ne]; omega
   have b3 : ((c.toNat : Int) == 109) = false := by rw [beq_eq_false_iff_ne]; omega
   have b4 : ((c.toNat : Int) == 77) = false := by rw [beq_eq_false_iff_ne]; omega
   have b5 : ((c.toNat : Int) == 104) = false := by rw [beq_eq_false_iff_ne]; omega
   have b6 : ((c.toNat : Int) == 72) = false := by rw [beq_eq_false_iff_ne]; omega
   have b7 : ((c.toNat : Int) == 100) = false := by rw [beq_eq_false_iff_ne]; omega
   have b8' : ((c.toNat : Int) == 68) = false := by rw [beq_eq_false_iff_ne]; omega
   have b9 : ((c.toNat : Int) == 119) = false := by rw [beq_eq_false_iff_ne]; omega
   have b10 : ((c.toNat : Int) == 87) = false := by rw [beq_eq_false_iff_ne]; omega
   clear h HU; go_enter Tryz.func87, Tryz.ntmps87; go_wp2; go_ret; rw [HA.out]; exact ⟨rfl, rfl⟩
end Go.Proofs.YtddabafaejahbaaGreatDoor
