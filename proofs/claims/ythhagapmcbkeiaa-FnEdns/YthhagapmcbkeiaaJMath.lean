import Derived.WalkKit
import Derived.Test.YthhagapmcbkeiaaRows
import Derived.WalkSpells
import Derived.WalkLawsBesides
import Derived.Lib.AppendStr
import Derived.Laws.IdiomStrings
import Derived.Laws.OwnMore
import Derived.RegionTactic
import Derived.BigRegion
import Derived.Deep.OwnRows
import Derived.OpenShut
import Derived.Maps.AppendAt
/- Names, as plain mathematics: the labels of a name in wire form. -/
namespace Go.Proofs.Ythhagapmcbkeiaa.Nm

def splitF : Nat → ByteArray → Option (List ByteArray)
  | 0, _ => none
  | f + 1, r =>
    if h : 0 < r.size then
      if r[0].toNat = 0 then (if r.size = 1 then some [] else none)
      else if 63 < r[0].toNat ∨ r.size < r[0].toNat + 1 then none
      else (splitF f (r.extract (r[0].toNat + 1) r.size)).map (fun ls => r.extract 1 (r[0].toNat + 1) :: ls)
    else none

def split (s : ByteArray) : Option (List ByteArray) := if s.size ≤ 255 then splitF 256 s else none

theorem splitF_empty (f : Nat) (r : ByteArray) (h : r.size = 0) : splitF f r = none := by
  cases f with
  | zero => rfl
  | succ f => rw [splitF, dif_neg (by omega)]

theorem splitF_end (f : Nat) (r : ByteArray) (h : 0 < r.size) (h0 : r[0].toNat = 0) (h1 : r.size = 1) : splitF (f + 1) r = some [] := by
  rw [splitF, dif_pos h, if_pos h0, if_pos h1]

theorem splitF_zero (f : Nat) (r : ByteArray) (h : 0 < r.size) (h0 : r[0].toNat = 0) (h1 : r.size ≠ 1) : splitF (f + 1) r = none := by
  rw [splitF, dif_pos h, if_pos h0, if_neg h1]

theorem splitF_bad (f : Nat) (r : ByteArray) (h : 0 < r.size) (h0 : r[0].toNat ≠ 0) (h1 : 63 < r[0].toNat ∨ r.size < r[0].toNat + 1) : splitF (f + 1) r = none := by
  rw [splitF, dif_pos h, if_neg h0, if_pos h1]

theorem splitF_step (f : Nat) (r : ByteArray) (h : 0 < r.size) (h0 : r[0].toNat ≠ 0) (h1 : r[0].toNat ≤ 63) (h2 : r[0].toNat + 1 ≤ r.size) :
    splitF (f + 1) r = (splitF f (r.extract (r[0].toNat + 1) r.size)).map (fun ls => r.extract 1 (r[0].toNat + 1) :: ls) := by
  rw [splitF, dif_pos h, if_neg h0, if_neg (by omega)]

theorem split_long (s : ByteArray) (h : 255 < s.size) : split s = none := by rw [split, if_neg (by omega)]
theorem split_short (s : ByteArray) (h : s.size ≤ 255) : split s = splitF 256 s := by rw [split, if_pos h]

/-- Where the reading stands: 'ls' are the labels that were cut off, 'r' is the rest. -/
def At (s : ByteArray) (ls : List ByteArray) (r : ByteArray) : Prop :=
  ∃ f, r.size < f ∧ split s = (splitF f r).map (fun t => ls ++ t)

theorem at_start (s : ByteArray) (h : s.size ≤ 255) : At s [] s := ⟨256, by omega, by rw [split_short s h]; simp⟩

theorem at_empty {s r : ByteArray} {ls : List ByteArray} (h : At s ls r) (h0 : r.size = 0) : split s = none := by
  obtain ⟨f, _, e⟩ := h; rw [e, splitF_empty f r h0]; rfl

theorem at_end {s r : ByteArray} {ls : List ByteArray} (h : At s ls r) (hp : 0 < r.size) (h0 : r[0].toNat = 0) (h1 : r.size = 1) : split s = some ls := by
  obtain ⟨f, hf, e⟩ := h
  obtain ⟨g, rfl⟩ : ∃ g, f = g + 1 := ⟨f - 1, by omega⟩
  rw [e, splitF_end g r hp h0 h1]; simp

theorem at_zero {s r : ByteArray} {ls : List ByteArray} (h : At s ls r) (hp : 0 < r.size) (h0 : r[0].toNat = 0) (h1 : r.size ≠ 1) : split s = none := by
  obtain ⟨f, hf, e⟩ := h
  obtain ⟨g, rfl⟩ : ∃ g, f = g + 1 := ⟨f - 1, by omega⟩
  rw [e, splitF_zero g r hp h0 h1]; rfl

theorem at_bad {s r : ByteArray} {ls : List ByteArray} (h : At s ls r) (hp : 0 < r.size) (h0 : r[0].toNat ≠ 0) (h1 : 63 < r[0].toNat ∨ r.size < r[0].toNat + 1) : split s = none := by
  obtain ⟨f, hf, e⟩ := h
  obtain ⟨g, rfl⟩ : ∃ g, f = g + 1 := ⟨f - 1, by omega⟩
  rw [e, splitF_bad g r hp h0 h1]; rfl

theorem at_step {s r : ByteArray} {ls : List ByteArray} (h : At s ls r) (hp : 0 < r.size) (h0 : r[0].toNat ≠ 0) (h1 : r[0].toNat ≤ 63) (h2 : r[0].toNat + 1 ≤ r.size) :
    At s (ls ++ [r.extract 1 (r[0].toNat + 1)]) (r.extract (r[0].toNat + 1) r.size) := by
  obtain ⟨f, hf, e⟩ := h
  obtain ⟨g, rfl⟩ : ∃ g, f = g + 1 := ⟨f - 1, by omega⟩
  refine ⟨g, by simp; omega, ?_⟩
  rw [e, splitF_step g r hp h0 h1 h2, Option.map_map]
  congr 1; funext t; simp

theorem tl_len (r : ByteArray) : r.toList.length = r.size := by rw [ByteArray.toList_eq]; simp

theorem tl_one {r : ByteArray} (h : 0 < r.size) (h1 : r.size = 1) (h0 : r[0].toNat = 0) : (r.toList == [0]) = true := by
  rw [beq_iff_eq, ByteArray.toList_eq]
  refine List.ext_getElem (by simpa using h1) ?_
  intro i hi hj
  have : i = 0 := by simpa using hj
  subst this
  have e : r.data.toList[0] = r[0] := rfl
  rw [e]
  exact UInt8.toNat_inj.1 (by simpa using h0)

theorem tl_not_one {r : ByteArray} (h : 0 < r.size) (h1 : ¬ (r.size = 1 ∧ r[0].toNat = 0)) : (r.toList == [0]) = false := by
  rw [beq_eq_false_iff_ne]
  intro e
  rw [ByteArray.toList_eq] at e
  apply h1
  refine ⟨by have := congrArg List.length e; simpa using this, ?_⟩
  have g : r.data.toList[0]? = some 0 := by rw [e]; rfl
  have g2 : r.data.toList[0]? = some r[0] := List.getElem?_eq_getElem (by simpa using h)
  rw [g2] at g
  have g3 : r[0] = 0 := by simpa using g
  rw [g3]; rfl

theorem tl_not_one_empty {r : ByteArray} (h : r.size = 0) : (r.toList == [0]) = false := by
  rw [beq_eq_false_iff_ne]
  intro e
  have := congrArg List.length e
  rw [tl_len] at this
  simp at this; omega

theorem tl_empty {r : ByteArray} (h : r.size = 0) : r.toList.isEmpty = true := by
  rw [List.isEmpty_iff, ← List.length_eq_zero_iff, tl_len]; exact h

theorem tl_not_empty {r : ByteArray} (h : 0 < r.size) : r.toList.isEmpty = false := by
  rw [Bool.eq_false_iff]
  intro e
  rw [List.isEmpty_iff, ← List.length_eq_zero_iff, tl_len] at e; omega

theorem one_cell (x : Value) (h : x.oneCell' = true) : ∀ u : Value, u ∈ [x] → u.oneCell' = true := by
  intro u hu; simp at hu; subst hu; exact h

end Go.Proofs.Ythhagapmcbkeiaa.Nm
/- A row of strings of the call's own. -/
namespace Go.Proofs.Ythhagapmcbkeiaa
open Go.RowKit

theorem Try.infoStr : (Try.prog.info? 9).map (fun i => (i.zero, i.size, i.bytes)) = some (some (.string ByteArray.empty), 1, 16) := by kernel_rfl

theorem own_step {W wr w1 : World} {v v' : Value} {B e : Nat} {ls : List ByteArray} {x : ByteArray} (hB : B ≤ wr.heap.size)
    (hown : wr.ownsRow B e 1 v ls.length (ls.map Value.string)) (hbel : Below B W wr) (o : Obj)
    (hown' : w1.ownsRow B e 1 v' (ls.length + 1) (ls.map Value.string ++ [.string x])) (hgrow : (wr.alloc o).grownBy w1 v.ownBlock) :
    w1.ownsRow B e 1 v' (ls ++ [x]).length ((ls ++ [x]).map Value.string) ∧ Below B W w1 := by
  refine ⟨by simpa using hown', ?_⟩
  refine (hbel.alloc hB o).grown hgrow (by simp; omega) ?_
  intro k hk
  exact (hown.lt k hk).1

theorem cell_new1 (w : World) (x : Value) (e : Nat) : ∀ (j : Nat) (u : Value), [x][j]? = some u → (w.alloc (.cells #[x] e)).cell? ((⟨w.heap.size, 0, none⟩ : Addr).add j) = some u := by
  intro j u hj
  match j, hj with
  | 0, hj => simp at hj; subst hj; simp [Addr.add]

theorem own_below {w w' : World} {B e s n : Nat} {v : Value} {xs : List Value} (h : w.ownsRow B e s v n xs) (hb : Below w.heap.size w w') : w'.ownsRow B e s v n xs :=
  h.kept (row := none) ⟨hb.os, hb.tape, hb.output, hb.size, fun k hk _ => hb.block k hk⟩ (by cases v.ownBlock <;> simp)

theorem own_base {w : World} {B B' e s n : Nat} {v : Value} {xs : List Value} (h : w.ownsRow B e s v n xs) (hb : B' ≤ B) : w.ownsRow B' e s v n xs := by
  refine ⟨h.1, ?_⟩
  rcases h.2 with hn | ⟨g, cap, cur, hv, hbg, rest⟩
  · exact .inl hn
  · exact .inr ⟨g, cap, cur, hv, Nat.le_trans hb hbg, rest⟩
end Go.Proofs.Ythhagapmcbkeiaa
/- Lists of labels: as plain mathematics, and as they lie in memory. -/
namespace Go.Proofs.Ythhagapmcbkeiaa.Nm
open Go.RowKit

def wsum : List ByteArray → Nat
  | [] => 0
  | l :: r => (1 + l.size) + wsum r

def preL : List ByteArray → List UInt8
  | [] => []
  | l :: r => (UInt8.ofNat l.size :: l.data.toList) ++ preL r

def joinL (ls : List ByteArray) : List UInt8 := preL ls ++ [0]

theorem hide {p : Prop} (h : p) : Hid p := h

theorem wsum_append (a b : List ByteArray) : wsum (a ++ b) = wsum a + wsum b := by
  induction a with
  | nil => simp [wsum]
  | cons x a ih => simp only [List.cons_append, wsum, ih]; omega

theorem preL_append (a b : List ByteArray) : preL (a ++ b) = preL a ++ preL b := by
  induction a with
  | nil => simp [preL]
  | cons x a ih => simp [preL, ih]

theorem preL_length (ls : List ByteArray) : (preL ls).length = wsum ls := by
  induction ls with
  | nil => rfl
  | cons x a ih => simp only [preL, wsum, List.length_append, List.length_cons, ih, Array.length_toList, ByteArray.size_data]; omega

theorem joinL_length (ls : List ByteArray) : (joinL ls).length = wsum ls + 1 := by simp [joinL, preL_length]

theorem length_le_wsum (ls : List ByteArray) : ls.length ≤ wsum ls := by
  induction ls with
  | nil => simp
  | cons x a ih => simp only [wsum, List.length_cons]; omega

theorem take_step {α : Type} {ls : List α} {k : Nat} {x : α} (h : ls[k]? = some x) : ls.take (k + 1) = ls.take k ++ [x] := by
  obtain ⟨hk, e⟩ := List.getElem?_eq_some_iff.1 h
  rw [List.take_succ_eq_append_getElem hk, e]

theorem wsum_step {ls : List ByteArray} {k : Nat} {x : ByteArray} (h : ls[k]? = some x) : wsum (ls.take (k + 1)) = wsum (ls.take k) + (1 + x.size) := by
  rw [take_step h, wsum_append]; simp [wsum]

theorem preL_step {ls : List ByteArray} {k : Nat} {x : ByteArray} (h : ls[k]? = some x) : preL (ls.take (k + 1)) = preL (ls.take k) ++ (UInt8.ofNat x.size :: x.data.toList) := by
  rw [take_step h, preL_append]; simp [preL]

theorem wsum_take_le (ls : List ByteArray) (k : Nat) : wsum (ls.take k) ≤ wsum ls := by
  have e := wsum_append (ls.take k) (ls.drop k)
  rw [List.take_append_drop] at e; omega

/-- Bytes as cells. -/
def bys (l : List UInt8) : List Value := l.map fun b => Value.int .u8 b.toNat

theorem bys_append (a b : List UInt8) : bys (a ++ b) = bys a ++ bys b := by simp [bys]
theorem bys_length (a : List UInt8) : (bys a).length = a.length := by simp [bys]
theorem bys_str (s : ByteArray) : Go.Lib.strCells s = bys s.data.toList := rfl

/-- The labels 'ls' lie where the slice 'v' leads, and may be read. -/
def SRow (w : World) (v : Value) (ls : List ByteArray) : Prop :=
  ∃ a cap, v = .slice a ls.length cap ∧ ls.length ≤ cap ∧ cap ≤ maxLen ∧ (a = none → cap = 0) ∧
    (ls ≠ [] → ∃ b off, a = some ⟨b, off, none⟩ ∧ ∀ i x, ls[i]? = some x → w.cell? ⟨b, off + i, none⟩ = some (.string x))

theorem SRow.of_owns {w : World} {B e : Nat} {v : Value} {ls : List ByteArray} (h : w.ownsRow B e 1 v ls.length (ls.map Value.string)) : SRow w v ls := by
  rcases h.2 with ⟨rfl, h0⟩ | ⟨g, cap, cur, rfl, hb, hg, hn, hm, hs, ht⟩
  · have : ls = [] := List.length_eq_zero_iff.1 h0
    subst this
    exact ⟨none, 0, rfl, by simp, by decide, fun _ => rfl, fun h => absurd rfl h⟩
  · refine ⟨_, cap, rfl, hn, hm, (fun h => by cases h), fun _ => ⟨g, 0, rfl, ?_⟩⟩
    intro i x hx
    obtain ⟨hi, e⟩ := List.getElem?_eq_some_iff.1 hx
    rw [Nat.zero_add, h.cellAt i (by omega)]
    simp [hx]

theorem SRow.below {w w' : World} {v : Value} {ls : List ByteArray} (h : SRow w v ls) (hb : Below w.heap.size w w') : SRow w' v ls := by
  obtain ⟨a, cap, rfl, h1, h2, h2', h3⟩ := h
  refine ⟨a, cap, rfl, h1, h2, h2', fun hne => ?_⟩
  obtain ⟨b, off, rfl, hc⟩ := h3 hne
  refine ⟨b, off, rfl, fun i x hx => ?_⟩
  have := hc i x hx
  rw [hb.cell (World.block_lt_of_cell? w _ this)]
  exact this

theorem below_two {w w1 w2 : World} (h1 : Below w.heap.size w w1) (h2 : Below w1.heap.size w1 w2) : Below w.heap.size w w2 :=
  h1.trans (h2.mono h1.size)

/-- What one append of bytes onto a row of the call's own leaves. -/
theorem bys_step {W wr w1 : World} {v v' : Value} {B e n m : Nat} {l x : List UInt8} (hB : B ≤ wr.heap.size)
    (hown : wr.ownsRow B e 1 v n (bys l)) (hbel : Below B W wr)
    (hown' : w1.ownsRow B e 1 v' (n + m) (bys l ++ bys x)) (hgrow : wr.grownBy w1 v.ownBlock) :
    w1.ownsRow B e 1 v' (n + m) (bys (l ++ x)) ∧ Below B W w1 := by
  refine ⟨by rw [bys_append]; exact hown', ?_⟩
  exact hbel.grown hgrow hB (fun k hk => (hown.lt k hk).1)

theorem bys_step_str {W wr w1 : World} {v v' : Value} {B e n : Nat} {l : List UInt8} {x : ByteArray} (hB : B ≤ wr.heap.size)
    (hown : wr.ownsRow B e 1 v n (bys l)) (hbel : Below B W wr)
    (hown' : w1.ownsRow B e 1 v' (n + x.size) (bys l ++ Go.Lib.strCells x)) (hgrow : wr.grownBy w1 v.ownBlock) :
    w1.ownsRow B e 1 v' (n + x.size) (bys (l ++ x.data.toList)) ∧ Below B W w1 :=
  bys_step hB hown hbel hown' hgrow

theorem conv_own {P : Program} {w : World} {B e src dst n : Nat} {v : Value} {l : List UInt8} (hs : P.underlying src = some (.slice e)) (he : P.underlying e = some (.int .u8)) (hd : P.underlying dst = some .string)
    (h : w.ownsRow B e 1 v n (bys l)) (hp : 0 < n) :
    ∃ g cap, v = .slice (some ⟨g, 0, none⟩) n cap ∧ (convert src dst (.slice (some ⟨g, 0, none⟩) n cap)).run P w = .ok (.string ⟨l.toArray⟩) w := by
  have hn : n = l.length := by have := h.1; rw [bys_length] at this; omega
  subst hn
  rcases h.2 with ⟨rfl, h0⟩ | ⟨g, cap, cur, rfl, hb, hg, hnc, hm, hcs, ht⟩
  · omega
  · refine ⟨g, cap, rfl, run_convert_bytes_back w src dst e ⟨g, 0, none⟩ cap l hs he hd ?_⟩
    intro j hj
    exact h.cells (g := g) rfl j _ (by simp [bys, hj])

theorem addr_add (b off k : Nat) : (⟨b, off, none⟩ : Addr).add k = ⟨b, off + k, none⟩ := by
  unfold Addr.add; split <;> simp_all

theorem SRow.drop_all {w : World} {a : Option Addr} {ls : List ByteArray} {cap k : Nat} (h : SRow w (.slice a ls.length cap) ls) (hk : cap = k) : SRow w (.slice a (ls.length - k) 0) (ls.drop k) := by
  obtain ⟨a', cap', e, h1, h2, h3, h4⟩ := h
  simp only [Value.slice.injEq] at e
  obtain ⟨rfl, _, rfl⟩ := e
  have hd : ls.drop k = [] := List.drop_eq_nil_of_le (by omega)
  rw [hd]
  exact ⟨a, 0, by simp; omega, by simp, by decide, fun _ => rfl, fun h => absurd rfl h⟩

theorem SRow.drop {w : World} {a : Option Addr} {ls : List ByteArray} {cap k : Nat} (h : SRow w (.slice a ls.length cap) ls) (hk : k ≤ ls.length) :
    SRow w (.slice (a.map (fun x => x.add k)) (ls.length - k) (cap - k)) (ls.drop k) := by
  obtain ⟨a', cap', e, h1, h2, h3, h4⟩ := h
  simp only [Value.slice.injEq] at e
  obtain ⟨rfl, _, rfl⟩ := e
  refine ⟨_, _, by rw [List.length_drop], by rw [List.length_drop]; omega, by omega, ?_, ?_⟩
  · intro h; simp at h; have := h3 h; omega
  · intro hne
    obtain ⟨b, off, rfl, hc⟩ := h4 (by intro h; rw [h] at hne; simp at hne)
    refine ⟨b, off + k, by simp [addr_add], ?_⟩
    intro i x hx
    rw [List.getElem?_drop] at hx
    rw [Nat.add_assoc]
    exact hc _ _ hx

theorem wsum_drop_le (ls : List ByteArray) (k : Nat) : wsum (ls.drop k) ≤ wsum ls := by
  have e := wsum_append (ls.take k) (ls.drop k)
  rw [List.take_append_drop] at e; omega

theorem splitF_size : ∀ (f : Nat) (r : ByteArray) (ls : List ByteArray), splitF f r = some ls → wsum ls + 1 = r.size := by
  intro f
  induction f with
  | zero => intro r ls h; simp [splitF] at h
  | succ f ih =>
    intro r ls h
    by_cases hp : 0 < r.size
    · by_cases h0 : r[0].toNat = 0
      · by_cases h1 : r.size = 1
        · rw [splitF_end f r hp h0 h1] at h
          simp at h; subst h; simp [wsum]; omega
        · rw [splitF_zero f r hp h0 h1] at h; simp at h
      · by_cases h1 : 63 < r[0].toNat ∨ r.size < r[0].toNat + 1
        · rw [splitF_bad f r hp h0 h1] at h; simp at h
        · rw [splitF_step f r hp h0 (by omega) (by omega)] at h
          cases e : splitF f (r.extract (r[0].toNat + 1) r.size) with
          | none => rw [e] at h; simp at h
          | some t =>
            rw [e] at h
            simp at h
            have := ih _ _ e
            rw [← h]
            simp at this
            simp [wsum]; omega
    · rw [splitF_empty _ r (by omega)] at h; simp at h

theorem split_size {s : ByteArray} {ls : List ByteArray} (h : split s = some ls) : wsum ls + 1 = s.size ∧ s.size ≤ 255 := by
  by_cases hl : s.size ≤ 255
  · rw [split_short s hl] at h
    exact ⟨splitF_size _ _ _ h, hl⟩
  · rw [split_long s (by omega)] at h; simp at h

end Go.Proofs.Ythhagapmcbkeiaa.Nm
/- Rows of cells that are read; marks. -/
namespace Go.Proofs.Ythhagapmcbkeiaa
open Go.RowKit

/-- The cells 'cs' (n elements of s cells) lie where the slice 'v' leads. -/
def CRow (w : World) (v : Value) (n s : Nat) (cs : List Value) : Prop :=
  cs.length = n * s ∧ ∃ a cap, v = .slice a n cap ∧ n ≤ cap ∧ cap ≤ maxLen ∧
    (0 < n → ∃ b off, a = some ⟨b, off, none⟩ ∧ ∀ (i : Nat) (x : Value), cs[i]? = some x → w.cell? ⟨b, off + i, none⟩ = some x)

theorem CRow.of_owns {w : World} {B e s n : Nat} {v : Value} {cs : List Value} (h : w.ownsRow B e s v n cs) : CRow w v n s cs := by
  refine ⟨h.1, ?_⟩
  rcases h.2 with ⟨rfl, h0⟩ | ⟨g, cap, cur, rfl, hb, hg, hn, hm, hs, ht⟩
  · subst h0
    exact ⟨none, 0, rfl, Nat.le_refl _, by decide, fun h => by omega⟩
  · refine ⟨_, cap, rfl, hn, hm, fun _ => ⟨g, 0, rfl, ?_⟩⟩
    intro i x hx
    have hi : i < n * s := by rw [← h.1]; exact (List.getElem?_eq_some_iff.1 hx).1
    rw [Nat.zero_add, h.cellAt i hi]
    exact hx

theorem CRow.below {w w' : World} {v : Value} {n s : Nat} {cs : List Value} (h : CRow w v n s cs) (hb : Below w.heap.size w w') : CRow w' v n s cs := by
  obtain ⟨h0, a, cap, rfl, h1, h2, h3⟩ := h
  refine ⟨h0, a, cap, rfl, h1, h2, fun hp => ?_⟩
  obtain ⟨b, off, rfl, hc⟩ := h3 hp
  refine ⟨b, off, rfl, fun i x hx => ?_⟩
  have := hc i x hx
  rw [hb.cell (World.block_lt_of_cell? w _ this)]
  exact this

theorem own_apart {w w1 : World} {B B' e e' s s' n n' : Nat} {v u : Value} {xs ys : List Value} (h : w.ownsRow B e s v n xs) (h' : w.ownsRow B' e' s' u n' ys) (hne : e ≠ e') (hg : w.grownBy w1 u.ownBlock) : w1.ownsRow B e s v n xs := by
  refine h.kept hg ?_
  rcases h.2 with ⟨rfl, _⟩ | ⟨g, cap, cur, rfl, _, hh, _⟩
  · exact .inl rfl
  · right
    rcases h'.2 with ⟨rfl, _⟩ | ⟨g', cap', cur', rfl, _, hh', _⟩
    · simp [Value.ownBlock]
    · simp only [Value.ownBlock, ne_eq, Option.some.injEq]
      intro e2
      subst e2
      rw [hh] at hh'
      simp at hh'
      exact hne hh'.2

/-- The marks: k, k + 1, .. -/
def ints (k m : Nat) : List Value := (List.range m).map fun i => .int .i64 ((k + i : Nat) : Int)
theorem ints_len (k m : Nat) : (ints k m).length = m := by simp [ints]
theorem ints_get {k m i : Nat} (h : i < m) : (ints k m)[i]? = some (.int .i64 ((k + i : Nat) : Int)) := by simp [ints, h]
theorem ints_set {k m i : Nat} {xs : List Value} (hl : xs.length = m) (h : i < m) :
    ((ints k m).take i ++ xs.drop i).set i (.int .i64 ((k + i : Nat) : Int)) = (ints k m).take (i + 1) ++ xs.drop (i + 1) := by
  have h1 : ((ints k m).take i).length = i := by simp [ints_len]; omega
  have h2 : (ints k m).take (i + 1) = (ints k m).take i ++ [.int .i64 ((k + i : Nat) : Int)] := by
    obtain ⟨hi, e⟩ := List.getElem?_eq_some_iff.1 (ints_get (k := k) h)
    rw [List.take_succ_eq_append_getElem hi, e]
  rw [h2, List.set_append_right _ _ (by omega), h1, List.drop_eq_getElem_cons (by omega : i < xs.length), Nat.sub_self, List.set_cons_zero, List.append_assoc]
  rfl
theorem ints_cell {k m i j : Nat} {xs : List Value} (hl : xs.length = m) (h : j < m) : ∃ y, ((ints k m).take i ++ xs.drop i)[j]? = some y :=
  ⟨_, List.getElem?_eq_getElem (by simp [ints_len]; omega)⟩
theorem ints_done {k m : Nat} {xs : List Value} (hl : xs.length = m) : (ints k m).take m ++ xs.drop m = ints k m := by
  rw [List.take_of_length_le (by rw [ints_len]; omega), List.drop_of_length_le (by omega), List.append_nil]
end Go.Proofs.Ythhagapmcbkeiaa
/- Options of a message's sender: rows of them; laws.szOption, szOptionS, toOption, toOptionS by their contracts. -/
namespace Go.Proofs.Ythhagapmcbkeiaa
open Go.RowKit
set_option linter.unusedVariables false

/-- the cells of a row of options -/
def opVs (xs : List (Int × ByteArray)) : List Value := xs.flatMap fun k => [.int .i64 k.1, .string k.2]
theorem opVs_len (xs : List (Int × ByteArray)) : (opVs xs).length = xs.length * 2 := by
  induction xs with
  | nil => rfl
  | cons x xs ih =>
    have e : opVs (x :: xs) = [.int .i64 x.1, .string x.2] ++ opVs xs := by simp [opVs]
    rw [e, List.length_append, ih]
    simp
    omega
theorem opVs_at : ∀ (xs : List (Int × ByteArray)) (k j : Nat) (x : Int × ByteArray), xs[k]? = some x → j < 2 → (opVs xs)[k * 2 + j]? = [Value.int .i64 x.1, .string x.2][j]? := by
  intro xs
  induction xs with
  | nil => intro k j x h; simp at h
  | cons y xs ih =>
    intro k j x h hj
    have e : opVs (y :: xs) = [.int .i64 y.1, .string y.2] ++ opVs xs := by simp [opVs]
    cases k with
    | zero =>
      simp at h; subst h
      rw [e, Nat.zero_mul, Nat.zero_add, List.getElem?_append_left (by simpa using hj)]
    | succ k =>
      simp at h
      rw [e, List.getElem?_append_right (by simp; omega), show (k + 1) * 2 + j - [Value.int .i64 y.1, .string y.2].length = k * 2 + j by simp; omega]
      exact ih k j x h hj

/-- The bytes of options, as the laws count them. -/
def osum : List (Int × ByteArray) → Nat
  | [] => 0
  | x :: xs => x.2.size + osum xs
theorem osum_step : ∀ (xs : List (Int × ByteArray)) (k : Nat) (x : Int × ByteArray), xs[k]? = some x → osum (xs.take (k + 1)) = osum (xs.take k) + (x.2.size) := by
  intro xs
  induction xs with
  | nil => intro k x h; simp at h
  | cons y xs ih =>
    intro k x h
    cases k with
    | zero => simp at h; subst h; simp [osum]
    | succ k =>
      simp at h
      have := ih k x h
      simp only [List.take_succ_cons, osum]; omega
theorem osum_take_le : ∀ (xs : List (Int × ByteArray)) (k : Nat), osum (xs.take k) ≤ osum xs := by
  intro xs
  induction xs with
  | nil => intro k; simp [osum]
  | cons y xs ih =>
    intro k
    cases k with
    | zero => simp [osum]
    | succ k => have := ih k; simp only [List.take_succ_cons, osum]; omega
theorem osum_mem : ∀ (xs : List (Int × ByteArray)) (x : Int × ByteArray), x ∈ xs → x.2.size ≤ osum xs := by
  intro xs
  induction xs with
  | nil => intro x h; simp at h
  | cons y xs ih =>
    intro x h
    rcases List.mem_cons.1 h with rfl | h
    · simp only [osum]; omega
    · have := ih x h; simp only [osum]; omega
def szOS (xs : List (Int × ByteArray)) (L : Int) : Int := if (xs.length : Int) + (osum xs : Int) ≤ L then L - xs.length - osum xs else -1
def szOp (x : Int × ByteArray) (L : Int) : Int := if (x.2.size : Int) ≤ L then L - x.2.size else -1

theorem op_cells {w : World} {xs : List (Int × ByteArray)} {b off k : Nat} {x : Int × ByteArray} (hc : ∀ (i : Nat) (y : Value), (opVs xs)[i]? = some y → w.cell? ⟨b, off + i, none⟩ = some y) (h : xs[k]? = some x) :
    w.cell? ⟨b, off + k * 2, none⟩ = some (.int .i64 x.1) ∧ w.cell? ⟨b, off + k * 2 + 1, none⟩ = some (.string x.2) :=
  ⟨hc (k * 2) _ ((opVs_at xs k 0 x h (by decide)).trans rfl), hc (k * 2 + 1) _ ((opVs_at xs k 1 x h (by decide)).trans rfl)⟩

theorem setO2 {cs : List Value} {k : Nat} {A : List Value} (a b : Value) (hl : k * 2 + 2 ≤ cs.length) (h : cs.take (k * 2) = A) :
    ((cs.set (k * 2) a).set (k * 2 + 1) b).take ((k + 1) * 2) = A ++ [a, b] := by
  have hs : cs = cs.take (k * 2) ++ cs.drop (k * 2) := (List.take_append_drop _ _).symm
  have hdl : 2 ≤ (cs.drop (k * 2)).length := by simp; omega
  have hpl : (cs.take (k * 2)).length = k * 2 := by simp; omega
  rw [h] at hs hpl
  obtain ⟨q, hq⟩ : ∃ q, q = cs.drop (k * 2) := ⟨_, rfl⟩
  rw [← hq] at hs hdl
  match q, hdl with
  | y0 :: y1 :: r, _ =>
    rw [hs]
    simp only [List.set_append, hpl, Nat.lt_irrefl, if_false, Nat.sub_self, show ¬ (k * 2 + 1 < k * 2) by omega, Nat.add_sub_cancel_left]
    simp only [List.set_cons_zero, List.set_cons_succ]
    rw [List.take_append, hpl, show (k + 1) * 2 - k * 2 = 2 by omega, List.take_of_length_le (by omega)]
    rfl

theorem Try.infoOpz : (Try.prog.info? 45).map (fun i => (i.zero, i.size, i.bytes)) = some (some (.agg #[.int .i64 0, .string ByteArray.empty]), 2, 24) := by kernel_rfl

theorem optw_at {w : World} {B e g n cap k : Nat} {cs : List Value} (h : w.ownsRow B e 2 (.slice (some ⟨g, 0, none⟩) n cap) n cs) (hk : k < n) (j : Nat) (hj : j < 2) : ∃ y, w.cell? ⟨g, k * 2 + j, none⟩ = some y := by
  rw [h.cellAt (k * 2 + j) (by omega)]
  have := h.1
  exact ⟨_, List.getElem?_eq_getElem (by omega)⟩
theorem opVs_step {xs : List (Int × ByteArray)} {k : Nat} {x : Int × ByteArray} (hx : xs[k]? = some x) : opVs (xs.take (k + 1)) = opVs (xs.take k) ++ [.int .i64 x.1, .string x.2] := by
  rw [List.take_add_one, hx]
  simp [opVs]

end Go.Proofs.Ythhagapmcbkeiaa
/- Words that are joined. -/
namespace Go.Proofs.Ythhagapmcbkeiaa
open Go.RowKit

theorem wrap_pos (n : Nat) (h : n < 9223372036854775808) : IntKind.i64.wrap (n : Int) = (n : Int) := by
  have e : (n : Int) % 2 ^ 64 = n := Int.emod_eq_of_lt (by omega) (by omega)
  simp only [IntKind.wrap, IntKind.bits, IntKind.signed, e]
  rw [if_neg]
  simp
  omega

theorem i64_or_nat (a b : Nat) (ha : a < 9223372036854775808) (hb : b < 9223372036854775808) : bits .or .i64 (a : Int) (b : Int) = ((a ||| b : Nat) : Int) := by
  have hx : a ||| b < 2 ^ 63 := Nat.or_lt_two_pow (by omega) (by omega)
  show IntKind.i64.wrap ((BitVec.ofInt 64 (a : Int) ||| BitVec.ofInt 64 (b : Int)).toNat : Int) = _
  rw [BitVec.toNat_or, ofInt_u64 a (by omega), ofInt_u64 b (by omega)]
  exact wrap_pos _ (by omega)

theorem or_join (i a b : Nat) (h : b < 2 ^ i) (ha : 2 ^ i * a + b < 9223372036854775808) : bits .or .i64 ((2 ^ i * a : Nat) : Int) (b : Int) = ((2 ^ i * a + b : Nat) : Int) := by
  rw [i64_or_nat _ _ (by omega) (by omega), ← Nat.two_pow_add_eq_or_of_lt h]
end Go.Proofs.Ythhagapmcbkeiaa
/- Words of 32 bits, and the sum Sha256: mathematics. -/
namespace Go.Proofs.Ythhagapmcbkeiaa
open Go.RowKit
set_option linter.unusedVariables false

abbrev Wd := BitVec 32
def wV (x : Wd) : Value := .int .u32 (x.toNat : Int)

theorem u32_wrap (n : Nat) (h : n < 4294967296) : IntKind.u32.wrap (n : Int) = (n : Int) := by
  have e : (n : Int) % 2 ^ 32 = n := Int.emod_eq_of_lt (by omega) (by omega)
  simp only [IntKind.wrap, IntKind.bits, IntKind.signed, e]
  simp
theorem w_ofInt (x : Wd) : BitVec.ofInt 32 (x.toNat : Int) = x := by
  rw [BitVec.ofInt_natCast, BitVec.ofNat_toNat, BitVec.setWidth_eq]
theorem w_or (x y : Wd) : bits .or .u32 (x.toNat : Int) (y.toNat : Int) = ((x ||| y).toNat : Int) := by
  show IntKind.u32.wrap ((BitVec.ofInt 32 (x.toNat : Int) ||| BitVec.ofInt 32 (y.toNat : Int)).toNat : Int) = _
  rw [w_ofInt, w_ofInt]
  exact u32_wrap _ (x ||| y).isLt
theorem w_and (x y : Wd) : bits .and .u32 (x.toNat : Int) (y.toNat : Int) = ((x &&& y).toNat : Int) := by
  show IntKind.u32.wrap ((BitVec.ofInt 32 (x.toNat : Int) &&& BitVec.ofInt 32 (y.toNat : Int)).toNat : Int) = _
  rw [w_ofInt, w_ofInt]
  exact u32_wrap _ (x &&& y).isLt
theorem w_xor (x y : Wd) : bits .xor .u32 (x.toNat : Int) (y.toNat : Int) = ((x ^^^ y).toNat : Int) := by
  show IntKind.u32.wrap ((BitVec.ofInt 32 (x.toNat : Int) ^^^ BitVec.ofInt 32 (y.toNat : Int)).toNat : Int) = _
  rw [w_ofInt, w_ofInt]
  exact u32_wrap _ (x ^^^ y).isLt
theorem w_add (x y : Wd) : ((x.toNat : Int) + (y.toNat : Int)) % 4294967296 = ((x + y).toNat : Int) := by
  rw [BitVec.toNat_add]
  omega
theorem w_shr (x : Wd) (n : Nat) : (x.toNat : Int) / 2 ^ n = ((x >>> n).toNat : Int) := by
  rw [BitVec.toNat_ushiftRight, Nat.shiftRight_eq_div_pow, Int.natCast_ediv, Int.natCast_pow]
  rfl
theorem w_shl (x : Wd) (n : Nat) : (x.toNat : Int) * 2 ^ n % 4294967296 = ((x <<< n).toNat : Int) := by
  rw [BitVec.toNat_shiftLeft, Nat.shiftLeft_eq, Int.natCast_emod, Int.natCast_mul, Int.natCast_pow]
  rfl

def turnW (x : Wd) (n : Nat) : Wd := (x >>> n) ||| (x <<< (32 - n))
def s0W (x : Wd) : Wd := turnW x 7 ^^^ turnW x 18 ^^^ (x >>> 3)
def s1W (y : Wd) : Wd := turnW y 17 ^^^ turnW y 19 ^^^ (y >>> 10)
def KL : List Nat := [1116352408, 1899447441, 3049323471, 3921009573, 961987163, 1508970993, 2453635748, 2870763221, 3624381080, 310598401, 607225278, 1426881987, 1925078388, 2162078206, 2614888103, 3248222580, 3835390401, 4022224774, 264347078, 604807628, 770255983, 1249150122, 1555081692, 1996064986, 2554220882, 2821834349, 2952996808, 3210313671, 3336571891, 3584528711, 113926993, 338241895, 666307205, 773529912, 1294757372, 1396182291, 1695183700, 1986661051, 2177026350, 2456956037, 2730485921, 2820302411, 3259730800, 3345764771, 3516065817, 3600352804, 4094571909, 275423344, 430227734, 506948616, 659060556, 883997877, 958139571, 1322822218, 1537002063, 1747873779, 1955562222, 2024104815, 2227730452, 2361852424, 2428436474, 2756734187, 3204031479, 3329325298]
def KW (i : Nat) : Wd := BitVec.ofNat 32 ((KL[i]?).getD 0)
/-- The words of a block: sixteen that are given, and those that are made of them. -/
def wF (m : Nat → Wd) (i : Nat) : Wd := if h : i < 16 then m i else wF m (i - 16) + s0W (wF m (i - 15)) + wF m (i - 7) + s1W (wF m (i - 2))
theorem wF_low {m : Nat → Wd} {i : Nat} (h : i < 16) : wF m i = m i := by rw [wF, dif_pos h]
theorem wF_high {m : Nat → Wd} {i : Nat} (h : ¬ i < 16) : wF m i = wF m (i - 16) + s0W (wF m (i - 15)) + wF m (i - 7) + s1W (wF m (i - 2)) := by rw [wF, dif_neg h]
/-- Eight words. -/
structure Sv where
  a : Wd
  b : Wd
  c : Wd
  d : Wd
  e : Wd
  f : Wd
  g : Wd
  h : Wd
def t1W (s : Sv) (k w : Wd) : Wd := s.h + (turnW s.e 6 ^^^ turnW s.e 11 ^^^ turnW s.e 25) + ((s.e &&& s.f) ^^^ (~~~s.e &&& s.g)) + k + w
def t2W (s : Sv) : Wd := (turnW s.a 2 ^^^ turnW s.a 13 ^^^ turnW s.a 22) + ((s.a &&& s.b) ^^^ (s.a &&& s.c) ^^^ (s.b &&& s.c))
def roundW (s : Sv) (k w : Wd) : Sv := ⟨t1W s k w + t2W s, s.a, s.b, s.c, s.d + t1W s k w, s.e, s.f, s.g⟩
def roundsW (m : Nat → Wd) (s : Sv) : Nat → Sv
  | 0 => s
  | i + 1 => roundW (roundsW m s i) (KW i) (wF m i)
def addSv (x y : Sv) : Sv := ⟨x.a + y.a, x.b + y.b, x.c + y.c, x.d + y.d, x.e + y.e, x.f + y.f, x.g + y.g, x.h + y.h⟩
def svL (s : Sv) : List Wd := [s.a, s.b, s.c, s.d, s.e, s.f, s.g, s.h]
def H0 : Sv := ⟨1779033703, 3144134277, 1013904242, 2773480762, 1359893119, 2600822924, 528734635, 1541459225⟩
/-- The word of four bytes at a place. -/
def bW (t : List UInt8) (k : Nat) : Wd := BitVec.ofNat 32 ((t[k]?).getD 0).toNat
theorem bW_nat (t : List UInt8) (k : Nat) : (bW t k).toNat = ((t[k]?).getD 0).toNat := by
  rw [bW, BitVec.toNat_ofNat]
  have := ((t[k]?).getD 0).toNat_lt
  omega
def wordAt (t : List UInt8) (k : Nat) : Wd := (bW t k <<< 24) ||| (bW t (k + 1) <<< 16) ||| (bW t (k + 2) <<< 8) ||| bW t (k + 3)
def hashW (t : List UInt8) : Nat → Sv
  | 0 => H0
  | n + 1 => addSv (hashW t n) (roundsW (fun i => wordAt t (64 * n + 4 * i)) (hashW t n) 64)
def padTo (l : List UInt8) : List UInt8 := l ++ [128] ++ List.replicate ((119 - l.length % 64) % 64) 0
def lenL (n : Nat) : List UInt8 := (List.range 8).map fun i => UInt8.ofNat (8 * n / 2 ^ (8 * (7 - i)))
def padL (l : List UInt8) : List UInt8 := padTo l ++ lenL l.length
def outL (s : Sv) : List UInt8 := (svL s).flatMap fun x => [UInt8.ofNat (x.toNat / 16777216), UInt8.ofNat (x.toNat / 65536), UInt8.ofNat (x.toNat / 256), UInt8.ofNat x.toNat]
/-- The sum. -/
def shaL (l : List UInt8) : List UInt8 := outL (hashW (padL l) ((padL l).length / 64))

/-- The words of a block, as many as have been laid. -/
def wA (m : Nat → Wd) (i : Nat) : Array Value := ((List.range 64).map fun j => if j < i then wV (wF m j) else .int .u32 0).toArray
theorem wA_zero (m : Nat → Wd) : wA m 0 = Array.replicate 64 (.int .u32 0) := by
  simp only [wA, Nat.not_lt_zero, if_false]
  rfl
theorem wA_at {m : Nat → Wd} {i j : Nat} (h : j < i) (h64 : j < 64) : (wA m i)[j]? = some (.int .u32 ((wF m j).toNat : Int)) := by
  simp [wA, h64, h, wV]
theorem wA_any {m : Nat → Wd} {i j : Nat} (h64 : j < 64) : ∃ v, (wA m i)[j]? = some v := by simp [wA, h64]
theorem wA_set {m : Nat → Wd} {i : Nat} (h : i < 64) : (wA m i).setIfInBounds i (.int .u32 ((wF m i).toNat : Int)) = wA m (i + 1) := by
  apply Array.ext_getElem?
  intro j
  rw [Array.getElem?_setIfInBounds]
  by_cases hj : i = j
  · subst hj
    simp [wA, h, wV]
  · rw [if_neg hj]
    by_cases hj64 : j < 64
    · simp only [wA, List.getElem?_toArray, List.getElem?_map, List.getElem?_range hj64, Option.map_some]
      by_cases h1 : j < i
      · rw [if_pos h1, if_pos (by omega)]
      · rw [if_neg h1, if_neg (by omega)]
    · simp [wA, hj64]
def hvA (s : Sv) : Array Value := #[wV s.a, wV s.b, wV s.c, wV s.d, wV s.e, wV s.f, wV s.g, wV s.h]
end Go.Proofs.Ythhagapmcbkeiaa
/- Rows of bytes that came in. -/
namespace Go.Proofs.Ythhagapmcbkeiaa
open Go.RowKit
set_option linter.unusedVariables false

/-- A slice of bytes that came in. -/
def RowB (w : World) (a : Option Addr) (len cap : Nat) (zs : List Int) : Prop :=
  (a = none ∧ len = 0 ∧ cap = 0 ∧ zs = []) ∨
  ∃ x, a = some x ∧ len ≤ cap ∧ cap ≤ maxLen ∧ zs.length = cap ∧ (∀ i, i < zs.length → w.cell? (x.add i) = some (.int .u8 (zs.getD i 0))) ∧ ∀ n ∈ zs, (Lit.int .u8 n).wf = true

theorem u8_wf {z : Int} (h : (Lit.int .u8 z).wf = true) : ((UInt8.ofNat z.toNat).toNat : Int) = z := by
  have h2 := bounds_u8 h
  simp
  omega

theorem rowB {w : World} {a : Option Addr} {n cap : Nat} {zs : List Int} (h : RowB w a n cap zs) : ∃ l : List UInt8, l.length = n ∧ CRow w (.slice a n cap) n 1 (Nm.bys l) := by
  rcases h with ⟨rfl, rfl, rfl, rfl⟩ | ⟨x, rfl, hl, hm, hz, hc, hw⟩
  · exact ⟨[], rfl, rfl, none, 0, rfl, Nat.le_refl _, by decide, fun h => by omega⟩
  · have hlen : ((zs.take n).map (fun z => UInt8.ofNat z.toNat)).length = n := by simp; omega
    refine ⟨(zs.take n).map (fun z => UInt8.ofNat z.toNat), hlen, by rw [Nm.bys_length, hlen, Nat.mul_one], some x, cap, rfl, hl, hm, fun hp => ?_⟩
    have hs : x.spot = none := by
      have := World.cell?_spot (hc 0 (by omega))
      simpa [Addr.add] using this
    obtain ⟨b, off, sp⟩ := x
    simp only at hs
    subst hs
    refine ⟨b, off, rfl, fun i y hy => ?_⟩
    have hi : i < n := by
      have := (List.getElem?_eq_some_iff.1 hy).1
      rwa [Nm.bys_length, hlen] at this
    rw [← Nm.addr_add, hc i (by omega), ← hy]
    have hz : zs[i]? = some (zs.getD i 0) := by rw [List.getD_eq_getElem?_getD, List.getElem?_eq_getElem (by omega)]; rfl
    rw [Nm.bys, List.getElem?_map, List.getElem?_map, List.getElem?_take, if_pos hi, hz]
    simp only [Option.map_some]
    rw [u8_wf (hw _ (List.mem_of_getElem? hz))]

theorem Try.infoBy : (Try.prog.info? 5).map (fun i => (i.zero, i.size, i.bytes)) = some (some (.int .u8 0), 1, 1) := by kernel_rfl

/-- Bytes lie where a slice leads. -/
abbrev BySl (w : World) (v : Value) (l : List UInt8) : Prop := CRow w v l.length 1 (Nm.bys l)
end Go.Proofs.Ythhagapmcbkeiaa
/- Keyed sums: mathematics; rows of one's own beside each other; bytes as text. -/
namespace Go.Proofs.Ythhagapmcbkeiaa
open Go.RowKit
set_option linter.unusedVariables false

/-- a key of 64 bytes -/
def padK (l : List UInt8) : List UInt8 := l ++ List.replicate (64 - l.length) 0
def keyL (l : List UInt8) : List UInt8 := padK (if 64 < l.length then shaL l else l)
def hmacL (k b : List UInt8) : List UInt8 := shaL ((keyL k).map (· ^^^ 92) ++ shaL ((keyL k).map (· ^^^ 54) ++ b))

theorem padK_len {l : List UInt8} (h : l.length ≤ 64) : (padK l).length = 64 := by simp [padK]; omega
theorem padK_at {l : List UInt8} {i : Nat} (h : i < l.length) : (padK l)[i]? = l[i]? := by rw [padK, List.getElem?_append_left h]
theorem padK_zero {l : List UInt8} {i : Nat} (h : l.length ≤ i) (h2 : i < 64) : (padK l)[i]? = some 0 := by
  rw [padK, List.getElem?_append_right h, List.getElem?_replicate, if_pos (by omega)]
theorem mix_take {l : List UInt8} {i : Nat} {c m : UInt8} (h : l[i]? = some c) : Nm.bys ((l.take (i + 1)).map (· ^^^ m)) = Nm.bys ((l.take i).map (· ^^^ m)) ++ [.int .u8 ((c ^^^ m).toNat : Int)] := by
  rw [List.take_add_one, h, List.map_append, Nm.bys_append]
  rfl

theorem row_strB {w : World} {v : Value} {l : List UInt8} {n : Nat} (h : CRow w v n 1 (Nm.bys l)) : (convert 22 9 v).run Try.prog w = .ok (.string ⟨l.toArray⟩) w := by
  obtain ⟨hl, a, cap, rfl, h1, h2, h3⟩ := h
  rw [Nm.bys_length, Nat.mul_one] at hl
  subst hl
  rcases Nat.eq_zero_or_pos l.length with h0 | hpos
  · have : l = [] := List.length_eq_zero_iff.1 h0
    subst this
    cases a with
    | none => exact (run_convert_bytes_string w 22 9 5 none 0 cap Try.underlying22 Try.underlying5 Try.underlying9).trans rfl
    | some x => exact run_convert_bytes_back w 22 9 5 x cap [] Try.underlying22 Try.underlying5 Try.underlying9 (by intro j hj; simp at hj)
  · obtain ⟨b, off, rfl, hc⟩ := h3 hpos
    refine run_convert_bytes_back w 22 9 5 ⟨b, off, none⟩ cap l Try.underlying22 Try.underlying5 Try.underlying9 ?_
    intro j hj
    rw [Nm.addr_add]
    exact hc j _ (by simp [Nm.bys, hj])

theorem byte_of (l : List UInt8) (k : Nat) (c : UInt8) (hk : l[k]? = some c) (W : World) : (Instr.index 9 (.string ⟨l.toArray⟩) (.int .i64 (k : Int))).run Try.prog W = .ok (.int .u8 (c.toNat : Int)) W := by
  obtain ⟨hlt, he⟩ := List.getElem?_eq_some_iff.1 hk
  have hs : k < (ByteArray.mk l.toArray).size := by show k < l.toArray.size; simpa using hlt
  rw [run_index_string W 9 ⟨l.toArray⟩ .i64 (k : Int) Try.underlying9]
  have e : (ByteArray.mk l.toArray)[k]'hs = c := by rw [← he]; simp [ByteArray.getElem_eq_getElem_data]
  simp [hs, e]

/-- Two rows lie in blocks of their own. -/
def Apr (u v : Value) : Prop := ∀ k, u.ownBlock = some k → v.ownBlock ≠ some k
theorem Apr.symm {u v : Value} (h : Apr u v) : Apr v u := fun k h1 h2 => h k h2 h1
theorem apr_kept {W W1 : World} {B e s m : Nat} {v u : Value} {xs : List Value} (h : W.ownsRow B e s v m xs) (hg : W.grownBy W1 u.ownBlock) (ha : Apr u v) : W1.ownsRow B e s v m xs := by
  refine h.kept hg ?_
  cases hu : u.ownBlock with
  | none =>
    cases hv : v.ownBlock with
    | none => exact .inl rfl
    | some k => right; simp
  | some k => right; exact ha k hu
theorem apr_after {W : World} {B e s m : Nat} {v v' u : Value} {ys : List Value} (hat : v'.ownBlock = v.ownBlock ∨ v'.ownBlock = some W.heap.size) (ha : Apr v u) (hu : W.ownsRow B e s u m ys) : Apr v' u := by
  intro k hk hk2
  rcases hat with h | h
  · exact ha k (by rw [← h]; exact hk) hk2
  · rw [h] at hk
    have := (hu.lt k hk2).2
    simp only [Option.some.injEq] at hk
    omega
end Go.Proofs.Ythhagapmcbkeiaa
/- What Sha256 hashes: the bytes and what is added to them: mathematics. -/
namespace Go.Proofs.Ythhagapmcbkeiaa
open Go.RowKit
set_option linter.unusedVariables false

def zN (n : Nat) : Nat := (119 - n % 64) % 64
theorem zN_end (n : Nat) : (n + 1 + zN n) % 64 = 56 := by unfold zN; omega
theorem zN_not {n z : Nat} (h : z < zN n) : (n + 1 + z) % 64 ≠ 56 := by unfold zN at h; omega
theorem zN_lt (n : Nat) : zN n < 64 := Nat.mod_lt _ (by decide)
theorem padTo_eq (l : List UInt8) : padTo l = l ++ [128] ++ List.replicate (zN l.length) 0 := rfl
theorem padTo_len (l : List UInt8) : (padTo l).length = l.length + 1 + zN l.length := by rw [padTo_eq]; simp; omega
theorem lenL_len (n : Nat) : (lenL n).length = 8 := rfl
theorem padL_len (l : List UInt8) : (padL l).length % 64 = 0 ∧ (padL l).length ≤ l.length + 72 := by
  have h := zN_end l.length
  have h2 : zN l.length < 64 := Nat.mod_lt _ (by decide)
  rw [padL, List.length_append, padTo_len, lenL_len]
  omega
theorem rep_snoc (z : Nat) : List.replicate (z + 1) (0 : UInt8) = List.replicate z 0 ++ [0] := by
  rw [List.replicate_succ']
theorem lenL_take {n j : Nat} (h : j < 8) : (lenL n).take (j + 1) = (lenL n).take j ++ [UInt8.ofNat (8 * n / 2 ^ (8 * (7 - j)))] := by
  rw [List.take_add_one]
  have : (lenL n)[j]? = some (UInt8.ofNat (8 * n / 2 ^ (8 * (7 - j)))) := by simp [lenL, h]
  rw [this]
  rfl
end Go.Proofs.Ythhagapmcbkeiaa
/- Variables that lie in blocks of their own. -/
namespace Go.Proofs.Ythhagapmcbkeiaa
open Go.RowKit
set_option linter.unusedVariables false

theorem hgr_step {w w1 w2 : World} {g : Nat} (h : w.grownBy w1 (some g)) (h2 : w1.grownBy w2 (some g)) : w.grownBy w2 (some g) :=
  ⟨h2.os.trans h.os, h2.tape.trans h.tape, h2.output.trans h.output, Nat.le_trans h.size h2.size, fun k hk hne => (h2.block k (Nat.lt_of_lt_of_le hk h.size) hne).trans (h.block k hk hne)⟩

theorem hgr_below {w w1 w2 : World} {g : Nat} (h : w.grownBy w1 (some g)) (h2 : Below w1.heap.size w1 w2) : w.grownBy w2 (some g) :=
  ⟨h2.os.trans h.os, h2.tape.trans h.tape, h2.output.trans h.output, Nat.le_trans h.size h2.size, fun k hk hne =>
    (h2.block k (Nat.lt_of_lt_of_le hk h.size)).trans (h.block k hk hne)⟩

theorem hgr_set {w w1 : World} {g b i : Nat} {v : Value} (h : w.grownBy w1 (some g)) (hb : w.heap.size ≤ b) : w.grownBy (w1.setCell ⟨b, i, none⟩ v) (some g) :=
  ⟨h.os, h.tape, h.output, by simpa using h.size, fun k hk hne => by rw [heap_setCell_other w1 ⟨b, i, none⟩ k _ (by simp; omega)]; exact h.block k hk hne⟩

/-- A variable's cells lie in block b. -/
def Blk (w : World) (b : Nat) (cs : Array Value) (T : TypeId) : Prop := w.heap[b]? = some (.cells cs T (0, 0))

theorem blk_lt {w : World} {b : Nat} {cs : Array Value} {T : TypeId} (h : Blk w b cs T) : b < w.heap.size := (Array.getElem?_eq_some_iff.1 h).1
theorem blk_grown {w w1 : World} {b : Nat} {cs : Array Value} {T : TypeId} {row : Option Nat} (h : Blk w b cs T) (hg : w.grownBy w1 row) (hr : row ≠ some b) : Blk w1 b cs T := by
  unfold Blk
  rw [hg.block b (blk_lt h) (fun e => hr e.symm)]; exact h
theorem blk_below {w w1 : World} {b : Nat} {cs : Array Value} {T : TypeId} (h : Blk w b cs T) (hb : Below w.heap.size w w1) : Blk w1 b cs T := by
  unfold Blk
  rw [hb.block b (blk_lt h)]; exact h
theorem blk_new (w : World) (cs : Array Value) (T : TypeId) : Blk (w.alloc (.cells cs T)) w.heap.size cs T := by
  unfold Blk; show (w.heap.push _)[w.heap.size]? = _; simp
theorem blk_alloc {w : World} {b : Nat} {cs : Array Value} {T : TypeId} (h : Blk w b cs T) (o : Obj) : Blk (w.alloc o) b cs T :=
  blk_below h ((Below.refl _ _).alloc (Nat.le_refl _) o)
theorem blk_cell {w : World} {b : Nat} {cs : Array Value} {T : TypeId} (h : Blk w b cs T) (i : Nat) : w.cell? ⟨b, i, none⟩ = cs[i]? := cell_of_row _ _ _ _ _ _ h
theorem blk_frozen {w : World} {b : Nat} {cs : Array Value} {T : TypeId} (h : Blk w b cs T) (i : Nat) : w.frozen? ⟨b, i, none⟩ = false := frozen_of_row w b i _ _ h
theorem blk_set {w : World} {b : Nat} {cs : Array Value} {T : TypeId} (h : Blk w b cs T) (i : Nat) (v : Value) : Blk (w.setCell ⟨b, i, none⟩ v) b (cs.setIfInBounds i v) T := heap_setCell_same w b i _ _ v h
theorem blk_far {w : World} {b c i : Nat} {cs : Array Value} {T : TypeId} {v : Value} (h : Blk w b cs T) (hne : b ≠ c) : Blk (w.setCell ⟨c, i, none⟩ v) b cs T := by
  unfold Blk
  rw [heap_setCell_other w ⟨c, i, none⟩ b _ (by simpa using hne)]; exact h

/-- Values are laid into the cells of a block from a place on. -/
def setAll (w : World) (b i : Nat) : List Value → World
  | [] => w
  | v :: vs => setAll (w.setCell ⟨b, i, none⟩ v) b (i + 1) vs

theorem setAll_same {b : Nat} {T : TypeId} : ∀ (vs old pre : List Value) (w : World), Blk w b (pre ++ old).toArray T → old.length = vs.length → Blk (setAll w b pre.length vs) b (pre ++ vs).toArray T := by
  intro vs
  induction vs with
  | nil =>
    intro old pre w h hl
    have : old = [] := List.length_eq_zero_iff.1 hl
    subst this
    exact h
  | cons v vs ih =>
    intro old pre w h hl
    cases old with
    | nil => simp at hl
    | cons x old =>
      have h2 := blk_set h pre.length v
      have e : (pre ++ x :: old).toArray.setIfInBounds pre.length v = ((pre ++ [v]) ++ old).toArray := by simp
      rw [e] at h2
      have h3 := ih old (pre ++ [v]) _ h2 (by simpa using hl)
      rw [List.length_append] at h3
      simpa [setAll] using h3

theorem setAll_new {b : Nat} {T : TypeId} {old : Array Value} (vs : List Value) {w : World} (h : Blk w b old T) (hl : old.size = vs.length) : Blk (setAll w b 0 vs) b vs.toArray T := by
  have := setAll_same vs old.toList [] w (by simpa using h) (by simpa using hl)
  simpa using this

theorem setAll_far {b c : Nat} {T : TypeId} {cs : Array Value} (hne : b ≠ c) : ∀ (vs : List Value) (i : Nat) (w : World), Blk w b cs T → Blk (setAll w c i vs) b cs T := by
  intro vs
  induction vs with
  | nil => intro i w h; exact h
  | cons v vs ih => intro i w h; exact ih (i + 1) _ (blk_far h hne)

theorem setAll_grown {w : World} {g b : Nat} (hb : w.heap.size ≤ b) : ∀ (vs : List Value) (i : Nat) (W : World), w.grownBy W (some g) → w.grownBy (setAll W b i vs) (some g) := by
  intro vs
  induction vs with
  | nil => intro i W h; exact h
  | cons v vs ih => intro i W h; exact ih (i + 1) _ (hgr_set h hb)

theorem blk_drew {w : World} {b : Nat} {cs : Array Value} {T : TypeId} (h : Blk w b cs T) : Blk w.drew b cs T := h
end Go.Proofs.Ythhagapmcbkeiaa
