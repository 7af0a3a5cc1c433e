import Derived.WalkKit
import Derived.Test.YtihhchebcojplaaRows
import Derived.WalkSpells
import Derived.WalkLawsBesides
import Derived.Lib.AppendStr
import Derived.Laws.IdiomStrings
import Derived.Laws.OwnMore
import Derived.Deep.RegionHeld
import Derived.Laws.AppendOwn
import Derived.Deep.RegionHeld3
import Derived.Deep.RegionLaw
import Derived.RegionTactic
import Derived.BigRegion
import Derived.Lib.Split
import Derived.Lib.IndexMore
import Derived.Deep.AppendSrc
import Derived.Deep.Upon
/- Names, as plain mathematics: the labels of a name in wire form. -/
namespace Go.Proofs.Ytihhchebcojplaa.Nm

def splitF : Nat → ByteArray → Option (List ByteArray)
  | 0, _ => none
  | f + 1, r =>
    if h : 0 < r.size then
      if r[0].toNat = 0 then (if r.size = 1 then some [] else none)
      else if 63 < r[0].toNat ∨ r.size < r[0].toNat + 1 then none
      else (splitF f (r.extract (r[0].toNat + 1) r.size)).map (fun ls => r.extract 1 (r[0].toNat + 1) :: ls)
    else none

def split (s : ByteArray) : Option (List ByteArray) := if s.size ≤ 255 then splitF 256 s else none

theorem splitF_empty (f : Nat) (r : ByteArray) (h : r.size = 0) : splitF f r = none := by
  cases f with
  | zero => rfl
  | succ f => rw [splitF, dif_neg (by omega)]

theorem splitF_end (f : Nat) (r : ByteArray) (h : 0 < r.size) (h0 : r[0].toNat = 0) (h1 : r.size = 1) : splitF (f + 1) r = some [] := by
  rw [splitF, dif_pos h, if_pos h0, if_pos h1]

theorem splitF_zero (f : Nat) (r : ByteArray) (h : 0 < r.size) (h0 : r[0].toNat = 0) (h1 : r.size ≠ 1) : splitF (f + 1) r = none := by
  rw [splitF, dif_pos h, if_pos h0, if_neg h1]

theorem splitF_bad (f : Nat) (r : ByteArray) (h : 0 < r.size) (h0 : r[0].toNat ≠ 0) (h1 : 63 < r[0].toNat ∨ r.size < r[0].toNat + 1) : splitF (f + 1) r = none := by
  rw [splitF, dif_pos h, if_neg h0, if_pos h1]

theorem splitF_step (f : Nat) (r : ByteArray) (h : 0 < r.size) (h0 : r[0].toNat ≠ 0) (h1 : r[0].toNat ≤ 63) (h2 : r[0].toNat + 1 ≤ r.size) :
    splitF (f + 1) r = (splitF f (r.extract (r[0].toNat + 1) r.size)).map (fun ls => r.extract 1 (r[0].toNat + 1) :: ls) := by
  rw [splitF, dif_pos h, if_neg h0, if_neg (by omega)]

theorem split_long (s : ByteArray) (h : 255 < s.size) : split s = none := by rw [split, if_neg (by omega)]
theorem split_short (s : ByteArray) (h : s.size ≤ 255) : split s = splitF 256 s := by rw [split, if_pos h]

/-- Where the reading stands: 'ls' are the labels that were cut off, 'r' is the rest. -/
def At (s : ByteArray) (ls : List ByteArray) (r : ByteArray) : Prop :=
  ∃ f, r.size < f ∧ split s = (splitF f r).map (fun t => ls ++ t)

theorem at_start (s : ByteArray) (h : s.size ≤ 255) : At s [] s := ⟨256, by omega, by rw [split_short s h]; simp⟩

theorem at_empty {s r : ByteArray} {ls : List ByteArray} (h : At s ls r) (h0 : r.size = 0) : split s = none := by
  obtain ⟨f, _, e⟩ := h; rw [e, splitF_empty f r h0]; rfl

theorem at_end {s r : ByteArray} {ls : List ByteArray} (h : At s ls r) (hp : 0 < r.size) (h0 : r[0].toNat = 0) (h1 : r.size = 1) : split s = some ls := by
  obtain ⟨f, hf, e⟩ := h
  obtain ⟨g, rfl⟩ : ∃ g, f = g + 1 := ⟨f - 1, by omega⟩
  rw [e, splitF_end g r hp h0 h1]; simp

theorem at_zero {s r : ByteArray} {ls : List ByteArray} (h : At s ls r) (hp : 0 < r.size) (h0 : r[0].toNat = 0) (h1 : r.size ≠ 1) : split s = none := by
  obtain ⟨f, hf, e⟩ := h
  obtain ⟨g, rfl⟩ : ∃ g, f = g + 1 := ⟨f - 1, by omega⟩
  rw [e, splitF_zero g r hp h0 h1]; rfl

theorem at_bad {s r : ByteArray} {ls : List ByteArray} (h : At s ls r) (hp : 0 < r.size) (h0 : r[0].toNat ≠ 0) (h1 : 63 < r[0].toNat ∨ r.size < r[0].toNat + 1) : split s = none := by
  obtain ⟨f, hf, e⟩ := h
  obtain ⟨g, rfl⟩ : ∃ g, f = g + 1 := ⟨f - 1, by omega⟩
  rw [e, splitF_bad g r hp h0 h1]; rfl

theorem at_step {s r : ByteArray} {ls : List ByteArray} (h : At s ls r) (hp : 0 < r.size) (h0 : r[0].toNat ≠ 0) (h1 : r[0].toNat ≤ 63) (h2 : r[0].toNat + 1 ≤ r.size) :
    At s (ls ++ [r.extract 1 (r[0].toNat + 1)]) (r.extract (r[0].toNat + 1) r.size) := by
  obtain ⟨f, hf, e⟩ := h
  obtain ⟨g, rfl⟩ : ∃ g, f = g + 1 := ⟨f - 1, by omega⟩
  refine ⟨g, by simp; omega, ?_⟩
  rw [e, splitF_step g r hp h0 h1 h2, Option.map_map]
  congr 1; funext t; simp

theorem tl_len (r : ByteArray) : r.toList.length = r.size := by rw [ByteArray.toList_eq]; simp

theorem tl_one {r : ByteArray} (h : 0 < r.size) (h1 : r.size = 1) (h0 : r[0].toNat = 0) : (r.toList == [0]) = true := by
  rw [beq_iff_eq, ByteArray.toList_eq]
  refine List.ext_getElem (by simpa using h1) ?_
  intro i hi hj
  have : i = 0 := by simpa using hj
  subst this
  have e : r.data.toList[0] = r[0] := rfl
  rw [e]
  exact UInt8.toNat_inj.1 (by simpa using h0)

theorem tl_not_one {r : ByteArray} (h : 0 < r.size) (h1 : ¬ (r.size = 1 ∧ r[0].toNat = 0)) : (r.toList == [0]) = false := by
  rw [beq_eq_false_iff_ne]
  intro e
  rw [ByteArray.toList_eq] at e
  apply h1
  refine ⟨by have := congrArg List.length e; simpa using this, ?_⟩
  have g : r.data.toList[0]? = some 0 := by rw [e]; rfl
  have g2 : r.data.toList[0]? = some r[0] := List.getElem?_eq_getElem (by simpa using h)
  rw [g2] at g
  have g3 : r[0] = 0 := by simpa using g
  rw [g3]; rfl

theorem tl_not_one_empty {r : ByteArray} (h : r.size = 0) : (r.toList == [0]) = false := by
  rw [beq_eq_false_iff_ne]
  intro e
  have := congrArg List.length e
  rw [tl_len] at this
  simp at this; omega

theorem tl_empty {r : ByteArray} (h : r.size = 0) : r.toList.isEmpty = true := by
  rw [List.isEmpty_iff, ← List.length_eq_zero_iff, tl_len]; exact h

theorem tl_not_empty {r : ByteArray} (h : 0 < r.size) : r.toList.isEmpty = false := by
  rw [Bool.eq_false_iff]
  intro e
  rw [List.isEmpty_iff, ← List.length_eq_zero_iff, tl_len] at e; omega

theorem one_cell (x : Value) (h : x.oneCell' = true) : ∀ u : Value, u ∈ [x] → u.oneCell' = true := by
  intro u hu; simp at hu; subst hu; exact h

end Go.Proofs.Ytihhchebcojplaa.Nm
/- A row of strings of the call's own. -/
namespace Go.Proofs.Ytihhchebcojplaa
open Go.RowKit

theorem Try.infoStr : (Try.prog.info? 9).map (fun i => (i.zero, i.size, i.bytes)) = some (some (.string ByteArray.empty), 1, 16) := by kernel_rfl

theorem own_step {W wr w1 : World} {v v' : Value} {B e : Nat} {ls : List ByteArray} {x : ByteArray} (hB : B ≤ wr.heap.size)
    (hown : wr.ownsRow B e 1 v ls.length (ls.map Value.string)) (hbel : Below B W wr) (o : Obj)
    (hown' : w1.ownsRow B e 1 v' (ls.length + 1) (ls.map Value.string ++ [.string x])) (hgrow : (wr.alloc o).grownBy w1 v.ownBlock) :
    w1.ownsRow B e 1 v' (ls ++ [x]).length ((ls ++ [x]).map Value.string) ∧ Below B W w1 := by
  refine ⟨by simpa using hown', ?_⟩
  refine (hbel.alloc hB o).grown hgrow (by simp; omega) ?_
  intro k hk
  exact (hown.lt k hk).1

theorem cell_new1 (w : World) (x : Value) (e : Nat) : ∀ (j : Nat) (u : Value), [x][j]? = some u → (w.alloc (.cells #[x] e)).cell? ((⟨w.heap.size, 0, none⟩ : Addr).add j) = some u := by
  intro j u hj
  match j, hj with
  | 0, hj => simp at hj; subst hj; simp [Addr.add]

theorem own_below {w w' : World} {B e s n : Nat} {v : Value} {xs : List Value} (h : w.ownsRow B e s v n xs) (hb : Below w.heap.size w w') : w'.ownsRow B e s v n xs :=
  h.kept (row := none) ⟨hb.os, hb.tape, hb.output, hb.size, fun k hk _ => hb.block k hk⟩ (by cases v.ownBlock <;> simp)

theorem own_base {w : World} {B B' e s n : Nat} {v : Value} {xs : List Value} (h : w.ownsRow B e s v n xs) (hb : B' ≤ B) : w.ownsRow B' e s v n xs := by
  refine ⟨h.1, ?_⟩
  rcases h.2 with hn | ⟨g, cap, cur, hv, hbg, rest⟩
  · exact .inl hn
  · exact .inr ⟨g, cap, cur, hv, Nat.le_trans hb hbg, rest⟩
end Go.Proofs.Ytihhchebcojplaa
/- Lists of labels: as plain mathematics, and as they lie in memory. -/
namespace Go.Proofs.Ytihhchebcojplaa.Nm
open Go.RowKit

def wsum : List ByteArray → Nat
  | [] => 0
  | l :: r => (1 + l.size) + wsum r

def preL : List ByteArray → List UInt8
  | [] => []
  | l :: r => (UInt8.ofNat l.size :: l.data.toList) ++ preL r

def joinL (ls : List ByteArray) : List UInt8 := preL ls ++ [0]

theorem hide {p : Prop} (h : p) : Hid p := h

theorem wsum_append (a b : List ByteArray) : wsum (a ++ b) = wsum a + wsum b := by
  induction a with
  | nil => simp [wsum]
  | cons x a ih => simp only [List.cons_append, wsum, ih]; omega

theorem preL_append (a b : List ByteArray) : preL (a ++ b) = preL a ++ preL b := by
  induction a with
  | nil => simp [preL]
  | cons x a ih => simp [preL, ih]

theorem preL_length (ls : List ByteArray) : (preL ls).length = wsum ls := by
  induction ls with
  | nil => rfl
  | cons x a ih => simp only [preL, wsum, List.length_append, List.length_cons, ih, Array.length_toList, ByteArray.size_data]; omega

theorem joinL_length (ls : List ByteArray) : (joinL ls).length = wsum ls + 1 := by simp [joinL, preL_length]

theorem length_le_wsum (ls : List ByteArray) : ls.length ≤ wsum ls := by
  induction ls with
  | nil => simp
  | cons x a ih => simp only [wsum, List.length_cons]; omega

theorem take_step {α : Type} {ls : List α} {k : Nat} {x : α} (h : ls[k]? = some x) : ls.take (k + 1) = ls.take k ++ [x] := by
  obtain ⟨hk, e⟩ := List.getElem?_eq_some_iff.1 h
  rw [List.take_succ_eq_append_getElem hk, e]

theorem wsum_step {ls : List ByteArray} {k : Nat} {x : ByteArray} (h : ls[k]? = some x) : wsum (ls.take (k + 1)) = wsum (ls.take k) + (1 + x.size) := by
  rw [take_step h, wsum_append]; simp [wsum]

theorem preL_step {ls : List ByteArray} {k : Nat} {x : ByteArray} (h : ls[k]? = some x) : preL (ls.take (k + 1)) = preL (ls.take k) ++ (UInt8.ofNat x.size :: x.data.toList) := by
  rw [take_step h, preL_append]; simp [preL]

theorem wsum_take_le (ls : List ByteArray) (k : Nat) : wsum (ls.take k) ≤ wsum ls := by
  have e := wsum_append (ls.take k) (ls.drop k)
  rw [List.take_append_drop] at e; omega

/-- Bytes as cells. -/
def bys (l : List UInt8) : List Value := l.map fun b => Value.int .u8 b.toNat

theorem bys_append (a b : List UInt8) : bys (a ++ b) = bys a ++ bys b := by simp [bys]
theorem bys_length (a : List UInt8) : (bys a).length = a.length := by simp [bys]
theorem bys_str (s : ByteArray) : Go.Lib.strCells s = bys s.data.toList := rfl

/-- The labels 'ls' lie where the slice 'v' leads, and may be read. -/
def SRow (w : World) (v : Value) (ls : List ByteArray) : Prop :=
  ∃ a cap, v = .slice a ls.length cap ∧ ls.length ≤ cap ∧ cap ≤ maxLen ∧ (a = none → cap = 0) ∧
    (ls ≠ [] → ∃ b off, a = some ⟨b, off, none⟩ ∧ ∀ i x, ls[i]? = some x → w.cell? ⟨b, off + i, none⟩ = some (.string x))

theorem SRow.of_owns {w : World} {B e : Nat} {v : Value} {ls : List ByteArray} (h : w.ownsRow B e 1 v ls.length (ls.map Value.string)) : SRow w v ls := by
  rcases h.2 with ⟨rfl, h0⟩ | ⟨g, cap, cur, rfl, hb, hg, hn, hm, hs, ht⟩
  · have : ls = [] := List.length_eq_zero_iff.1 h0
    subst this
    exact ⟨none, 0, rfl, by simp, by decide, fun _ => rfl, fun h => absurd rfl h⟩
  · refine ⟨_, cap, rfl, hn, hm, (fun h => by cases h), fun _ => ⟨g, 0, rfl, ?_⟩⟩
    intro i x hx
    obtain ⟨hi, e⟩ := List.getElem?_eq_some_iff.1 hx
    rw [Nat.zero_add, h.cellAt i (by omega)]
    simp [hx]

theorem SRow.below {w w' : World} {v : Value} {ls : List ByteArray} (h : SRow w v ls) (hb : Below w.heap.size w w') : SRow w' v ls := by
  obtain ⟨a, cap, rfl, h1, h2, h2', h3⟩ := h
  refine ⟨a, cap, rfl, h1, h2, h2', fun hne => ?_⟩
  obtain ⟨b, off, rfl, hc⟩ := h3 hne
  refine ⟨b, off, rfl, fun i x hx => ?_⟩
  have := hc i x hx
  rw [hb.cell (World.block_lt_of_cell? w _ this)]
  exact this

theorem below_two {w w1 w2 : World} (h1 : Below w.heap.size w w1) (h2 : Below w1.heap.size w1 w2) : Below w.heap.size w w2 :=
  h1.trans (h2.mono h1.size)

/-- What one append of bytes onto a row of the call's own leaves. -/
theorem bys_step {W wr w1 : World} {v v' : Value} {B e n m : Nat} {l x : List UInt8} (hB : B ≤ wr.heap.size)
    (hown : wr.ownsRow B e 1 v n (bys l)) (hbel : Below B W wr)
    (hown' : w1.ownsRow B e 1 v' (n + m) (bys l ++ bys x)) (hgrow : wr.grownBy w1 v.ownBlock) :
    w1.ownsRow B e 1 v' (n + m) (bys (l ++ x)) ∧ Below B W w1 := by
  refine ⟨by rw [bys_append]; exact hown', ?_⟩
  exact hbel.grown hgrow hB (fun k hk => (hown.lt k hk).1)

theorem bys_step_str {W wr w1 : World} {v v' : Value} {B e n : Nat} {l : List UInt8} {x : ByteArray} (hB : B ≤ wr.heap.size)
    (hown : wr.ownsRow B e 1 v n (bys l)) (hbel : Below B W wr)
    (hown' : w1.ownsRow B e 1 v' (n + x.size) (bys l ++ Go.Lib.strCells x)) (hgrow : wr.grownBy w1 v.ownBlock) :
    w1.ownsRow B e 1 v' (n + x.size) (bys (l ++ x.data.toList)) ∧ Below B W w1 :=
  bys_step hB hown hbel hown' hgrow

theorem conv_own {P : Program} {w : World} {B e src dst n : Nat} {v : Value} {l : List UInt8} (hs : P.underlying src = some (.slice e)) (he : P.underlying e = some (.int .u8)) (hd : P.underlying dst = some .string)
    (h : w.ownsRow B e 1 v n (bys l)) (hp : 0 < n) :
    ∃ g cap, v = .slice (some ⟨g, 0, none⟩) n cap ∧ (convert src dst (.slice (some ⟨g, 0, none⟩) n cap)).run P w = .ok (.string ⟨l.toArray⟩) w := by
  have hn : n = l.length := by have := h.1; rw [bys_length] at this; omega
  subst hn
  rcases h.2 with ⟨rfl, h0⟩ | ⟨g, cap, cur, rfl, hb, hg, hnc, hm, hcs, ht⟩
  · omega
  · refine ⟨g, cap, rfl, run_convert_bytes_back w src dst e ⟨g, 0, none⟩ cap l hs he hd ?_⟩
    intro j hj
    exact h.cells (g := g) rfl j _ (by simp [bys, hj])

theorem addr_add (b off k : Nat) : (⟨b, off, none⟩ : Addr).add k = ⟨b, off + k, none⟩ := by
  unfold Addr.add; split <;> simp_all

theorem SRow.drop_all {w : World} {a : Option Addr} {ls : List ByteArray} {cap k : Nat} (h : SRow w (.slice a ls.length cap) ls) (hk : cap = k) : SRow w (.slice a (ls.length - k) 0) (ls.drop k) := by
  obtain ⟨a', cap', e, h1, h2, h3, h4⟩ := h
  simp only [Value.slice.injEq] at e
  obtain ⟨rfl, _, rfl⟩ := e
  have hd : ls.drop k = [] := List.drop_eq_nil_of_le (by omega)
  rw [hd]
  exact ⟨a, 0, by simp; omega, by simp, by decide, fun _ => rfl, fun h => absurd rfl h⟩

theorem SRow.drop {w : World} {a : Option Addr} {ls : List ByteArray} {cap k : Nat} (h : SRow w (.slice a ls.length cap) ls) (hk : k ≤ ls.length) :
    SRow w (.slice (a.map (fun x => x.add k)) (ls.length - k) (cap - k)) (ls.drop k) := by
  obtain ⟨a', cap', e, h1, h2, h3, h4⟩ := h
  simp only [Value.slice.injEq] at e
  obtain ⟨rfl, _, rfl⟩ := e
  refine ⟨_, _, by rw [List.length_drop], by rw [List.length_drop]; omega, by omega, ?_, ?_⟩
  · intro h; simp at h; have := h3 h; omega
  · intro hne
    obtain ⟨b, off, rfl, hc⟩ := h4 (by intro h; rw [h] at hne; simp at hne)
    refine ⟨b, off + k, by simp [addr_add], ?_⟩
    intro i x hx
    rw [List.getElem?_drop] at hx
    rw [Nat.add_assoc]
    exact hc _ _ hx

theorem wsum_drop_le (ls : List ByteArray) (k : Nat) : wsum (ls.drop k) ≤ wsum ls := by
  have e := wsum_append (ls.take k) (ls.drop k)
  rw [List.take_append_drop] at e; omega

theorem splitF_size : ∀ (f : Nat) (r : ByteArray) (ls : List ByteArray), splitF f r = some ls → wsum ls + 1 = r.size := by
  intro f
  induction f with
  | zero => intro r ls h; simp [splitF] at h
  | succ f ih =>
    intro r ls h
    by_cases hp : 0 < r.size
    · by_cases h0 : r[0].toNat = 0
      · by_cases h1 : r.size = 1
        · rw [splitF_end f r hp h0 h1] at h
          simp at h; subst h; simp [wsum]; omega
        · rw [splitF_zero f r hp h0 h1] at h; simp at h
      · by_cases h1 : 63 < r[0].toNat ∨ r.size < r[0].toNat + 1
        · rw [splitF_bad f r hp h0 h1] at h; simp at h
        · rw [splitF_step f r hp h0 (by omega) (by omega)] at h
          cases e : splitF f (r.extract (r[0].toNat + 1) r.size) with
          | none => rw [e] at h; simp at h
          | some t =>
            rw [e] at h
            simp at h
            have := ih _ _ e
            rw [← h]
            simp at this
            simp [wsum]; omega
    · rw [splitF_empty _ r (by omega)] at h; simp at h

theorem split_size {s : ByteArray} {ls : List ByteArray} (h : split s = some ls) : wsum ls + 1 = s.size ∧ s.size ≤ 255 := by
  by_cases hl : s.size ≤ 255
  · rw [split_short s hl] at h
    exact ⟨splitF_size _ _ _ h, hl⟩
  · rw [split_long s (by omega)] at h; simp at h

end Go.Proofs.Ytihhchebcojplaa.Nm
/- Rows of cells that are read; marks. -/
namespace Go.Proofs.Ytihhchebcojplaa
open Go.RowKit

/-- The cells 'cs' (n elements of s cells) lie where the slice 'v' leads. -/
def CRow (w : World) (v : Value) (n s : Nat) (cs : List Value) : Prop :=
  cs.length = n * s ∧ ∃ a cap, v = .slice a n cap ∧ n ≤ cap ∧ cap ≤ maxLen ∧
    (0 < n → ∃ b off, a = some ⟨b, off, none⟩ ∧ ∀ (i : Nat) (x : Value), cs[i]? = some x → w.cell? ⟨b, off + i, none⟩ = some x)

theorem CRow.of_owns {w : World} {B e s n : Nat} {v : Value} {cs : List Value} (h : w.ownsRow B e s v n cs) : CRow w v n s cs := by
  refine ⟨h.1, ?_⟩
  rcases h.2 with ⟨rfl, h0⟩ | ⟨g, cap, cur, rfl, hb, hg, hn, hm, hs, ht⟩
  · subst h0
    exact ⟨none, 0, rfl, Nat.le_refl _, by decide, fun h => by omega⟩
  · refine ⟨_, cap, rfl, hn, hm, fun _ => ⟨g, 0, rfl, ?_⟩⟩
    intro i x hx
    have hi : i < n * s := by rw [← h.1]; exact (List.getElem?_eq_some_iff.1 hx).1
    rw [Nat.zero_add, h.cellAt i hi]
    exact hx

theorem CRow.below {w w' : World} {v : Value} {n s : Nat} {cs : List Value} (h : CRow w v n s cs) (hb : Below w.heap.size w w') : CRow w' v n s cs := by
  obtain ⟨h0, a, cap, rfl, h1, h2, h3⟩ := h
  refine ⟨h0, a, cap, rfl, h1, h2, fun hp => ?_⟩
  obtain ⟨b, off, rfl, hc⟩ := h3 hp
  refine ⟨b, off, rfl, fun i x hx => ?_⟩
  have := hc i x hx
  rw [hb.cell (World.block_lt_of_cell? w _ this)]
  exact this

theorem own_apart {w w1 : World} {B B' e e' s s' n n' : Nat} {v u : Value} {xs ys : List Value} (h : w.ownsRow B e s v n xs) (h' : w.ownsRow B' e' s' u n' ys) (hne : e ≠ e') (hg : w.grownBy w1 u.ownBlock) : w1.ownsRow B e s v n xs := by
  refine h.kept hg ?_
  rcases h.2 with ⟨rfl, _⟩ | ⟨g, cap, cur, rfl, _, hh, _⟩
  · exact .inl rfl
  · right
    rcases h'.2 with ⟨rfl, _⟩ | ⟨g', cap', cur', rfl, _, hh', _⟩
    · simp [Value.ownBlock]
    · simp only [Value.ownBlock, ne_eq, Option.some.injEq]
      intro e2
      subst e2
      rw [hh] at hh'
      simp at hh'
      exact hne hh'.2

/-- The marks: k, k + 1, .. -/
def ints (k m : Nat) : List Value := (List.range m).map fun i => .int .i64 ((k + i : Nat) : Int)
theorem ints_len (k m : Nat) : (ints k m).length = m := by simp [ints]
theorem ints_get {k m i : Nat} (h : i < m) : (ints k m)[i]? = some (.int .i64 ((k + i : Nat) : Int)) := by simp [ints, h]
theorem ints_set {k m i : Nat} {xs : List Value} (hl : xs.length = m) (h : i < m) :
    ((ints k m).take i ++ xs.drop i).set i (.int .i64 ((k + i : Nat) : Int)) = (ints k m).take (i + 1) ++ xs.drop (i + 1) := by
  have h1 : ((ints k m).take i).length = i := by simp [ints_len]; omega
  have h2 : (ints k m).take (i + 1) = (ints k m).take i ++ [.int .i64 ((k + i : Nat) : Int)] := by
    obtain ⟨hi, e⟩ := List.getElem?_eq_some_iff.1 (ints_get (k := k) h)
    rw [List.take_succ_eq_append_getElem hi, e]
  rw [h2, List.set_append_right _ _ (by omega), h1, List.drop_eq_getElem_cons (by omega : i < xs.length), Nat.sub_self, List.set_cons_zero, List.append_assoc]
  rfl
theorem ints_cell {k m i j : Nat} {xs : List Value} (hl : xs.length = m) (h : j < m) : ∃ y, ((ints k m).take i ++ xs.drop i)[j]? = some y :=
  ⟨_, List.getElem?_eq_getElem (by simp [ints_len]; omega)⟩
theorem ints_done {k m : Nat} {xs : List Value} (hl : xs.length = m) : (ints k m).take m ++ xs.drop m = ints k m := by
  rw [List.take_of_length_le (by rw [ints_len]; omega), List.drop_of_length_le (by omega), List.append_nil]
end Go.Proofs.Ytihhchebcojplaa
/- Variables that lie in blocks of their own. -/
namespace Go.Proofs.Ytihhchebcojplaa
open Go.RowKit
set_option linter.unusedVariables false

theorem hgr_step {w w1 w2 : World} {g : Nat} (h : w.grownBy w1 (some g)) (h2 : w1.grownBy w2 (some g)) : w.grownBy w2 (some g) :=
  ⟨h2.os.trans h.os, h2.tape.trans h.tape, h2.output.trans h.output, Nat.le_trans h.size h2.size, fun k hk hne => (h2.block k (Nat.lt_of_lt_of_le hk h.size) hne).trans (h.block k hk hne)⟩

theorem hgr_below {w w1 w2 : World} {g : Nat} (h : w.grownBy w1 (some g)) (h2 : Below w1.heap.size w1 w2) : w.grownBy w2 (some g) :=
  ⟨h2.os.trans h.os, h2.tape.trans h.tape, h2.output.trans h.output, Nat.le_trans h.size h2.size, fun k hk hne =>
    (h2.block k (Nat.lt_of_lt_of_le hk h.size)).trans (h.block k hk hne)⟩

theorem hgr_set {w w1 : World} {g b i : Nat} {v : Value} (h : w.grownBy w1 (some g)) (hb : w.heap.size ≤ b) : w.grownBy (w1.setCell ⟨b, i, none⟩ v) (some g) :=
  ⟨h.os, h.tape, h.output, by simpa using h.size, fun k hk hne => by rw [heap_setCell_other w1 ⟨b, i, none⟩ k _ (by simp; omega)]; exact h.block k hk hne⟩

/-- A variable's cells lie in block b. -/
def Blk (w : World) (b : Nat) (cs : Array Value) (T : TypeId) : Prop := w.heap[b]? = some (.cells cs T (0, 0))

theorem blk_lt {w : World} {b : Nat} {cs : Array Value} {T : TypeId} (h : Blk w b cs T) : b < w.heap.size := (Array.getElem?_eq_some_iff.1 h).1
theorem blk_grown {w w1 : World} {b : Nat} {cs : Array Value} {T : TypeId} {row : Option Nat} (h : Blk w b cs T) (hg : w.grownBy w1 row) (hr : row ≠ some b) : Blk w1 b cs T := by
  unfold Blk
  rw [hg.block b (blk_lt h) (fun e => hr e.symm)]; exact h
theorem blk_below {w w1 : World} {b : Nat} {cs : Array Value} {T : TypeId} (h : Blk w b cs T) (hb : Below w.heap.size w w1) : Blk w1 b cs T := by
  unfold Blk
  rw [hb.block b (blk_lt h)]; exact h
theorem blk_new (w : World) (cs : Array Value) (T : TypeId) : Blk (w.alloc (.cells cs T)) w.heap.size cs T := by
  unfold Blk; show (w.heap.push _)[w.heap.size]? = _; simp
theorem blk_alloc {w : World} {b : Nat} {cs : Array Value} {T : TypeId} (h : Blk w b cs T) (o : Obj) : Blk (w.alloc o) b cs T :=
  blk_below h ((Below.refl _ _).alloc (Nat.le_refl _) o)
theorem blk_cell {w : World} {b : Nat} {cs : Array Value} {T : TypeId} (h : Blk w b cs T) (i : Nat) : w.cell? ⟨b, i, none⟩ = cs[i]? := cell_of_row _ _ _ _ _ _ h
theorem blk_frozen {w : World} {b : Nat} {cs : Array Value} {T : TypeId} (h : Blk w b cs T) (i : Nat) : w.frozen? ⟨b, i, none⟩ = false := frozen_of_row w b i _ _ h
theorem blk_set {w : World} {b : Nat} {cs : Array Value} {T : TypeId} (h : Blk w b cs T) (i : Nat) (v : Value) : Blk (w.setCell ⟨b, i, none⟩ v) b (cs.setIfInBounds i v) T := heap_setCell_same w b i _ _ v h
theorem blk_far {w : World} {b c i : Nat} {cs : Array Value} {T : TypeId} {v : Value} (h : Blk w b cs T) (hne : b ≠ c) : Blk (w.setCell ⟨c, i, none⟩ v) b cs T := by
  unfold Blk
  rw [heap_setCell_other w ⟨c, i, none⟩ b _ (by simpa using hne)]; exact h

/-- Values are laid into the cells of a block from a place on. -/
def setAll (w : World) (b i : Nat) : List Value → World
  | [] => w
  | v :: vs => setAll (w.setCell ⟨b, i, none⟩ v) b (i + 1) vs

theorem setAll_same {b : Nat} {T : TypeId} : ∀ (vs old pre : List Value) (w : World), Blk w b (pre ++ old).toArray T → old.length = vs.length → Blk (setAll w b pre.length vs) b (pre ++ vs).toArray T := by
  intro vs
  induction vs with
  | nil =>
    intro old pre w h hl
    have : old = [] := List.length_eq_zero_iff.1 hl
    subst this
    exact h
  | cons v vs ih =>
    intro old pre w h hl
    cases old with
    | nil => simp at hl
    | cons x old =>
      have h2 := blk_set h pre.length v
      have e : (pre ++ x :: old).toArray.setIfInBounds pre.length v = ((pre ++ [v]) ++ old).toArray := by simp
      rw [e] at h2
      have h3 := ih old (pre ++ [v]) _ h2 (by simpa using hl)
      rw [List.length_append] at h3
      simpa [setAll] using h3

theorem setAll_new {b : Nat} {T : TypeId} {old : Array Value} (vs : List Value) {w : World} (h : Blk w b old T) (hl : old.size = vs.length) : Blk (setAll w b 0 vs) b vs.toArray T := by
  have := setAll_same vs old.toList [] w (by simpa using h) (by simpa using hl)
  simpa using this

theorem setAll_far {b c : Nat} {T : TypeId} {cs : Array Value} (hne : b ≠ c) : ∀ (vs : List Value) (i : Nat) (w : World), Blk w b cs T → Blk (setAll w c i vs) b cs T := by
  intro vs
  induction vs with
  | nil => intro i w h; exact h
  | cons v vs ih => intro i w h; exact ih (i + 1) _ (blk_far h hne)

theorem setAll_grown {w : World} {g b : Nat} (hb : w.heap.size ≤ b) : ∀ (vs : List Value) (i : Nat) (W : World), w.grownBy W (some g) → w.grownBy (setAll W b i vs) (some g) := by
  intro vs
  induction vs with
  | nil => intro i W h; exact h
  | cons v vs ih => intro i W h; exact ih (i + 1) _ (hgr_set h hb)

theorem blk_drew {w : World} {b : Nat} {cs : Array Value} {T : TypeId} (h : Blk w b cs T) : Blk w.drew b cs T := h
end Go.Proofs.Ytihhchebcojplaa
/- Rows of one's own beside what is written. -/
namespace Go.Proofs.Ytihhchebcojplaa
open Go.RowKit
set_option linter.unusedVariables false

theorem own_sl {w : World} {B e s n : Nat} {v : Value} {xs : List Value} (h : w.ownsRow B e s v n xs) : ∃ a cap, v = .slice a n cap := by
  rcases h.2 with ⟨rfl, rfl⟩ | ⟨g, cap, cur, rfl, _⟩
  · exact ⟨_, _, rfl⟩
  · exact ⟨_, _, rfl⟩

theorem own_far {W : World} {B e s n g i : Nat} {v y : Value} {xs : List Value} (h : W.ownsRow B e s v n xs) (hg : v.ownBlock ≠ some g) : (W.setCell ⟨g, i, none⟩ y).ownsRow B e s v n xs := by
  refine ⟨h.1, ?_⟩
  rcases h.2 with h0 | ⟨g', cap, cur, rfl, hb, hh, r⟩
  · exact .inl h0
  · refine .inr ⟨g', cap, cur, rfl, hb, ?_, r⟩
    rw [heap_setCell_other W ⟨g, i, none⟩ g' _ (fun e => hg (by simp [Value.ownBlock, e]))]
    exact hh

theorem own_far_lt {W : World} {B e s n g i : Nat} {v y : Value} {xs : List Value} (h : W.ownsRow B e s v n xs) (hg : g < B) : (W.setCell ⟨g, i, none⟩ y).ownsRow B e s v n xs := by
  refine own_far h (fun e => ?_)
  have := (h.lt g e).1
  omega

theorem own_ne {W : World} {B e s n B' e' s' m g cap : Nat} {v : Value} {xs ys : List Value} (h : W.ownsRow B e s v n xs) (h' : W.ownsRow B' e' s' (.slice (some ⟨g, 0, none⟩) m cap) m ys) (hne : e ≠ e') : v.ownBlock ≠ some g := by
  intro he
  rcases h'.2 with ⟨h0, _⟩ | ⟨g', cap', cur', e1, _, hh', _⟩
  · cases h0
  · cases e1
    rcases h.2 with ⟨rfl, _⟩ | ⟨g2, cap2, cur2, rfl, _, hh, _⟩
    · cases he
    · simp only [Value.ownBlock, Option.some.injEq] at he
      subst he
      rw [hh] at hh'
      simp only [Option.some.injEq, Obj.cells.injEq] at hh'
      exact hne hh'.2.1
end Go.Proofs.Ytihhchebcojplaa
/- A region whose last operation, a store, may break what is held: everything else waits for nothing of it. -/
namespace Go.Proofs.Ytihhchebcojplaa
open Go

section
variable {P : Program} {ops : Array Oper} {Q : Exit → Act → World → Prop} {md : Region.Mode} {S : World → Prop} {L : Nat}

/-- Whatever order is picked from here on, and S holds behind every operation but number L. -/
def wpAnyL (P : Program) (md : Region.Mode) (ops : Array Oper) (Q : Exit → Act → World → Prop) (S : World → Prop) (L : Nat) : Nat → Array Bool → Act → World → Prop
  | 0, listed, a, w => Region.ready md ops listed = [] ∧ Q .normal a w
  | fuel + 1, listed, a, w =>
    (Region.ready md ops listed = [] → Q .normal a w) ∧
    ∀ i ∈ Region.ready md ops listed, wpOp P ops Q i (fun a' w' => (i = L ∨ S w') ∧ wpAnyL P md ops Q S L fuel (listed.setIfInBounds i true) a' w') a w

theorem wpAny_of_last : ∀ (fuel : Nat) (listed : Array Bool) (a : Act) (w : World), wpAnyL P md ops Q S L fuel listed a w → wpAny P md ops Q fuel listed a w
  | 0, _, _, _, h => h
  | fuel + 1, _, _, _, h => ⟨h.1, fun i hi => wpOp_mono (fun a' w' h' => wpAny_of_last fuel _ a' w' h'.2) (h.2 i hi)⟩

/-- Number L waits for number i. -/
def waitsFor (md : Region.Mode) (ops : Array Oper) (L i : Nat) : Bool := match ops[L]? with
  | some o => o.after.any (fun e => Region.binds md e && e.on == i)
  | none => true

/-- Of two that may come up neither waits for the other. -/
theorem ready_free {listed : Array Bool} {i j : Nat} {oj : Oper} (hi : i ∈ Region.ready md ops listed) (hj : j ∈ Region.ready md ops listed) (ho : ops[j]? = some oj) : ∀ e ∈ oj.after, Region.binds md e = true → e.on ≠ i := by
  rintro e he hb rfl
  obtain ⟨_, o, ho2, hall⟩ := mem_ready.1 hj
  obtain rfl : oj = o := Option.some.inj (ho.symm.trans ho2)
  have h1 := hall e he hb
  have h0 := (mem_ready.1 hi).1
  rw [Array.getD_eq_getD_getElem?] at h0 h1
  cases hx : listed[e.on]? with
  | none => rw [hx] at h1; cases h1
  | some b => rw [hx] at h0 h1; simp only [Option.getD_some] at h0 h1; rw [h0] at h1; cases h1

/-- So number L does not come up ahead of what it waits for. -/
theorem last_waits {listed : Array Bool} {i j : Nat} (hL : waitsFor md ops L i = true) (hi : i ∈ Region.ready md ops listed) (hj : j ∈ Region.ready md ops listed) : j ≠ L := by
  rintro rfl
  obtain ⟨_, o, ho, _⟩ := mem_ready.1 hj
  rw [waitsFor, ho] at hL
  simp only [Array.any_eq_true', Bool.and_eq_true, beq_iff_eq] at hL
  obtain ⟨e, he, hb, h⟩ := hL
  exact ready_free hi hj ho e he hb h

/-- What nobody touches that may come ahead of it. -/
def Untouched (md : Region.Mode) (ops : Array Oper) (oi : Oper) (i : Nat) (listed : Array Bool) : Prop := ∀ j oj, ops[j]? = some oj → j ≠ i → listed.getD j true = false → (∀ e ∈ oj.after, Region.binds md e = true → e.on ≠ i) → oi.apart ops oj = true

theorem Untouched.more {oi : Oper} {i j : Nat} {listed : Array Bool} (h : Untouched md ops oi i listed) (hj : listed.getD j true = false) : Untouched md ops oi i (listed.setIfInBounds j true) := by
  intro k ok hk hki hun
  refine h k ok hk hki ?_
  rcases Nat.decEq j k with hne | rfl
  · rw [getD_set_ne true hne] at hun; exact hun
  · exact hj

theorem wpAnyL_first {i : Nat} {oi : Oper} {v : Value} (hi : ops[i]? = some oi) (hsel : ∀ (j : Nat) (o : Oper) cs b, ops[j]? = some o → o.op ≠ .select cs b)
    (hQ : ∀ c a w, Q (.panic c) (a.put oi.dst v) w → Q (.panic c) a w) (hL : waitsFor md ops L i = true) (fuel : Nat) :
    ∀ (listed : Array Bool) (a : Act) (w : World), Untouched md ops oi i listed → i ∈ Region.ready md ops listed → YieldsIf P ops S oi v a → S w →
      wpAnyL P md ops Q S L fuel (listed.setIfInBounds i true) (a.put oi.dst v) w → wpAnyL P md ops Q S L (fuel + 1) listed a w := by
  induction fuel with
  | zero =>
    intro listed a w _ hr hy hS H
    refine ⟨fun h => absurd (h ▸ hr) (by simp), fun j hj => ?_⟩
    rcases Nat.decEq j i with hne | rfl
    · exact absurd (H.1 ▸ ready_mono hj hne) (by simp)
    · exact hy.wpOp hi hS ⟨.inr hS, H⟩
  | succ fuel ih =>
    intro listed a w hun hr hy hS H
    refine ⟨fun h => absurd (h ▸ hr) (by simp), fun j hj => ?_⟩
    rcases Nat.decEq j i with hne | rfl
    · obtain ⟨hju, oj, hoj, _⟩ := mem_ready.1 hj
      have hstep := wpOp_putIf hoj (hun j oj hoj hne hju (ready_free hr hj hoj)) (fun cs b => hsel i oi cs b hi) (fun cs b => hsel j oj cs b hoj) hQ hy (H.2 j (ready_mono hj hne))
      refine wpOp_mono (fun a' w' ⟨hy', hS', hW⟩ => ?_) hstep
      have hSw := hS'.resolve_left (last_waits hL hr hj)
      exact ⟨.inr hSw, ih _ a' w' (hun.more hju) (ready_mono hr (Ne.symm hne)) hy' hSw (by rw [Array.setIfInBounds_comm _ _ hne]; exact hW)⟩
    · exact hy.wpOp hi hS ⟨.inr hS, H⟩

/-- Take number i first. -/
theorem wpAnyL_take {i : Nat} {oi : Oper} {v : Value} {fuel : Nat} {listed : Array Bool} {a : Act} {w : World} (hi : ops[i]? = some oi)
    (hs : Region.noSelect ops = true) (hf : Region.free md ops listed i = true) (hr : (Region.ready md ops listed).contains i = true) (hL : waitsFor md ops L i = true)
    (hQ : ∀ c a w, Q (.panic c) (a.put oi.dst v) w → Q (.panic c) a w) (hy : YieldsIf P ops S oi v a) (hS : S w)
    (h : wpAnyL P md ops Q S L fuel (listed.setIfInBounds i true) (a.put oi.dst v) w) : wpAnyL P md ops Q S L (fuel + 1) listed a w :=
  wpAnyL_first hi (Region.noSelect_spec hs) hQ hL fuel listed a w (Region.free_spec hi hf) (by simpa using hr) hy hS h

/-- Just one may come up, and it is not number L. -/
theorem wpAnyL_one {i : Nat} {o : Oper} {fuel : Nat} {listed : Array Bool} {a : Act} {w : World} (hr : Region.ready md ops listed = [i]) (ho : ops[i]? = some o)
    (h : ∀ K' : Act → World → Prop, Shut (∀ a w, S w → (S w → wpAnyL P md ops Q S L fuel (listed.setIfInBounds i true) a w) → K' a w) → if Region.wanted o (yielded ops a.tmps) = true then Oper.wp P o a w K' Q else K' (a.put o.dst undef) w) :
    wpAnyL P md ops Q S L (fuel + 1) listed a w := by
  refine ⟨fun h0 => (by rw [hr] at h0; cases h0), fun j hj => ?_⟩
  rw [hr] at hj
  obtain rfl : j = i := by simpa using hj
  exact wpOp_step ho (fun K' hK => h K' (fun a w hS hW => hK a w ⟨.inr hS, hW hS⟩))

/-- Number L comes up, the last of all. -/
theorem wpAnyL_end {o : Oper} {fuel : Nat} {listed : Array Bool} {a : Act} {w : World} (hr : Region.ready md ops listed = [L]) (ho : ops[L]? = some o) (he : Region.ready md ops (listed.setIfInBounds L true) = [])
    (h : ∀ K' : Act → World → Prop, Shut (∀ a w, Q .normal a w → K' a w) → if Region.wanted o (yielded ops a.tmps) = true then Oper.wp P o a w K' Q else K' (a.put o.dst undef) w) :
    wpAnyL P md ops Q S L (fuel + 1) listed a w := by
  refine ⟨fun h0 => (by rw [hr] at h0; cases h0), fun j hj => ?_⟩
  rw [hr] at hj
  obtain rfl : j = L := by simpa using hj
  refine wpOp_step ho (fun K' hK => h K' (fun a w hq => hK a w ⟨.inl rfl, ?_⟩))
  cases fuel with
  | zero => exact ⟨he, hq⟩
  | succ n => exact ⟨fun _ => hq, by rw [he]; intro i hi; cases hi⟩

theorem wp_region_last {id : Nat} {a : Act} {w : World} (S : World → Prop) (L : Nat) (hm : P.follows .mixedOrders = true) (hS : S w.drew)
    (h : S w.drew → wpAnyL P .any ops Q S L ops.size (Array.replicate ops.size false) a w.drew) : (Code.region id ops true).wp P Q a w :=
  wp_region_any hm (wpAny_of_last _ _ _ _ (h hS))
end
end Go.Proofs.Ytihhchebcojplaa
/- A step of a drawn region: append onto a row of one's own. -/
namespace Go.Proofs.Ytihhchebcojplaa
open Go
set_option linter.unusedVariables false

theorem step_append_own {P : Program} {ops : Array Oper} {o : Oper} {a : Act} {w : World} {K : Act → World → Prop} {Q : Exit → Act → World → Prop} {E : Prop} (hgd : o.guard = none) (s x : Operand) (t : TypeId)
    (ho : o.op = .call { callee := .builtin .append, args := #[s, x], argTypes := #[t, t] })
    (base : Nat) (e : TypeId) (i : TypeInfo) (z : Value) (size bytes : Nat) (ht : P.underlying t = some (.slice e)) (hi : P.info? e = some i) (hz : i.zero = some z)
    (hsize : i.size = size) (hby : i.bytes = bytes) (hzs : z.cells.size = size) (hsz : 0 < size)
    (v : Value) (n : Nat) (xs : List Value) (hs : a.eval s = v) (hown : w.ownsRow base e size v n xs)
    (ad : Addr) (m c : Nat) (news : List Value) (hx : a.eval x = .slice (some ad) m c) (hl : news.length = m * size) (hnews : ∀ j u, news[j]? = some u → w.cell? (ad.add j) = some u) (h1 : ∀ u ∈ news, u.oneCell' = true)
    (h63 : n + m ≤ maxLen) (hbytes : (n + m) * bytes ≤ 140737488355328) (hbase : base ≤ w.heap.size)
    (h : ∀ v' w', w'.ownsRow base e size v' (n + m) (xs ++ news) → w.grownBy w' v.ownBlock → (v' = .slice none 0 0 ↔ v = .slice none 0 0 ∧ m = 0) → K (a.put o.dst v') w') :
    if Region.wanted o (yielded ops a.tmps) = true then Oper.wp P o a w K Q else E := by
  have hw : Region.wanted o (yielded ops a.tmps) = true := by simp [Region.wanted, hgd]
  rw [if_pos hw]
  exact wp_append_own w s x t ho base e i z size bytes ht hi hz hsize hby hzs hsz v n xs hs hown ad m c news hx hl hnews h1 h63 hbytes hbase h

end Go.Proofs.Ytihhchebcojplaa
/- Folding, and the order of texts, as plain mathematics. -/
namespace Go.Proofs.Ytihhchebcojplaa.Nm
open Go.RowKit

def low (c : UInt8) : UInt8 := if 65 ≤ c.toNat ∧ c.toNat ≤ 90 then UInt8.ofNat (c.toNat + 32) else c
def smallL (l : List UInt8) : List UInt8 := l.map low
def small (s : ByteArray) : ByteArray := ⟨(smallL s.data.toList).toArray⟩

theorem low_up {c : UInt8} (h : 65 ≤ c.toNat ∧ c.toNat ≤ 90) : ((low c).toNat : Int) = (c.toNat : Int) + 32 := by
  rw [low, if_pos h]; simp; omega
theorem low_id {c : UInt8} (h : ¬ (65 ≤ c.toNat ∧ c.toNat ≤ 90)) : low c = c := by rw [low, if_neg h]

theorem small_data (s : ByteArray) : (small s).data.toList = smallL s.data.toList := by simp [small]
theorem small_size (s : ByteArray) : (small s).size = s.size := by
  have : (small s).data.toList.length = s.data.toList.length := by rw [small_data]; simp [smallL]
  simpa using this

theorem ba_ext {a b : ByteArray} (h : a.data.toList = b.data.toList) : a = b := by
  apply ByteArray.ext
  exact Array.toList_inj.1 h

theorem smallL_step {l : List UInt8} {k : Nat} {c : UInt8} (h : l[k]? = some c) : smallL (l.take (k + 1)) = smallL (l.take k) ++ [low c] := by
  rw [take_step h]; simp [smallL]

theorem get_data {x : ByteArray} {j : Nat} (h : j < x.size) : x.data.toList[j]? = some x[j] := by
  rw [List.getElem?_eq_getElem (by simpa using h)]; rfl

/-! What 'split' gives back, put together again. -/

theorem cut_data (r : ByteArray) (h : 0 < r.size) (n : Nat) :
    r.data.toList = r[0] :: ((r.extract 1 (n + 1)).data.toList ++ (r.extract (n + 1) r.size).data.toList) := by
  have e0 : r.data.toList = r[0] :: r.data.toList.drop 1 := by
    have hl : 0 < r.data.toList.length := by simpa using h
    have := List.drop_eq_getElem_cons (i := 0) hl
    rw [List.drop_zero] at this
    exact this
  rw [e0]
  congr 1
  have e1 : (r.extract 1 (n + 1)).data.toList = (r.data.toList.drop 1).take n := by simp
  have e2 : (r.extract (n + 1) r.size).data.toList = (r.data.toList.drop 1).drop n := by
    simp only [ByteArray.data_extract, Array.toList_extract, List.drop_drop]
    rw [List.extract_eq_take_drop, List.take_of_length_le (by simp)]
    congr 1
    omega
  rw [e1, e2, List.take_append_drop]

theorem splitF_join : ∀ (f : Nat) (r : ByteArray) (ls : List ByteArray), splitF f r = some ls → joinL ls = r.data.toList ∧ ∀ x ∈ ls, 1 ≤ x.size ∧ x.size ≤ 63 := by
  intro f
  induction f with
  | zero => intro r ls h; simp [splitF] at h
  | succ f ih =>
    intro r ls h
    by_cases hp : 0 < r.size
    · by_cases h0 : r[0].toNat = 0
      · by_cases h1 : r.size = 1
        · rw [splitF_end f r hp h0 h1] at h
          simp at h
          subst h
          refine ⟨?_, by simp⟩
          have e := cut_data r hp 0
          have z : r[0] = 0 := UInt8.toNat_inj.1 (by simpa using h0)
          rw [e, z]
          have e1 : (r.extract 1 (0 + 1)).data.toList = [] := by simp
          have e2 : (r.extract (0 + 1) r.size).data.toList = [] := by simp [h1]
          rw [e1, e2]; rfl
        · rw [splitF_zero f r hp h0 h1] at h; simp at h
      · by_cases h1 : 63 < r[0].toNat ∨ r.size < r[0].toNat + 1
        · rw [splitF_bad f r hp h0 h1] at h; simp at h
        · rw [splitF_step f r hp h0 (by omega) (by omega)] at h
          cases e : splitF f (r.extract (r[0].toNat + 1) r.size) with
          | none => rw [e] at h; simp at h
          | some t =>
            rw [e] at h
            simp at h
            obtain ⟨i1, i2⟩ := ih _ _ e
            have hsz : (r.extract 1 (r[0].toNat + 1)).size = r[0].toNat := by simp; omega
            rw [← h]
            constructor
            · rw [cut_data r hp r[0].toNat, ← i1]
              simp only [joinL, preL, hsz]
              simp
            · intro x hx
              rcases List.mem_cons.1 hx with rfl | hx
              · rw [hsz]; omega
              · exact i2 x hx
    · rw [splitF_empty _ r (by omega)] at h; simp at h

theorem split_join {s : ByteArray} {ls : List ByteArray} (h : split s = some ls) : joinL ls = s.data.toList ∧ ∀ x ∈ ls, 1 ≤ x.size ∧ x.size ≤ 63 := by
  by_cases hl : s.size ≤ 255
  · rw [split_short s hl] at h
    exact splitF_join _ _ _ h
  · rw [split_long s (by omega)] at h; simp at h

theorem low_len {n : Nat} (h : n ≤ 63) : low (UInt8.ofNat n) = UInt8.ofNat n := by
  apply low_id
  simp; omega

theorem preL_small (ls : List ByteArray) (h : ∀ x ∈ ls, x.size ≤ 63) : preL (ls.map small) = smallL (preL ls) := by
  induction ls with
  | nil => rfl
  | cons x r ih =>
    have hx := h x (List.mem_cons_self)
    have := ih (fun y hy => h y (List.mem_cons_of_mem _ hy))
    simp only [List.map_cons, preL, small_size, small_data, this]
    simp [smallL, low_len hx]

theorem joinL_small {s : ByteArray} {ls : List ByteArray} (h : split s = some ls) : (⟨(joinL (ls.map small)).toArray⟩ : ByteArray) = small s := by
  obtain ⟨h1, h2⟩ := split_join h
  apply ba_ext
  rw [small_data, ← h1]
  simp only [joinL]
  rw [preL_small ls (fun x hx => (h2 x hx).2)]
  simp [smallL, low]

theorem wsum_small (ls : List ByteArray) : wsum (ls.map small) = wsum ls := by
  induction ls with
  | nil => rfl
  | cons x r ih => simp only [List.map_cons, wsum, small_size, ih]

def foldS (s : ByteArray) : ByteArray := if (split s).isSome then small s else ByteArray.empty
theorem foldS_none {s : ByteArray} (h : split s = none) : foldS s = ByteArray.empty := by simp [foldS, h]
theorem foldS_some {s : ByteArray} {ls : List ByteArray} (h : split s = some ls) : foldS s = small s := by simp [foldS, h]

end Go.Proofs.Ytihhchebcojplaa.Nm
/- The model's writer; spec.l04Text by its contract. -/
namespace Go.Proofs.Ytihhchebcojplaa
open Go.RowKit
set_option linter.unusedVariables false

def plV (p : ByteArray × Nat) : List Value := [.string p.1, .int .i64 (p.2 : Int)]
def plVs (l : List (ByteArray × Nat)) : List Value := l.flatMap plV
theorem plVs_app (a b : List (ByteArray × Nat)) : plVs (a ++ b) = plVs a ++ plVs b := by simp [plVs]

/-- The model's writer lies in block g. -/
structure SW (w : World) (g B : Nat) (bs : List UInt8) (pls : List (ByteArray × Nat)) (vb vp : Value) : Prop where
  blk : Blk w g #[vb, vp] 58
  rb : w.ownsRow B 5 1 vb bs.length (Nm.bys bs)
  rp : w.ownsRow B 122 2 vp pls.length (plVs pls)
  bg : B ≤ g
theorem SW.below {w W : World} {g B : Nat} {bs : List UInt8} {pls : List (ByteArray × Nat)} {vb vp : Value} (h : SW w g B bs pls vb vp) (hb : Below w.heap.size w W) : SW W g B bs pls vb vp := ⟨blk_below h.blk hb, own_below h.rb hb, own_below h.rp hb, h.bg⟩

theorem own_blk {W : World} {B e s m b : Nat} {v : Value} {xs : List Value} {cs : Array Value} {T : TypeId} (h : W.ownsRow B e s v m xs) (hb : Blk W b cs T) (hne : e ≠ T) : v.ownBlock ≠ some b := by
  rcases h.2 with ⟨rfl, _⟩ | ⟨g', cap', cur, rfl, _, hh, _⟩
  · simp [Value.ownBlock]
  · simp only [Value.ownBlock, ne_eq, Option.some.injEq]
    intro e2
    subst e2
    unfold Blk at hb
    rw [hh] at hb
    simp at hb
    exact hne hb.2
theorem own_beside {W W1 : World} {B e s m : Nat} {v u : Value} {xs : List Value} (h : W.ownsRow B e s v m xs) (hg : W.grownBy W1 u.ownBlock) (ha : ∀ g, u.ownBlock = some g → v.ownBlock ≠ some g) : W1.ownsRow B e s v m xs := by
  refine h.kept hg ?_
  cases hu : u.ownBlock with
  | none =>
    cases hv : v.ownBlock with
    | none => exact .inl rfl
    | some k => right; simp
  | some k => right; exact ha k hu
theorem own_kinds {W : World} {B e s m B' e' s' m' : Nat} {v u : Value} {xs ys : List Value} (h : W.ownsRow B e s v m xs) (h' : W.ownsRow B' e' s' u m' ys) (hne : e ≠ e') : ∀ g, u.ownBlock = some g → v.ownBlock ≠ some g := by
  intro g hg
  rcases h'.2 with ⟨rfl, _⟩ | ⟨g', cap', cur', rfl, r⟩
  · cases hg
  · simp only [Value.ownBlock, Option.some.injEq] at hg
    subst hg
    exact own_ne h ⟨h'.1, .inr ⟨g', cap', cur', rfl, r⟩⟩ hne

/-- Below B, and of other types than the writer's own nothing is changed. -/
structure Bk (B : Nat) (w w' : World) : Prop where
  be : Below B w w'
  kp : ∀ k cs T, Blk w k cs T → T ≠ 5 → T ≠ 122 → T ≠ 58 → Blk w' k cs T
theorem Bk.refl (B : Nat) (w : World) : Bk B w w := ⟨Below.refl _ _, fun _ _ _ h _ _ _ => h⟩
theorem Bk.trans {B : Nat} {a b c : World} (h : Bk B a b) (k : Bk B b c) : Bk B a c := ⟨h.be.trans k.be, fun i cs T hb h1 h2 h3 => k.kp i cs T (h.kp i cs T hb h1 h2 h3) h1 h2 h3⟩
theorem Bk.of {B : Nat} {w w' : World} (h : Below w.heap.size w w') (hB : B ≤ w.heap.size) : Bk B w w' := ⟨h.mono hB, fun i cs T hb _ _ _ => blk_below hb h⟩
theorem Bk.app {B e s n : Nat} {w W W1 : World} {v : Value} {xs : List Value} (h : Bk B w W) (ho : W.ownsRow B e s v n xs) (hg : W.grownBy W1 v.ownBlock) (hB : B ≤ W.heap.size) (he : e = 5 ∨ e = 122) : Bk B w W1 := by
  refine ⟨h.be.grown hg hB (fun q hq => (ho.lt q hq).1), fun i cs T hb h1 h2 h3 => ?_⟩
  have hb' := h.kp i cs T hb h1 h2 h3
  refine blk_grown hb' hg (fun e => own_blk ho hb' ?_ e)
  rcases he with rfl | rfl
  · exact Ne.symm h1
  · exact Ne.symm h2
theorem Bk.set {B g : Nat} {w W : World} {cs : Array Value} (h : Bk B w W) (hb : Blk W g cs 58) (hg : B ≤ g) (i : Nat) (v : Value) : Bk B w (W.setCell ⟨g, i, none⟩ v) := by
  refine ⟨h.be.setCell hg _, fun k c T hk h1 h2 h3 => ?_⟩
  have hk' := h.kp k c T hk h1 h2 h3
  refine blk_far hk' (fun e => ?_)
  subst e
  unfold Blk at hk' hb
  rw [hb] at hk'
  simp at hk'
  exact h3 hk'.2.symm

theorem Try.infoU8w : (Try.prog.info? 5).map (fun i => (i.zero, i.size, i.bytes)) = some (some (.int .u8 0), 1, 1) := by kernel_rfl

theorem byte_in (s : ByteArray) (k : Nat) (hk : k < s.size) (W : World) : (Instr.index 9 (.string s) (.int .i64 (k : Int))).run Try.prog W = .ok (.int .u8 (s[k].toNat : Int)) W := by
  rw [run_index_string W 9 s .i64 (k : Int) Try.underlying9]
  simp [hk]
theorem cell_newW (w : World) (cs : Array Value) (e : Nat) : ∀ (j : Nat) (u : Value), cs.toList[j]? = some u → (w.alloc (.cells cs e)).cell? ((⟨w.heap.size, 0, none⟩ : Addr).add j) = some u := by
  intro j u h
  rw [Nm.addr_add, Nat.zero_add]
  have : (w.alloc (.cells cs e)).heap[w.heap.size]? = some (.cells cs e (0, 0)) := by show (w.heap.push _)[w.heap.size]? = _; simp
  rw [cell_of_row _ _ _ _ _ _ this]
  simpa using h

set_option maxRecDepth 100000 in
set_option maxHeartbeats 3200000 in
theorem l04Text_any (s : ByteArray) (g B : Nat) (bs : List UInt8) (pls : List (ByteArray × Nat)) (vb vp : Value) (w : World) (h : SW w g B bs pls vb vp) (hB : B ≤ w.heap.size) (hl : bs.length + s.size ≤ 100000000) :
    Calls Try.prog 21 #[.pointer (some ⟨g, 0, none⟩), .string s] w fun e w' => e = .returned (.tuple #[]) ∧ ∃ vb', SW w' g B (bs ++ s.data.toList) pls vb' vp ∧ Bk B w w' := by
  obtain ⟨i0, hi, hz0, hz1, hz2⟩ := info_parts Try.infoU8w
  have hsz : s.data.toList.length = s.size := by simp
  have hbyte := fun k hk W => byte_in s k hk W
  go_enter Try.func21, Try.ntmps21
  go_wp2
  go_loopw [4] (fun i wr => ∃ (k : Nat) (vb' : Value), k ≤ s.size ∧ i = .int .i64 k ∧ SW wr g B (bs ++ s.data.toList.take k) pls vb' vp ∧ B ≤ wr.heap.size ∧ Bk B w wr) (fun i _ => s.size - (intOf i).toNat)
  case atStart => exact ⟨0, vb, Nat.zero_le _, rfl, by simpa using h, hB, Bk.refl _ _⟩
  case round =>
    obtain ⟨k, vb', hk, rfl, hS, hBw, hbel⟩ := hrel
    clear h hB
    by_cases hlt : k < s.size
    · have hlt' : (k : Int) < (s.size : Int) := by omega
      have hby := hbyte k hlt
      obtain ⟨xa, ya, hv⟩ := own_sl hS.rb
      have hN : (bs ++ s.data.toList.take k).length = bs.length + k := by simp; omega
      rw [hN] at hv
      subst hv
      have hb' := hS.rb
      rw [hN] at hb'
      have HT : Hid (Nm.bys (bs ++ s.data.toList.take k) ++ [.int .u8 (s[k].toNat : Int)] = Nm.bys (bs ++ s.data.toList.take (k + 1))) := by
        show _ = _
        rw [List.take_add_one, Nm.get_data hlt, ← List.append_assoc]
        simp [Nm.bys]
      have HL : Hid (bs.length + k + 1 = (bs ++ s.data.toList.take (k + 1)).length) := by show _ = _; simp; omega
      have c0 : wr.cell? ⟨g, 0, none⟩ = some (.slice xa (bs.length + k) ya) := (blk_cell hS.blk 0).trans rfl
      generalize (s[k].toNat : Int) = cc at *
      clear hbyte
      go_wp2_with fail
      refine wp_region_last (fun W => W.cell? ⟨g, 0, none⟩ = some (.slice xa (bs.length + k) ya)) 12 (by kernel_rfl) c0 (fun hHeld => ?_)
      refine wpAnyL_take (i := 0) (v := ?_) rfl (by kernel_rfl) (by kernel_rfl) (by kernel_rfl) (by kernel_rfl) (fun _ _ _ h => h) (Or.inl ⟨by rfl, ?_⟩) (by assumption) ?_
      rotate_left 1
      · (intro w hSw; go_simp; try (with_reducible rfl))
      refine wpAnyL_take (i := 1) (v := ?_) rfl (by kernel_rfl) (by kernel_rfl) (by kernel_rfl) (by kernel_rfl) (fun _ _ _ h => h) (Or.inl ⟨by rfl, ?_⟩) (by assumption) ?_
      rotate_left 1
      · (intro w hSw; go_simp; try (with_reducible rfl))
      refine wpAnyL_take (i := 2) (v := ?_) rfl (by kernel_rfl) (by kernel_rfl) (by kernel_rfl) (by kernel_rfl) (fun _ _ _ h => h) (Or.inl ⟨by rfl, ?_⟩) (by assumption) ?_
      rotate_left 1
      · (intro w hSw; go_simp; try (with_reducible rfl))
      refine wpAnyL_take (i := 3) (v := ?_) rfl (by kernel_rfl) (by kernel_rfl) (by kernel_rfl) (by kernel_rfl) (fun _ _ _ h => h) (Or.inl ⟨by rfl, ?_⟩) (by assumption) ?_
      rotate_left 1
      · (intro w hSw; go_simp; try (with_reducible rfl))
      refine wpAnyL_take (i := 4) (v := ?_) rfl (by kernel_rfl) (by kernel_rfl) (by kernel_rfl) (by kernel_rfl) (fun _ _ _ h => h) (Or.inl ⟨by rfl, ?_⟩) (by assumption) ?_
      rotate_left 1
      · (intro w hSw; go_simp; try (with_reducible rfl))
      refine wpAnyL_take (i := 5) (v := ?_) rfl (by kernel_rfl) (by kernel_rfl) (by kernel_rfl) (by kernel_rfl) (fun _ _ _ h => h) (Or.inl ⟨by rfl, ?_⟩) (by assumption) ?_
      rotate_left 1
      · (intro w hSw; go_simp; try (with_reducible rfl))
      refine wpAnyL_take (i := 6) (v := ?_) rfl (by kernel_rfl) (by kernel_rfl) (by kernel_rfl) (by kernel_rfl) (fun _ _ _ h => h) (Or.inl ⟨by rfl, ?_⟩) (by assumption) ?_
      rotate_left 1
      · (intro w hSw; go_simp; try (with_reducible rfl))
      refine wpAnyL_take (i := 7) (v := ?_) rfl (by kernel_rfl) (by kernel_rfl) (by kernel_rfl) (by kernel_rfl) (fun _ _ _ h => h) (Or.inl ⟨by rfl, ?_⟩) (by assumption) ?_
      rotate_left 1
      · (intro w hSw; go_simp; try (with_reducible rfl))
      have hSd : SW wr.drew g B (bs ++ s.data.toList.take k) pls (.slice xa (bs.length + k) ya) vp := hS.below (Below.refl _ _).drew
      have hSa := hSd.below ((Below.refl _ _).alloc (Nat.le_refl _) (.cells #[.int .u8 cc] 5))
      refine wpAnyL_one (i := 8) (by kernel_rfl) rfl (fun K hK => ?_)
      go_simp
      refine hK.out _ _ ((blk_cell hSa.blk 0).trans rfl) (fun hH2 => ?_)
      clear hK K
      refine wpAnyL_one (i := 9) (by kernel_rfl) rfl (fun K hK => ?_)
      have hba := hSa.rb
      rw [hN] at hba
      refine step_append_own rfl (.tmp 15) (.tmp 19) 22 rfl B 5 i0 _ 1 1 Try.underlying22 hi hz0 hz1 hz2 rfl (by decide) (.slice xa (bs.length + k) ya) (bs.length + k) (Nm.bys (bs ++ s.data.toList.take k)) (by rfl) hba ⟨wr.drew.heap.size, 0, none⟩ 1 1 [.int .u8 cc] (by rfl) rfl (cell_newW _ _ _) (by intro u hu; simp at hu; subst hu; rfl) (by unfold maxLen; omega) (by omega) (by simp; omega) ?_
      intro va wa hown9 hgrow9 hnl9
      clear hnl9
      rw [HT.out] at hown9
      obtain ⟨xb, yb, hvb⟩ := own_sl hown9
      have hblk9 : Blk wa g #[.slice xa (bs.length + k) ya, vp] 58 := blk_grown hSa.blk hgrow9 (fun e => own_blk hba hSa.blk (by decide) e)
      have hrp9 := own_beside hSa.rp hgrow9 (own_kinds hSa.rp hba (by decide))
      have b9 : Bk B w wa := (hbel.trans (Bk.of ((Below.refl wr.heap.size wr).drew.alloc (Nat.le_refl _) _) hBw)).app hba hgrow9 (by simp; omega) (.inl rfl)
      have c9 : wa.cell? ⟨g, 0, none⟩ = some (.slice xa (bs.length + k) ya) := (blk_cell hblk9 0).trans rfl
      have f9 := blk_frozen hblk9 0
      rw [hvb]
      refine hK.out _ _ c9 (fun hH3 => ?_)
      clear hK K
      refine wpAnyL_one (i := 10) (by kernel_rfl) rfl (fun K hK => ?_)
      go_simp
      refine hK.out _ _ c9 (fun hH4 => ?_)
      clear hK K
      refine wpAnyL_take (i := 11) (v := ?_) rfl (by kernel_rfl) (by kernel_rfl) (by kernel_rfl) (by kernel_rfl) (fun _ _ _ h => h) (Or.inl ⟨by rfl, ?_⟩) (by assumption) ?_
      rotate_left 1
      · (intro w hSw; go_simp; try (with_reducible rfl))
      refine wpAnyL_end (by kernel_rfl) rfl (by kernel_rfl) (fun K hK => ?_)
      go_simp
      refine hK.out _ _ ?_
      clear hK K
      rw [hvb] at hown9
      have hS10 : SW (wa.setCell ⟨g, 0, none⟩ (.slice xb (bs.length + k + 1) yb)) g B (bs ++ s.data.toList.take (k + 1)) pls (.slice xb (bs.length + k + 1) yb) vp := ⟨blk_set hblk9 0 _, by rw [← HL.out]; exact own_far hown9 (own_blk hown9 hblk9 (by decide)), own_far hrp9 (own_blk hrp9 hblk9 (by decide)), hS.bg⟩
      have b10 : Bk B w (wa.setCell ⟨g, 0, none⟩ (.slice xb (bs.length + k + 1) yb)) := b9.set hblk9 hS.bg _ _
      have hB10 : B ≤ (wa.setCell ⟨g, 0, none⟩ (.slice xb (bs.length + k + 1) yb)).heap.size := by have := blk_lt hblk9; have := hS.bg; simp; omega
      generalize wa.setCell ⟨g, 0, none⟩ (.slice xb (bs.length + k + 1) yb) = W10 at *
      clear hown9 hgrow9 hblk9 hrp9 b9 c9 f9 hba hSa hSd hS c0
      go_wp2
      go_roundw
      case rel => exact ⟨k + 1, _, by omega, by go_num, hS10, hB10, b10⟩
      case measure => simp [intOf]; omega
    · have hkl : k = s.size := by omega
      subst hkl
      have hlt' : (s.size : Int) ≤ (s.size : Int) := by omega
      rw [List.take_of_length_le (by omega)] at hS
      clear hbyte
      go_wp2
      refine bodyPost_end (v := .tuple #[]) ?_ rfl ⟨rfl, vb', hS, hbel⟩
      simp [results, Try.results21, go_sem]
end Go.Proofs.Ytihhchebcojplaa
/- spec.l04Seen by its contract. -/
namespace Go.Proofs.Ytihhchebcojplaa
open Go.RowKit
set_option linter.unusedVariables false

/-- The first place of a rest of a name; -1: there is none. -/
def seenS : List (ByteArray × Nat) → ByteArray → Int
  | [], _ => -1
  | p :: r, t => if p.1 = t then (p.2 : Int) else seenS r t

theorem plVs_at : ∀ (xs : List (ByteArray × Nat)) (k j : Nat) (x : ByteArray × Nat), xs[k]? = some x → j < 2 → (plVs xs)[k * 2 + j]? = (plV x)[j]? := by
  intro xs
  induction xs with
  | nil => intro k j x h; simp at h
  | cons y xs ih =>
    intro k j x h hj
    have e : plVs (y :: xs) = plV y ++ plVs xs := by simp [plVs]
    have hl : (plV y).length = 2 := rfl
    cases k with
    | zero =>
      simp at h; subst h
      rw [e, Nat.zero_mul, Nat.zero_add, List.getElem?_append_left (by omega)]
    | succ k =>
      simp at h
      rw [e, List.getElem?_append_right (by omega), hl, show (k + 1) * 2 + j - 2 = k * 2 + j by omega]
      exact ih k j x h hj

theorem seen_step {xs : List (ByteArray × Nat)} {k : Nat} {x : ByteArray × Nat} (h : xs[k]? = some x) (t : ByteArray) : seenS (xs.drop k) t = if x.1 = t then (x.2 : Int) else seenS (xs.drop (k + 1)) t := by
  obtain ⟨hk, hx⟩ := List.getElem?_eq_some_iff.1 h
  rw [List.drop_eq_getElem_cons hk, hx, seenS]
theorem str_yes {a b : ByteArray} (h : a = b) : (a.toList == b.toList) = true := by simp [h]
theorem str_no {a b : ByteArray} (h : a ≠ b) : (a.toList == b.toList) = false := by
  rw [beq_eq_false_iff_ne]
  intro e
  apply h
  have : a.data.toList = b.data.toList := by rw [← ByteArray.toList_eq, ← ByteArray.toList_eq]; exact e
  exact ByteArray.ext (Array.toList_inj.1 this)

set_option maxRecDepth 100000 in
set_option maxHeartbeats 3200000 in
theorem l04Seen_any (t : ByteArray) (g B : Nat) (bs : List UInt8) (pls : List (ByteArray × Nat)) (vb vp : Value) (w : World) (h : SW w g B bs pls vb vp) (hl : pls.length ≤ 100000000) :
    Calls Try.prog 68 #[.pointer (some ⟨g, 0, none⟩), .string t] w fun e w' => e = .returned (.int .i64 (seenS pls t)) ∧ w' = w := by
  obtain ⟨_, pa, pc, hv, hcap, hmx, hc⟩ := CRow.of_owns h.rp
  subst hv
  unfold maxLen at hmx
  have c1 : w.cell? ⟨g, 1, none⟩ = some (.slice pa pls.length pc) := (blk_cell h.blk 1).trans rfl
  obtain ⟨RES, HR0⟩ : ∃ R, Hid (R = seenS (pls.drop 0) t) := ⟨_, rfl⟩
  have hgoal : seenS pls t = RES := by rw [HR0.out]; rfl
  rw [hgoal]
  clear h hgoal
  go_enter Try.func68, Try.ntmps68
  go_wp2
  go_loop [5] (fun i => ∃ k : Nat, k ≤ pls.length ∧ i = .int .i64 k ∧ Hid (RES = seenS (pls.drop k) t)) (fun i => pls.length - (intOf i).toNat)
  case atStart => exact ⟨0, Nat.zero_le _, rfl, HR0⟩
  case round =>
    obtain ⟨k, hk, rfl, HA⟩ := hrel
    clear HR0
    by_cases hlt : k < pls.length
    · obtain ⟨x, hx⟩ : ∃ x, pls[k]? = some x := ⟨_, List.getElem?_eq_getElem hlt⟩
      obtain ⟨b, off, rfl, hcell⟩ := hc (by omega)
      have d0 := hcell (k * 2) _ ((plVs_at pls k 0 x hx (by decide)).trans rfl)
      have d1 := hcell (k * 2 + 1) _ ((plVs_at pls k 1 x hx (by decide)).trans rfl)
      rw [← Nat.add_assoc] at d1
      have HS := seen_step hx t
      have i1 : (0 : Int) ≤ (k : Int) := by omega
      have i2 : (k : Int) < (pls.length : Int) := by omega
      clear hcell hc hx
      obtain ⟨tl, at'⟩ := x
      simp only at d0 d1 HS
      by_cases he : tl = t
      · have e1 := str_yes he
        obtain rfl : RES = (at' : Int) := by rw [HA.out, HS, if_pos he]
        clear HA HS he
        go_wp2
        go_ret
        exact ⟨rfl, rfl⟩
      · have e1 := str_no he
        have HA2 : Hid (RES = seenS (pls.drop (k + 1)) t) := by show _ = _; rw [HA.out, HS, if_neg he]
        clear HA HS he
        go_wp2
        go_round
        case rel => exact ⟨k + 1, by omega, by go_num, HA2⟩
        case measure => simp [intOf]; omega
    · have hkl : k = pls.length := by omega
      subst hkl
      obtain rfl : RES = -1 := by rw [HA.out, List.drop_length]; rfl
      have i2 : (pls.length : Int) ≤ (pls.length : Int) := by omega
      clear hc HA
      go_wp2
      go_ret
      exact ⟨rfl, rfl⟩
end Go.Proofs.Ytihhchebcojplaa
/- A text cut at every byte of one value: mathematics. -/
namespace Go.Proofs.Ytihhchebcojplaa
open Go.RowKit

/-- A text cut at every byte c: from byte i on, the piece under way began at a. -/
def cutF (s : ByteArray) (c : UInt8) : Nat → Nat → Nat → List ByteArray
  | 0, _, a => [s.extract a s.size]
  | f + 1, i, a => if h : i < s.size then
      (if s[i].toNat = c.toNat then s.extract a i :: cutF s c f (i + 1) (i + 1) else cutF s c f (i + 1) a)
    else [s.extract a s.size]
def cutB (s : ByteArray) (c : UInt8) : List ByteArray := cutF s c s.size 0 0
def CutAt (s : ByteArray) (c : UInt8) (ls : List ByteArray) (i a : Nat) : Prop := cutB s c = ls ++ cutF s c (s.size - i) i a
theorem cut_start (s : ByteArray) (c : UInt8) : CutAt s c [] 0 0 := by simp [CutAt, cutB]
theorem cut_here {s : ByteArray} {c : UInt8} {ls : List ByteArray} {i a : Nat} (h : CutAt s c ls i a) (hi : i < s.size) (e : s[i].toNat = c.toNat) : CutAt s c (ls ++ [s.extract a i]) (i + 1) (i + 1) := by
  rw [CutAt] at h ⊢
  rw [h, show s.size - i = s.size - (i + 1) + 1 by omega, cutF, dif_pos hi, if_pos e]
  simp
theorem cut_on {s : ByteArray} {c : UInt8} {ls : List ByteArray} {i a : Nat} (h : CutAt s c ls i a) (hi : i < s.size) (e : ¬ s[i].toNat = c.toNat) : CutAt s c ls (i + 1) a := by
  rw [CutAt] at h ⊢
  rw [h, show s.size - i = s.size - (i + 1) + 1 by omega, cutF, dif_pos hi, if_neg e]
theorem cut_end {s : ByteArray} {c : UInt8} {ls : List ByteArray} {i a : Nat} (h : CutAt s c ls i a) (hi : s.size ≤ i) : cutB s c = ls ++ [s.extract a s.size] := by
  rw [CutAt, Nat.sub_eq_zero_of_le hi] at h; exact h

end Go.Proofs.Ytihhchebcojplaa
/- A text cut at every byte of one value: the model's way and the library's. -/
namespace Go.Proofs.Ytihhchebcojplaa
open Go.RowKit

def cutP (c : UInt8) : List UInt8 → List (List UInt8)
  | [] => [[]]
  | x :: r => if x = c then [] :: cutP c r else match cutP c r with
    | [] => [[x]]
    | h :: t => (x :: h) :: t

theorem cutP_ne (c : UInt8) (l : List UInt8) : ∃ h t, cutP c l = h :: t := by
  cases l with
  | nil => exact ⟨_, _, rfl⟩
  | cons x r =>
    rw [cutP]
    split
    · exact ⟨_, _, rfl⟩
    · split <;> exact ⟨_, _, rfl⟩
theorem cutP_miss {c : UInt8} : ∀ {l : List UInt8}, c ∉ l → cutP c l = [l] := by
  intro l
  induction l with
  | nil => intro _; rfl
  | cons x r ih =>
    intro h
    simp only [List.mem_cons, not_or] at h
    rw [cutP, if_neg (fun e => h.1 e.symm), ih h.2]
theorem cutP_hit {c : UInt8} {b : List UInt8} : ∀ {a : List UInt8}, c ∉ a → cutP c (a ++ c :: b) = a :: cutP c b := by
  intro a
  induction a with
  | nil => intro _; rw [List.nil_append, cutP, if_pos rfl]
  | cons x r ih =>
    intro h
    simp only [List.mem_cons, not_or] at h
    rw [List.cons_append, cutP, if_neg (fun e => h.1 e.symm), ih h.2]

theorem occ_one {l : List UInt8} {c : UInt8} {j : Nat} : Lib.occAt l [c] j = true ↔ l[j]? = some c := by
  unfold Lib.occAt
  cases hd : l.drop j with
  | nil =>
    have : l.length ≤ j := List.drop_eq_nil_iff.1 hd
    simp [List.getElem?_eq_none this]
  | cons x r =>
    have hx : l[j]? = some x := by
      have := congrArg (fun l => l[0]?) hd
      simpa [List.getElem?_drop] using this
    rw [hx]
    simp [List.isPrefixOf]
    exact eq_comm
theorem index_cases (l : List UInt8) (c : UInt8) : (Lib.index l [c] = -1 ∧ c ∉ l) ∨ ∃ i : Nat, Lib.index l [c] = i ∧ l = l.take i ++ c :: l.drop (i + 1) ∧ c ∉ l.take i := by
  rcases Lib.index_spec l [c] with ⟨h, hn⟩ | ⟨i, h, hi, ho, hno⟩
  · refine .inl ⟨h, fun hm => ?_⟩
    obtain ⟨j, hj⟩ := List.getElem?_of_mem hm
    have hjl : j < l.length := (List.getElem?_eq_some_iff.1 hj).1
    have := hn j (by omega)
    rw [occ_one.2 hj] at this
    cases this
  · refine .inr ⟨i, h, ?_, fun hm => ?_⟩
    · have hx := occ_one.1 ho
      obtain ⟨hl, hx⟩ := List.getElem?_eq_some_iff.1 hx
      have h2 := List.drop_eq_getElem_cons hl
      rw [hx] at h2
      rw [← h2, List.take_append_drop]
    · obtain ⟨j, hj⟩ := List.getElem?_of_mem hm
      rw [List.getElem?_take] at hj
      by_cases hji : j < i
      · rw [if_pos hji] at hj
        have := hno j hji
        rw [occ_one.2 hj] at this
        cases this
      · rw [if_neg hji] at hj; cases hj

theorem split_cutP (c : UInt8) : ∀ (k : Nat) (l : List UInt8), (Lib.splitK [c] 0 k l).length = min (k + 1) (cutP c l).length ∧ ((cutP c l).length ≤ k + 1 → Lib.splitK [c] 0 k l = cutP c l) := by
  intro k
  induction k with
  | zero =>
    intro l
    obtain ⟨h, t, e⟩ := cutP_ne c l
    rcases index_cases l c with ⟨_, hm⟩ | ⟨i, _, hl, hm⟩
    · rw [cutP_miss hm]; simp [Lib.splitK]
    · have e2 := cutP_hit (b := l.drop (i + 1)) hm
      rw [← hl] at e2
      obtain ⟨h', t', e'⟩ := cutP_ne c (l.drop (i + 1))
      rw [e2, e']
      simp [Lib.splitK]
  | succ k ih =>
    intro l
    rcases index_cases l c with ⟨hx, hm⟩ | ⟨i, hx, hl, hm⟩
    · rw [cutP_miss hm, Lib.splitK, if_pos (by rw [hx]; rfl)]
      simp
    · have e2 := cutP_hit (b := l.drop (i + 1)) hm
      rw [← hl] at e2
      have hne : ¬ (Lib.index l [c] == -1) = true := by
        rw [hx, beq_iff_eq]; omega
      rw [e2, Lib.splitK, if_neg hne, hx]
      simp only [Int.toNat_natCast, Nat.add_zero, List.length_cons, List.length_nil]
      have := ih (l.drop (i + 1))
      refine ⟨by rw [this.1]; omega, fun h => ?_⟩
      rw [this.2 (by omega)]
theorem count_cutP (c : UInt8) : ∀ (n : Nat) (l : List UInt8), l.length ≤ n → Lib.count l [c] + 1 = (cutP c l).length := by
  intro n
  induction n with
  | zero =>
    intro l h
    have : l = [] := List.length_eq_zero_iff.1 (by omega)
    subst this
    rw [Lib.count_miss (by rfl)]; rfl
  | succ n ih =>
    intro l h
    rcases index_cases l c with ⟨hx, hm⟩ | ⟨i, hx, hl, hm⟩
    · rw [cutP_miss hm, Lib.count_miss hx]; rfl
    · have e2 := cutP_hit (b := l.drop (i + 1)) hm
      rw [← hl] at e2
      have hlen : (l.drop (i + 1)).length ≤ n := by
        have := congrArg List.length hl
        simp at this ⊢
        omega
      have hi := ih _ hlen
      rw [e2, Lib.count_hit (by simp) hx]
      simp only [List.length_cons, List.length_nil, Nat.zero_add]
      omega

/-- The model's cutting is that one. -/
theorem cutF_data (s : ByteArray) (c : UInt8) : ∀ (f i a : Nat), a ≤ i → i ≤ s.size → f = s.size - i →
    ∃ h t, cutP c (s.data.toList.drop i) = h :: t ∧ (cutF s c f i a).map (·.data.toList) = ((s.data.toList.take i).drop a ++ h) :: t := by
  intro f
  induction f with
  | zero =>
    intro i a ha hi hf
    have hd : s.data.toList.drop i = [] := List.drop_eq_nil_of_le (by simp; omega)
    refine ⟨[], [], by rw [hd]; rfl, ?_⟩
    have : i = s.size := by omega
    subst this
    simp [cutF, List.extract_eq_take_drop]
    rw [List.take_of_length_le (by simp), List.take_of_length_le (by simp)]
  | succ f ih =>
    intro i a ha hi hf
    have hlt : i < s.size := by omega
    have hd : s.data.toList.drop i = s[i] :: s.data.toList.drop (i + 1) := by
      rw [List.drop_eq_getElem_cons (by simpa using hlt)]; rfl
    have ht : s.data.toList.take (i + 1) = s.data.toList.take i ++ [s[i]] := Nm.take_step (Nm.get_data hlt)
    rw [cutF, dif_pos hlt, hd]
    by_cases e : s[i].toNat = c.toNat
    · have ec : s[i] = c := UInt8.toNat_inj.1 e
      rw [if_pos e]
      obtain ⟨h, t, h1, h2⟩ := ih (i + 1) (i + 1) (Nat.le_refl _) (by omega) (by omega)
      refine ⟨[], h :: t, by rw [cutP, if_pos ec, h1], ?_⟩
      rw [List.map_cons, h2, List.drop_eq_nil_of_le (by simp; omega), List.nil_append, List.append_nil]
      congr 1
      simp [List.extract_eq_take_drop, List.drop_take]
    · have ec : ¬ s[i] = c := fun h => e (by rw [h])
      rw [if_neg e]
      obtain ⟨h, t, h1, h2⟩ := ih (i + 1) a (by omega) (by omega) (by omega)
      refine ⟨s[i] :: h, t, by rw [cutP, if_neg ec, h1], ?_⟩
      rw [h2, ht, List.drop_append_of_le_length (by simp; omega)]
      simp
theorem cutB_data (s : ByteArray) (c : UInt8) : (cutB s c).map (·.data.toList) = cutP c s.data.toList := by
  obtain ⟨h, t, h1, h2⟩ := cutF_data s c s.size 0 0 (Nat.le_refl _) (Nat.zero_le _) rfl
  rw [List.drop_zero] at h1
  rw [cutB, h2, h1]
  simp

theorem data_inj : ∀ {a b : List ByteArray}, a.map (·.data.toList) = b.map (·.data.toList) → a = b := by
  intro a
  induction a with
  | nil => intro b h; cases b with
    | nil => rfl
    | cons => simp at h
  | cons x r ih => intro b h; cases b with
    | nil => simp at h
    | cons y t =>
      simp only [List.map_cons, List.cons.injEq] at h
      rw [Nm.ba_ext h.1, ih h.2]

theorem cutB_len (s : ByteArray) (c : UInt8) : (cutB s c).length = (cutP c s.data.toList).length := by rw [← cutB_data, List.length_map]
theorem splitB_len (s : ByteArray) (c : UInt8) (k : Nat) : (Lib.splitB ⟨#[c]⟩ 0 k s).length = min (k + 1) (cutB s c).length := by
  have h := congrArg List.length (Lib.splitB_data ⟨#[c]⟩ 0 k s)
  rw [List.length_map] at h
  rw [h, cutB_len]
  exact (split_cutP c k s.data.toList).1
theorem splitB_cut {s : ByteArray} {c : UInt8} {k : Nat} (h : (cutB s c).length ≤ k + 1) : Lib.splitB ⟨#[c]⟩ 0 k s = cutB s c := by
  apply data_inj
  rw [Lib.splitB_data, cutB_data]
  rw [cutB_len] at h
  exact (split_cutP c k s.data.toList).2 h
theorem count_cut (s : ByteArray) (c : UInt8) : Lib.countB s ⟨#[c]⟩ + 1 = (cutB s c).length := by
  rw [cutB_len]
  exact count_cutP c _ s.data.toList (Nat.le_refl _)
theorem cutP_le (c : UInt8) : ∀ l : List UInt8, (cutP c l).length ≤ l.length + 1 := by
  intro l
  induction l with
  | nil => simp [cutP]
  | cons x r ih =>
    rw [cutP]
    split
    · simp; omega
    · split
      · simp
      · rename_i h t e; rw [e] at ih; simp at ih ⊢; omega
theorem cutB_le (s : ByteArray) (c : UInt8) : (cutB s c).length ≤ s.size + 1 := by
  rw [cutB_len]
  have := cutP_le c s.data.toList
  simpa using this
end Go.Proofs.Ytihhchebcojplaa
/- A name's text, as plain mathematics. -/
namespace Go.Proofs.Ytihhchebcojplaa.Nm
open Go.RowKit

def digB (c : UInt8) : Bool := decide (48 ≤ c.toNat) && decide (c.toNat ≤ 57)

def num3 (c d e : UInt8) : Nat := (c.toNat - 48) * 100 + (d.toNat - 48) * 10 + (e.toNat - 48)

def esc3 (c : UInt8) : List UInt8 → Option (UInt8 × Nat)
  | d :: e :: _ => if digB d = true ∧ digB e = true then (if num3 c d e ≤ 255 then some (UInt8.ofNat (num3 c d e), 3) else none) else none
  | _ => none

/-- What stands behind a backslash: the byte, and how many bytes it takes. -/
def escF : List UInt8 → Option (UInt8 × Nat)
  | [] => none
  | c :: r => if digB c = true then esc3 c r else some (c, 1)

theorem esc_nil : escF [] = none := rfl
theorem esc_byte {c : UInt8} (r : List UInt8) (h : digB c = false) : escF (c :: r) = some (c, 1) := by
  rw [escF, if_neg (by simp [h])]
theorem esc_short {c : UInt8} {r : List UInt8} (h : digB c = true) (hr : r.length < 2) : escF (c :: r) = none := by
  rw [escF, if_pos h]
  match r, hr with
  | [], _ => rfl
  | [_], _ => rfl
theorem esc_three {c d e : UInt8} {r : List UInt8} (h : digB c = true) : escF (c :: d :: e :: r) = if digB d = true ∧ digB e = true then (if num3 c d e ≤ 255 then some (UInt8.ofNat (num3 c d e), 3) else none) else none := by
  rw [escF, if_pos h, esc3]

theorem esc_len {l : List UInt8} {b : UInt8} {n : Nat} (h : escF l = some (b, n)) : 1 ≤ n ∧ n ≤ l.length ∧ n ≤ 3 := by
  cases l with
  | nil => simp [escF] at h
  | cons c r =>
    cases hd : digB c with
    | false =>
      rw [esc_byte r hd] at h
      simp at h
      simp only [List.length_cons]
      omega
    | true =>
      match r with
      | [] => rw [esc_short hd (by simp)] at h; simp at h
      | [_] => rw [esc_short hd (by simp)] at h; simp at h
      | d :: e :: r =>
        rw [esc_three hd] at h
        split at h
        · split at h
          · simp at h
            simp only [List.length_cons]
            omega
          · simp at h
        · simp at h

def fitsB (n : Nat) : Bool := decide (1 ≤ n) && decide (n ≤ 63)

def scanF : Nat → Bool → List UInt8 → List UInt8 → List ByteArray → List ByteArray × Bool × Int
  | 0, _, _, _, _ => ([], false, 0)
  | _ + 1, st, [], now, done =>
    if st = true then (done, true, 0)
    else if fitsB now.length = true then (done ++ [⟨now.toArray⟩], false, 0) else ([], false, 2)
  | f + 1, _, c :: r, now, done =>
    if c = 46 then
      (if fitsB now.length = true then scanF f true r [] (done ++ [⟨now.toArray⟩]) else ([], false, 2))
    else if c = 92 then
      (match escF r with
      | none => ([], false, 4)
      | some (b, n) => scanF f false (r.drop n) (now ++ [b]) done)
    else scanF f false r (now ++ [c]) done

def scanS (s : ByteArray) : List ByteArray × Bool × Int := scanF (s.size + 1) false s.data.toList [] []

def ScAt (s : ByteArray) (st : Bool) (k : Nat) (now : List UInt8) (done : List ByteArray) : Prop :=
  k ≤ s.size ∧ ∃ f, s.size - k < f ∧ scanS s = scanF f st (s.data.toList.drop k) now done

theorem sc_start (s : ByteArray) : ScAt s false 0 [] [] := ⟨Nat.zero_le _, s.size + 1, by omega, by rw [List.drop_zero]; rfl⟩

theorem sc_start' (s : ByteArray) (h : 0 < s.size) : ScAt s true 0 [] [] := by
  refine ⟨Nat.zero_le _, s.size + 1, by omega, ?_⟩
  rw [List.drop_zero, scanS]
  cases hd : s.data.toList with
  | nil =>
    have : s.data.toList.length = 0 := by rw [hd]; rfl
    simp at this
    have h2 : s.size = 0 := by simp [this]
    omega
  | cons c r => simp only [scanF]

theorem drop_at {s : ByteArray} {k : Nat} (h : k < s.size) : s.data.toList.drop k = s[k] :: s.data.toList.drop (k + 1) := by
  have hl : k < s.data.toList.length := by simpa using h
  rw [List.drop_eq_getElem_cons hl]
  rfl

theorem drop_end {s : ByteArray} : s.data.toList.drop s.size = [] := List.drop_of_length_le (by simp)

section
variable {s : ByteArray} {st : Bool} {k : Nat} {now : List UInt8} {done : List ByteArray}

theorem sc_dot (h : ScAt s st k now done) (hk : k < s.size) (hc : s[k] = 46) (hf : fitsB now.length = true) : ScAt s true (k + 1) [] (done ++ [⟨now.toArray⟩]) := by
  obtain ⟨_, f, hf2, e⟩ := h
  obtain ⟨g, rfl⟩ : ∃ g, f = g + 1 := ⟨f - 1, by omega⟩
  refine ⟨by omega, g, by omega, ?_⟩
  rw [e, drop_at hk, scanF, if_pos hc, if_pos hf]

theorem sc_dot_bad (h : ScAt s st k now done) (hk : k < s.size) (hc : s[k] = 46) (hf : fitsB now.length = false) : scanS s = ([], false, 2) := by
  obtain ⟨_, f, hf2, e⟩ := h
  obtain ⟨g, rfl⟩ : ∃ g, f = g + 1 := ⟨f - 1, by omega⟩
  rw [e, drop_at hk, scanF, if_pos hc, if_neg (by simp [hf])]

theorem sc_esc_bad (h : ScAt s st k now done) (hk : k < s.size) (hc : s[k] = 92) (he : escF (s.data.toList.drop (k + 1)) = none) : scanS s = ([], false, 4) := by
  obtain ⟨_, f, hf2, e⟩ := h
  obtain ⟨g, rfl⟩ : ∃ g, f = g + 1 := ⟨f - 1, by omega⟩
  rw [e, drop_at hk, scanF, if_neg (by rw [hc]; decide), if_pos hc, he]

theorem sc_esc (h : ScAt s st k now done) (hk : k < s.size) (hc : s[k] = 92) {b : UInt8} {n : Nat} (he : escF (s.data.toList.drop (k + 1)) = some (b, n)) : ScAt s false (k + 1 + n) (now ++ [b]) done := by
  obtain ⟨_, f, hf2, e⟩ := h
  obtain ⟨g, rfl⟩ : ∃ g, f = g + 1 := ⟨f - 1, by omega⟩
  have hl := esc_len he
  simp only [List.length_drop, Array.length_toList, ByteArray.size_data] at hl
  refine ⟨by omega, g, by omega, ?_⟩
  rw [e, drop_at hk, scanF, if_neg (by rw [hc]; decide), if_pos hc, he]
  simp only [List.drop_drop]

theorem sc_plain (h : ScAt s st k now done) (hk : k < s.size) (hc : s[k] ≠ 46) (hc2 : s[k] ≠ 92) : ScAt s false (k + 1) (now ++ [s[k]]) done := by
  obtain ⟨_, f, hf2, e⟩ := h
  obtain ⟨g, rfl⟩ : ∃ g, f = g + 1 := ⟨f - 1, by omega⟩
  refine ⟨by omega, g, by omega, ?_⟩
  rw [e, drop_at hk, scanF, if_neg hc, if_neg hc2]

theorem sc_abs (h : ScAt s true k now done) (hk : k = s.size) : scanS s = (done, true, 0) := by
  obtain ⟨_, f, hf2, e⟩ := h
  obtain ⟨g, rfl⟩ : ∃ g, f = g + 1 := ⟨f - 1, by omega⟩
  rw [e, hk, drop_end, scanF, if_pos rfl]

theorem sc_rel (h : ScAt s false k now done) (hk : k = s.size) (hf : fitsB now.length = true) : scanS s = (done ++ [⟨now.toArray⟩], false, 0) := by
  obtain ⟨_, f, hf2, e⟩ := h
  obtain ⟨g, rfl⟩ : ∃ g, f = g + 1 := ⟨f - 1, by omega⟩
  rw [e, hk, drop_end, scanF, if_neg (by simp), if_pos hf]

theorem sc_rel_bad (h : ScAt s false k now done) (hk : k = s.size) (hf : fitsB now.length = false) : scanS s = ([], false, 2) := by
  obtain ⟨_, f, hf2, e⟩ := h
  obtain ⟨g, rfl⟩ : ∃ g, f = g + 1 := ⟨f - 1, by omega⟩
  rw [e, hk, drop_end, scanF, if_neg (by simp), if_neg (by simp [hf])]
end

theorem fits_yes {n : Nat} (h1 : 1 ≤ n) (h2 : n ≤ 63) : fitsB n = true := by simp [fitsB, h1, h2]
theorem fits_no {n : Nat} (h : ¬ (1 ≤ n ∧ n ≤ 63)) : fitsB n = false := by
  simp [fitsB]; omega

end Go.Proofs.Ytihhchebcojplaa.Nm
/- Numbers as text: mathematics. -/
namespace Go.Proofs.Ytihhchebcojplaa
open Go.RowKit

def decF : Nat → Nat → List UInt8
  | 0, _ => []
  | f + 1, n => if n < 10 then [UInt8.ofNat (48 + n)] else decF f (n / 10) ++ [UInt8.ofNat (48 + n % 10)]
theorem decF_enough : ∀ (f g n : Nat), n < f → n < g → decF f n = decF g n := by
  intro f
  induction f with
  | zero => intro g n h; omega
  | succ f ih =>
    intro g n hf hg
    cases g with
    | zero => omega
    | succ g =>
      rw [decF, decF]
      by_cases h : n < 10
      · rw [if_pos h, if_pos h]
      · rw [if_neg h, if_neg h, ih g (n / 10) (by omega) (by omega)]

/-- A number in decimal digits. -/
def decL (n : Nat) : List UInt8 := decF (n + 1) n
def decS (n : Nat) : ByteArray := ⟨(decL n).toArray⟩
theorem decL_small {n : Nat} (h : n < 10) : decL n = [UInt8.ofNat (48 + n)] := by rw [decL, decF, if_pos h]
theorem decL_step {n : Nat} (h : ¬ n < 10) : decL n = decL (n / 10) ++ [UInt8.ofNat (48 + n % 10)] := by
  rw [decL, decF, if_neg h, decF_enough _ (n / 10 + 1) _ (by omega) (by omega)]; rfl
theorem decF_len : ∀ (f n : Nat), (decF f n).length ≤ f := by
  intro f
  induction f with
  | zero => intro n; simp [decF]
  | succ f ih =>
    intro n
    rw [decF]
    split
    · simp
    · have := ih (n / 10); simp; omega
theorem decL_len20 {n : Nat} (h : n < 10000000000000000000) : (decL n).length ≤ 20 := by
  have key : ∀ (k n : Nat), n < 10 ^ (k + 1) → (decL n).length ≤ k + 1 := by
    intro k
    induction k with
    | zero => intro n hn; rw [decL_small (by simpa using hn)]; simp
    | succ k ih =>
      intro n hn
      by_cases h10 : n < 10
      · rw [decL_small h10]; simp
      · rw [decL_step h10]
        have := ih (n / 10) (by rw [Nat.pow_succ] at hn; omega)
        simp; omega
  exact key 19 n (by have : (10 : Nat) ^ (19 + 1) = 100000000000000000000 := by decide
                     omega)

/-- The number of a text of digits. -/
def numD (l : List UInt8) : Nat := l.foldl (fun n c => n * 10 + (c.toNat - 48)) 0
theorem numD_snoc (l : List UInt8) (c : UInt8) : numD (l ++ [c]) = numD l * 10 + (c.toNat - 48) := by simp [numD]
def numO (s : ByteArray) (most : Nat) : Option Nat :=
  if 1 ≤ s.size ∧ s.size ≤ most ∧ s.data.toList.all Nm.digB = true then some (numD s.data.toList) else none

theorem numO_len {s : ByteArray} {most : Nat} (h : ¬ (1 ≤ s.size ∧ s.size ≤ most)) : numO s most = none := by
  rw [numO, if_neg (fun h' => h ⟨h'.1, h'.2.1⟩)]
theorem numO_bad {s : ByteArray} {most k : Nat} (hk : k < s.size) (h : Nm.digB s[k] = false) : numO s most = none := by
  rw [numO, if_neg]
  rintro ⟨_, _, h3⟩
  have := List.all_eq_true.1 h3 s[k] (List.mem_of_getElem? (Nm.get_data hk))
  rw [h] at this; cases this
theorem numO_good {s : ByteArray} {most : Nat} (h1 : 1 ≤ s.size) (h2 : s.size ≤ most) (h : ∀ j, (hj : j < s.size) → Nm.digB s[j] = true) : numO s most = some (numD s.data.toList) := by
  rw [numO, if_pos]
  refine ⟨h1, h2, ?_⟩
  rw [List.all_eq_true]
  intro c hc
  obtain ⟨i, hi⟩ := List.getElem?_of_mem hc
  have hl : i < s.size := by
    have := (List.getElem?_eq_some_iff.1 hi).1
    simpa using this
  rw [Nm.get_data hl] at hi
  simp at hi
  rw [← hi]
  exact h _ hl
theorem numD_lt : ∀ (l : List UInt8), (∀ c ∈ l, Nm.digB c = true) → numD l < 10 ^ l.length := by
  have key : ∀ (l : List UInt8) (a : Nat), (∀ c ∈ l, Nm.digB c = true) → l.foldl (fun n c => n * 10 + (c.toNat - 48)) a < (a + 1) * 10 ^ l.length := by
    intro l
    induction l with
    | nil => intro a _; simp
    | cons c l ih =>
      intro a h
      have hc : c.toNat ≤ 57 := by
        have := h c (List.mem_cons_self)
        simp [Nm.digB] at this; omega
      rw [List.foldl_cons, List.length_cons, Nat.pow_succ]
      refine Nat.lt_of_lt_of_le (ih _ (fun x hx => h x (List.mem_cons_of_mem _ hx))) ?_
      have h1 : a * 10 + (c.toNat - 48) + 1 ≤ (a + 1) * 10 := by omega
      have h2 := Nat.mul_le_mul_right (10 ^ l.length) h1
      have h3 : (a + 1) * 10 * 10 ^ l.length = (a + 1) * (10 ^ l.length * 10) := by rw [Nat.mul_assoc, Nat.mul_comm 10]
      omega
  intro l h
  have := key l 0 h
  rw [Nat.zero_add, Nat.one_mul] at this
  exact this

/-- A text cut at every byte of one value. -/
def cutTx (c : UInt8) : List UInt8 → List UInt8 → List (List UInt8)
  | [], cur => [cur]
  | x :: r, cur => if x = c then cur :: cutTx c r [] else cutTx c r (cur ++ [x])
end Go.Proofs.Ytihhchebcojplaa
/- What ReadV4 answers: mathematics. -/
namespace Go.Proofs.Ytihhchebcojplaa
open Go.RowKit

/-- A part of an address of four bytes. -/
def v4Part (p : ByteArray) : Option Nat := match numO p 3 with
  | some n => if n ≤ 255 ∧ decS n = p then some n else none
  | none => none
def v4All : List ByteArray → Option (List UInt8)
  | [] => some []
  | p :: r => match v4Part p with
    | none => none
    | some n => (v4All r).map (fun t => UInt8.ofNat n :: t)
def readV4S (s : ByteArray) : ByteArray × Int :=
  if (cutB s 46).length = 4 then (match v4All (cutB s 46) with
    | some l => (⟨l.toArray⟩, 0)
    | none => (⟨#[]⟩, 7)) else (⟨#[]⟩, 7)

theorem v4_count {s : ByteArray} (h : (cutB s 46).length ≠ 4) : readV4S s = (⟨#[]⟩, 7) := by rw [readV4S, if_neg h]

/-- The reading stands behind k parts. -/
def V4At (ls : List ByteArray) (k : Nat) (o : List UInt8) : Prop := v4All ls = (v4All (ls.drop k)).map (fun t => o ++ t)
theorem v4_start (ls : List ByteArray) : V4At ls 0 [] := by simp [V4At]
theorem v4_next {ls : List ByteArray} {k n : Nat} {o : List UInt8} {p : ByteArray} (h : V4At ls k o) (hp : ls[k]? = some p) (hn : v4Part p = some n) : V4At ls (k + 1) (o ++ [UInt8.ofNat n]) := by
  have hk : k < ls.length := (List.getElem?_eq_some_iff.1 hp).1
  have hx : ls[k] = p := (List.getElem?_eq_some_iff.1 hp).2
  rw [V4At] at h ⊢
  rw [h, List.drop_eq_getElem_cons hk, hx, v4All, hn]
  simp only [Option.map_map]
  congr 1; funext t; simp
theorem v4_bad {s : ByteArray} {k : Nat} {o : List UInt8} {p : ByteArray} (h : V4At (cutB s 46) k o) (hp : (cutB s 46)[k]? = some p) (hn : v4Part p = none) : readV4S s = (⟨#[]⟩, 7) := by
  have hk : k < (cutB s 46).length := (List.getElem?_eq_some_iff.1 hp).1
  have hx : (cutB s 46)[k] = p := (List.getElem?_eq_some_iff.1 hp).2
  have e : v4All ((cutB s 46).drop k) = none := by rw [List.drop_eq_getElem_cons hk, hx, v4All, hn]
  rw [V4At, e] at h
  rw [readV4S, h]
  split <;> rfl
theorem v4_end {s : ByteArray} {o : List UInt8} (h4 : (cutB s 46).length = 4) (h : V4At (cutB s 46) 4 o) : readV4S s = (⟨o.toArray⟩, 0) := by
  have e : (cutB s 46).drop 4 = [] := List.drop_eq_nil_of_le (by omega)
  rw [V4At, e] at h
  rw [readV4S, if_pos h4, h]
  simp [v4All]

/-- How long the parts are together. -/
theorem cutP_sum (c : UInt8) : ∀ l : List UInt8, ((cutP c l).map List.length).sum + (cutP c l).length = l.length + 1 := by
  intro l
  induction l with
  | nil => rfl
  | cons x r ih =>
    rw [cutP]
    split
    · simp; omega
    · split
      · rename_i e; rw [e] at ih; simp at ih
      · rename_i h t e; rw [e] at ih; simp at ih ⊢; omega
theorem v4_sizes : ∀ {ls : List ByteArray} {l : List UInt8}, v4All ls = some l → (ls.map (fun p => p.data.toList.length)).sum ≤ 3 * ls.length := by
  intro ls
  induction ls with
  | nil => intro l _; simp
  | cons p r ih =>
    intro l h
    rw [v4All] at h
    cases hp : v4Part p with
    | none => rw [hp] at h; cases h
    | some n =>
      rw [hp] at h
      cases hr : v4All r with
      | none => rw [hr] at h; cases h
      | some t =>
        have := ih hr
        have hz : p.size ≤ 3 := by
          unfold v4Part at hp
          by_cases hq : 1 ≤ p.size ∧ p.size ≤ 3
          · exact hq.2
          · rw [numO_len hq] at hp; cases hp
        have hz2 : p.data.toList.length = p.size := by simp
        simp only [List.map_cons, List.sum_cons, List.length_cons]
        omega
theorem v4_long {s : ByteArray} (h : 15 < s.size) : readV4S s = (⟨#[]⟩, 7) := by
  rw [readV4S]
  split
  · rename_i h4
    cases hv : v4All (cutB s 46) with
    | none => rfl
    | some l =>
      exfalso
      have h1 := v4_sizes hv
      have h2 := cutP_sum 46 s.data.toList
      rw [← cutB_data, List.map_map, List.length_map] at h2
      have h3 : s.data.toList.length = s.size := by simp
      have h5 : ((cutB s 46).map (List.length ∘ fun x => x.data.toList)).sum = ((cutB s 46).map (fun p => p.data.toList.length)).sum := rfl
      omega
  · rfl

theorem dec_two {x y : Nat} (hx : x < 10) (hy : y < 10) (h0 : x ≠ 0) : decL (10 * x + y) = [UInt8.ofNat (48 + x), UInt8.ofNat (48 + y)] := by
  rw [decL_step (by omega), show (10 * x + y) / 10 = x by omega, show (10 * x + y) % 10 = y by omega, decL_small hx]; rfl
theorem dec_three {x y z : Nat} (hx : x < 10) (hy : y < 10) (hz : z < 10) (h0 : x ≠ 0) : decL (100 * x + 10 * y + z) = [UInt8.ofNat (48 + x), UInt8.ofNat (48 + y), UInt8.ofNat (48 + z)] := by
  rw [decL_step (by omega), show (100 * x + 10 * y + z) / 10 = 10 * x + y by omega, show (100 * x + 10 * y + z) % 10 = z by omega, dec_two hx hy h0]; rfl
theorem dec_len2 {n : Nat} (h : n < 100) : (decL n).length ≤ 2 := by
  by_cases h1 : n < 10
  · rw [decL_small h1]; simp
  · rw [decL_step h1, decL_small (by omega)]; simp
theorem dec_len1 {n : Nat} (h : n < 10) : (decL n).length = 1 := by rw [decL_small h]; rfl
theorem dig_back {c : UInt8} (h : Nm.digB c = true) : UInt8.ofNat (48 + (c.toNat - 48)) = c ∧ c.toNat - 48 < 10 := by
  simp [Nm.digB] at h
  have e : 48 + (c.toNat - 48) = c.toNat := by omega
  rw [e]
  exact ⟨by simp, by omega⟩

/-- A number of at most three digits has no needless nought ahead just where it is written so. -/
theorem dec_iff {p : ByteArray} {n : Nat} (h : numO p 3 = some n) (hp : 0 < p.size) : decS n = p ↔ ¬ (1 < p.size ∧ p[0].toNat = 48) := by
  have hq : 1 ≤ p.size ∧ p.size ≤ 3 ∧ p.data.toList.all Nm.digB = true := by
    unfold numO at h
    by_cases hc : 1 ≤ p.size ∧ p.size ≤ 3 ∧ p.data.toList.all Nm.digB = true
    · exact hc
    · rw [if_neg hc] at h; cases h
  have hn : n = numD p.data.toList := by
    rw [numO, if_pos hq] at h; exact (Option.some.inj h).symm
  have hsz : p.data.toList.length = p.size := by simp
  have h0 : p.data.toList[0]? = some p[0] := Nm.get_data hp
  have hS : decS n = p ↔ decL n = p.data.toList := by
    constructor
    · intro e; rw [← e]; simp [decS]
    · intro e; apply Nm.ba_ext; simp [decS, e]
  rw [hS]
  generalize p[0] = q at *
  generalize p.data.toList = l at *
  generalize p.size = z at *
  obtain ⟨_, hz3, hall⟩ := hq
  match l, hsz with
  | [a], hsz =>
    simp at hsz h0
    simp only [List.all_cons, List.all_nil, Bool.and_true] at hall
    obtain ⟨e1, e2⟩ := dig_back hall
    have : n = a.toNat - 48 := by rw [hn]; simp [numD]
    rw [this, decL_small e2, e1]
    constructor
    · intro _; omega
    · intro _; rfl
  | [a, b], hsz =>
    simp at hsz h0
    simp only [List.all_cons, List.all_nil, Bool.and_true, Bool.and_eq_true] at hall
    obtain ⟨e1, e2⟩ := dig_back hall.1
    obtain ⟨f1, f2⟩ := dig_back hall.2
    have hd : 48 ≤ a.toNat := by have := hall.1; simp [Nm.digB] at this; omega
    have : n = 10 * (a.toNat - 48) + (b.toNat - 48) := by rw [hn]; simp [numD]; omega
    subst h0
    by_cases ha : a.toNat = 48
    · constructor
      · intro e
        have h1 := congrArg List.length e
        rw [dec_len1 (by omega)] at h1
        simp at h1
      · intro hx; exact absurd ⟨by omega, ha⟩ hx
    · constructor
      · intro _ hx; exact ha hx.2
      · intro _
        rw [this, dec_two e2 f2 (by omega), e1, f1]
  | [a, b, c], hsz =>
    simp at hsz h0
    simp only [List.all_cons, List.all_nil, Bool.and_true, Bool.and_eq_true] at hall
    obtain ⟨e1, e2⟩ := dig_back hall.1
    obtain ⟨f1, f2⟩ := dig_back hall.2.1
    obtain ⟨g1, g2⟩ := dig_back hall.2.2
    have hd : 48 ≤ a.toNat := by have := hall.1; simp [Nm.digB] at this; omega
    have : n = 100 * (a.toNat - 48) + 10 * (b.toNat - 48) + (c.toNat - 48) := by rw [hn]; simp [numD]; omega
    subst h0
    by_cases ha : a.toNat = 48
    · constructor
      · intro e
        have h1 := congrArg List.length e
        have := dec_len2 (n := n) (by omega)
        simp at h1
        omega
      · intro hx; exact absurd ⟨by omega, ha⟩ hx
    · constructor
      · intro _ hx; exact ha hx.2
      · intro _
        rw [this, dec_three e2 f2 g2 (by omega), e1, f1, g1]
  | a :: b :: c :: d :: r, hsz => simp at hsz; omega
  | [], hsz => simp at hsz; omega

theorem part_none {p : ByteArray} (h : numO p 3 = none) : v4Part p = none := by rw [v4Part, h]
theorem part_big {p : ByteArray} {n : Nat} (h : numO p 3 = some n) (hn : 255 < n) : v4Part p = none := by rw [v4Part, h]; simp only; rw [if_neg (by omega)]
theorem part_not {p : ByteArray} {n : Nat} (h : numO p 3 = some n) (hd : decS n ≠ p) : v4Part p = none := by rw [v4Part, h]; simp only; rw [if_neg (fun x => hd x.2)]
theorem part_some {p : ByteArray} {n : Nat} (h : numO p 3 = some n) (hn : n ≤ 255) (hd : decS n = p) : v4Part p = some n := by rw [v4Part, h]; simp only; rw [if_pos ⟨hn, hd⟩]
theorem num_pos {p : ByteArray} {n m : Nat} (h : numO p m = some n) : 0 < p.size := by
  unfold numO at h
  by_cases hc : 1 ≤ p.size ∧ p.size ≤ m ∧ p.data.toList.all Nm.digB = true
  · omega
  · rw [if_neg hc] at h; cases h
def strV (p : ByteArray × Int) : Value := .tuple #[.string p.1, .int .i64 p.2]
end Go.Proofs.Ytihhchebcojplaa
/- The value of a digit of base 16: mathematics. -/
namespace Go.Proofs.Ytihhchebcojplaa
open Go.RowKit

/-- A hexadecimal digit's value, or minus one. -/
def hexV (c : UInt8) : Int :=
  if Nm.digB c = true then (c.toNat : Int) - 48 else if 97 ≤ c.toNat ∧ c.toNat ≤ 102 then (c.toNat : Int) - 97 + 10
  else if 65 ≤ c.toNat ∧ c.toNat ≤ 70 then (c.toNat : Int) - 65 + 10 else -1

end Go.Proofs.Ytihhchebcojplaa
/- What ReadV6 answers: mathematics. -/
namespace Go.Proofs.Ytihhchebcojplaa
open Go.RowKit

def isHex (c : UInt8) : Bool := decide (0 ≤ hexV c)
theorem hexV_lt (c : UInt8) : hexV c < 16 ∧ -1 ≤ hexV c := by
  unfold hexV
  split
  · rename_i h; simp [Nm.digB] at h; omega
  · split
    · omega
    · split <;> omega
/-- The number of digits of base 16. -/
def hexN (l : List UInt8) : Nat := l.foldl (fun n c => n * 16 + (hexV c).toNat) 0
theorem hexN_snoc (l : List UInt8) (c : UInt8) : hexN (l ++ [c]) = hexN l * 16 + (hexV c).toNat := by simp [hexN]
theorem hexN_lt (l : List UInt8) : hexN l < 16 ^ l.length := by
  have key : ∀ (l : List UInt8) (a : Nat), l.foldl (fun n c => n * 16 + (hexV c).toNat) a < (a + 1) * 16 ^ l.length := by
    intro l
    induction l with
    | nil => intro a; simp
    | cons c l ih =>
      intro a
      have hc := hexV_lt c
      rw [List.foldl_cons, List.length_cons, Nat.pow_succ]
      refine Nat.lt_of_lt_of_le (ih _) ?_
      have h1 : a * 16 + (hexV c).toNat + 1 ≤ (a + 1) * 16 := by omega
      have h2 := Nat.mul_le_mul_right (16 ^ l.length) h1
      have h3 : (a + 1) * 16 * 16 ^ l.length = (a + 1) * (16 ^ l.length * 16) := by rw [Nat.mul_assoc, Nat.mul_comm 16]
      omega
  have := key l 0
  rw [Nat.zero_add, Nat.one_mul] at this
  exact this
theorem hexN_small {l : List UInt8} (h : l.length ≤ 4) : hexN l < 65536 := by
  have h1 := hexN_lt l
  have h2 : 16 ^ l.length ≤ 16 ^ 4 := Nat.pow_le_pow_right (by decide) h
  have h3 : (16 : Nat) ^ 4 = 65536 := by decide
  omega
def grpO (p : ByteArray) : Option Nat := if 1 ≤ p.size ∧ p.size ≤ 4 ∧ p.data.toList.all isHex = true then some (hexN p.data.toList) else none
theorem grpO_len {p : ByteArray} (h : ¬ (1 ≤ p.size ∧ p.size ≤ 4)) : grpO p = none := by rw [grpO, if_neg (fun h' => h ⟨h'.1, h'.2.1⟩)]
theorem grpO_bad {p : ByteArray} {k : Nat} (hk : k < p.size) (h : hexV p[k] < 0) : grpO p = none := by
  rw [grpO, if_neg]
  rintro ⟨_, _, h3⟩
  have := List.all_eq_true.1 h3 p[k] (List.mem_of_getElem? (Nm.get_data hk))
  simp [isHex] at this
  omega
theorem grpO_good {p : ByteArray} (h1 : 1 ≤ p.size) (h2 : p.size ≤ 4) (h : ∀ j, (hj : j < p.size) → 0 ≤ hexV p[j]) : grpO p = some (hexN p.data.toList) := by
  rw [grpO, if_pos]
  refine ⟨h1, h2, ?_⟩
  rw [List.all_eq_true]
  intro c hc
  obtain ⟨i, hi⟩ := List.getElem?_of_mem hc
  have hl : i < p.size := by
    have := (List.getElem?_eq_some_iff.1 hi).1
    simpa using this
  rw [Nm.get_data hl] at hi
  simp at hi
  rw [← hi]
  simp [isHex]
  exact h _ hl
theorem grpO_lt {p : ByteArray} {n : Nat} (h : grpO p = some n) : n < 65536 := by
  unfold grpO at h
  by_cases hc : 1 ≤ p.size ∧ p.size ≤ 4 ∧ p.data.toList.all isHex = true
  · rw [if_pos hc] at h
    have := hexN_small (l := p.data.toList) (by simp; omega)
    rw [← Option.some.inj h]
    exact this
  · rw [if_neg hc] at h; cases h

def put2 (n : Nat) : List UInt8 := [UInt8.ofNat (n / 256), UInt8.ofNat (n % 256)]
/-- A part of an address of sixteen bytes. -/
def gPart (p : ByteArray) (last : Bool) : Option (List UInt8) :=
  if last = true ∧ (readV4S p).2 = 0 then some (readV4S p).1.data.toList else (grpO p).map put2
def gFrom (last : Bool) : List ByteArray → Option (List UInt8)
  | [] => some []
  | p :: r => match gPart p (last && r.isEmpty) with
    | none => none
    | some b => (gFrom last r).map (fun t => b ++ t)
def GAt (last : Bool) (ls : List ByteArray) (k : Nat) (o : List UInt8) : Prop := gFrom last ls = (gFrom last (ls.drop k)).map (fun t => o ++ t)
theorem g_start (last : Bool) (ls : List ByteArray) : GAt last ls 0 [] := by simp [GAt]
theorem drop_at' {ls : List ByteArray} {k : Nat} {p : ByteArray} (hp : ls[k]? = some p) : ls.drop k = p :: ls.drop (k + 1) ∧ (ls.drop (k + 1)).isEmpty = decide (k + 1 = ls.length) := by
  have hk : k < ls.length := (List.getElem?_eq_some_iff.1 hp).1
  have hx : ls[k] = p := (List.getElem?_eq_some_iff.1 hp).2
  refine ⟨by rw [List.drop_eq_getElem_cons hk, hx], ?_⟩
  rw [Bool.eq_iff_iff, List.isEmpty_iff, decide_eq_true_eq, List.drop_eq_nil_iff]
  omega
theorem g_next {last : Bool} {ls : List ByteArray} {k : Nat} {o b : List UInt8} {p : ByteArray} (h : GAt last ls k o) (hp : ls[k]? = some p) (hb : gPart p (last && decide (k + 1 = ls.length)) = some b) : GAt last ls (k + 1) (o ++ b) := by
  obtain ⟨e1, e2⟩ := drop_at' hp
  rw [GAt] at h ⊢
  rw [h, e1, gFrom, e2, hb]
  simp only [Option.map_map]
  congr 1; funext t; simp
theorem g_bad {last : Bool} {ls : List ByteArray} {k : Nat} {o : List UInt8} {p : ByteArray} (h : GAt last ls k o) (hp : ls[k]? = some p) (hb : gPart p (last && decide (k + 1 = ls.length)) = none) : gFrom last ls = none := by
  obtain ⟨e1, e2⟩ := drop_at' hp
  rw [GAt] at h
  rw [h, e1, gFrom, e2, hb]; rfl
theorem g_end {last : Bool} {ls : List ByteArray} {k : Nat} {o : List UInt8} (h : GAt last ls k o) (hk : ls.length ≤ k) : gFrom last ls = some o := by
  rw [GAt, List.drop_eq_nil_of_le hk] at h
  rw [h]; simp [gFrom]

/-- An address of four bytes has four. -/
theorem v4_four {p : ByteArray} (h : (readV4S p).2 = 0) : (readV4S p).1.data.toList.length = 4 := by
  have key : ∀ (ls : List ByteArray) (l : List UInt8), v4All ls = some l → l.length = ls.length := by
    intro ls
    induction ls with
    | nil => intro l h; simp [v4All] at h; subst h; rfl
    | cons p r ih =>
      intro l h
      rw [v4All] at h
      cases hp : v4Part p with
      | none => rw [hp] at h; cases h
      | some n =>
        rw [hp] at h
        cases hr : v4All r with
        | none => rw [hr] at h; cases h
        | some t =>
          rw [hr] at h
          simp at h
          subst h
          simp [ih t hr]
  unfold readV4S at h ⊢
  split at h
  · rename_i h4
    rw [if_pos h4]
    cases hv : v4All (cutB p 46) with
    | none => rw [hv] at h; simp at h
    | some l =>
      simp
      rw [key _ _ hv, h4]
  · simp at h
theorem gPart_len {p : ByteArray} {last : Bool} {b : List UInt8} (h : gPart p last = some b) : b.length = 2 ∨ b.length = 4 := by
  unfold gPart at h
  split at h
  · rename_i hc
    simp at h
    rw [← h]
    exact .inr (v4_four hc.2)
  · cases hg : grpO p with
    | none => rw [hg] at h; cases h
    | some n => rw [hg] at h; simp at h; subst h; exact .inl rfl
theorem gFrom_even (last : Bool) : ∀ (ls : List ByteArray) (l : List UInt8), gFrom last ls = some l → l.length % 2 = 0 ∧ l.length ≤ 4 * ls.length := by
  intro ls
  induction ls with
  | nil => intro l h; simp [gFrom] at h; subst h; simp
  | cons p r ih =>
    intro l h
    rw [gFrom] at h
    cases hp : gPart p (last && r.isEmpty) with
    | none => rw [hp] at h; cases h
    | some b =>
      rw [hp] at h
      cases hr : gFrom last r with
      | none => rw [hr] at h; cases h
      | some t =>
        rw [hr] at h
        simp at h
        subst h
        have h1 := gPart_len hp
        have h2 := ih t hr
        simp
        omega
def groupsS (s : ByteArray) (last : Bool) : Option (List UInt8) := if s.size = 0 then some [] else gFrom last (cutB s 58)
theorem groups_even {s : ByteArray} {last : Bool} {l : List UInt8} (h : groupsS s last = some l) : l.length % 2 = 0 ∧ l.length ≤ 4 * (s.size + 1) := by
  unfold groupsS at h
  split at h
  · simp at h; subst h; simp
  · have := gFrom_even last _ _ h
    have h2 := cutB_le s 58
    omega

def v6Gap (s : ByteArray) (i : Nat) : ByteArray × Int := match groupsS (s.extract 0 i) false, groupsS (s.extract (i + 2) s.size) true with
  | some a, some b => if 14 < a.length + b.length then (⟨#[]⟩, 7) else (⟨(a ++ List.replicate (16 - a.length - b.length) 0 ++ b).toArray⟩, 0)
  | _, _ => (⟨#[]⟩, 7)
def v6Whole (s : ByteArray) : ByteArray × Int := match groupsS s true with
  | some o => if o.length = 16 then (⟨o.toArray⟩, 0) else (⟨#[]⟩, 7)
  | none => (⟨#[]⟩, 7)
def readV6S (s : ByteArray) : ByteArray × Int := if 100 < s.size then (⟨#[]⟩, 7) else
  if 0 ≤ Lib.index s.data.toList [58, 58] then v6Gap s (Lib.index s.data.toList [58, 58]).toNat else v6Whole s

theorem occ_two {s : ByteArray} {i : Nat} (_h : i + 2 ≤ s.size) : Lib.occAt s.data.toList [58, 58] i = ((s.extract i (i + 2)).toList == [58, 58]) := by
  rw [Bool.eq_iff_iff, beq_iff_eq, ByteArray.toList_eq]
  unfold Lib.occAt
  rw [List.isPrefixOf_iff_prefix, List.prefix_iff_eq_take]
  have e : (s.extract i (i + 2)).data.toList = (s.data.toList.drop i).take 2 := by
    simp [List.extract_eq_take_drop]
  rw [e]
  constructor
  · intro h; exact h.symm
  · intro h; exact h.symm
def NoDD (s : ByteArray) (i : Nat) : Prop := Lib.NoOcc s.data.toList [58, 58] i
theorem dd_start (s : ByteArray) : NoDD s 0 := Lib.NoOcc.zero _ _
theorem dd_next {s : ByteArray} {i : Nat} (h : NoDD s i) (hi : i + 2 ≤ s.size) (hn : ((s.extract i (i + 2)).toList == [58, 58]) = false) : NoDD s (i + 1) := by
  intro j hj
  by_cases e : j = i
  · subst e; rw [occ_two hi]; exact hn
  · exact h j (by omega)
theorem dd_hit {s : ByteArray} {i : Nat} (h : NoDD s i) (h100 : ¬ 100 < s.size) (hi : i + 2 ≤ s.size) (hn : ((s.extract i (i + 2)).toList == [58, 58]) = true) : readV6S s = v6Gap s i := by
  have e := Lib.index_hit h (by simp; omega) (by rw [occ_two hi]; exact hn)
  rw [readV6S, if_neg h100, e, if_pos (by omega), Int.toNat_natCast]
theorem dd_none {s : ByteArray} {i : Nat} (h : NoDD s i) (h100 : ¬ 100 < s.size) (hi : s.size < i + 2) : readV6S s = v6Whole s := by
  have e := Lib.index_past (sub := [58, 58]) (by simp) h (by simp; omega)
  rw [readV6S, if_neg h100, e, if_neg (by omega)]
theorem v6_long {s : ByteArray} (h : 100 < s.size) : readV6S s = (⟨#[]⟩, 7) := by rw [readV6S, if_pos h]
end Go.Proofs.Ytihhchebcojplaa
/- Bytes of a string, laid in a new row. -/
namespace Go.Proofs.Ytihhchebcojplaa
open Go.RowKit

/-- The bytes 'l' lie at the head of block g, and may be written. -/
def BRow (w : World) (g : Nat) (l : List UInt8) : Prop := ∀ j c, l[j]? = some c → w.cell? ⟨g, j, none⟩ = some (.int .u8 c.toNat) ∧ w.frozen? ⟨g, j, none⟩ = false

theorem BRow.set {w : World} {g k : Nat} {l : List UInt8} {d : UInt8} (h : BRow w g l) (hk : k < l.length) : BRow (w.setCell ⟨g, k, none⟩ (.int .u8 d.toNat)) g (l.set k d) := by
  intro j c hj
  obtain ⟨x, hx⟩ : ∃ x, l[k]? = some x := ⟨_, List.getElem?_eq_getElem hk⟩
  by_cases e : k = j
  · subst e
    rw [List.getElem?_set_self hk] at hj
    simp at hj
    subst hj
    exact ⟨World.cell?_setCell_same _ _ _ (h k x hx).1, by rw [World.frozen?_setCell]; exact (h k x hx).2⟩
  · rw [List.getElem?_set_ne e] at hj
    refine ⟨?_, by rw [World.frozen?_setCell]; exact (h j c hj).2⟩
    rw [World.cell?_setCell_other w ⟨g, k, none⟩ ⟨g, j, none⟩ _ (by intro h; cases h; exact e rfl)]
    exact (h j c hj).1

theorem new_bytes (s : ByteArray) (w : World) : ∃ cap W, s.size ≤ cap ∧ (s.size ≤ maxLen → cap ≤ maxLen) ∧
    (convert 9 22 (.string s)).run Try.prog w = .ok (.slice (some ⟨w.heap.size, 0, none⟩) s.size cap) W ∧ BRow W w.heap.size s.data.toList ∧ Below w.heap.size w W := by
  refine ⟨_, _, grownCap_ge w s.size 0 5, grownCap_le_maxLen w s.size 0 5, run_bytes_of_string w 9 22 5 s Try.underlying9 Try.underlying22 Try.underlying5, ?_, ?_⟩
  · intro j c hj
    have hj' : j < s.data.size := by
      have := (List.getElem?_eq_some_iff.1 hj).1
      simpa using this
    have hc : s.data[j] = c := by
      have := (List.getElem?_eq_some_iff.1 hj).2
      simpa using this
    constructor
    · have e := cell_of_row (w.drew.alloc (.cells (bytesRow s (grownCap w s.size 0 5)) 5 ((bytesRow s (grownCap w s.size 0 5)).size, (bytesRow s (grownCap w s.size 0 5)).size + 1))) w.heap.size j _ 5 _ (heap_alloc_new w.drew _)
      rw [e, bytesRow_at s _ j hj', hc]
    · have e := World.frozen?_alloc_mark w.drew (bytesRow s (grownCap w s.size 0 5)) 5 (bytesRow s (grownCap w s.size 0 5)).size ((bytesRow s (grownCap w s.size 0 5)).size + 1) j
      rw [show w.heap.size = w.drew.heap.size from rfl, e]
      have : s.data.size ≤ (bytesRow s (grownCap w s.size 0 5)).size := by simp [bytesRow]
      simp; omega
  · exact ((Below.refl _ w).drew).alloc (Nat.le_refl _) _

end Go.Proofs.Ytihhchebcojplaa
/- Rows of bytes that may be written up to their capacity; what an append leaves. -/
namespace Go.Proofs.Ytihhchebcojplaa
open Go.RowKit

theorem Try.infoB : (Try.prog.info? 5).map (fun i => (i.zero, i.size, i.bytes)) = some (some (.int .u8 0), 1, 1) := by kernel_rfl

/-- The bytes 'l' lie where the slice 'v' leads, in a block from B on; the whole row may be written. -/
def FRow (w : World) (B : Nat) (v : Value) (l : List UInt8) : Prop :=
  ∃ g cap, v = .slice (some ⟨g, 0, none⟩) l.length cap ∧ l.length ≤ cap ∧ cap ≤ maxLen ∧ B ≤ g ∧ g < w.heap.size ∧
    (∀ j, j < cap → (w.cell? ⟨g, j, none⟩).isSome = true ∧ w.frozen? ⟨g, j, none⟩ = false) ∧
    (∀ (j : Nat) (c : UInt8), l[j]? = some c → w.cell? ⟨g, j, none⟩ = some (.int .u8 (c.toNat : Int)))

theorem bys_get {l : List UInt8} {j : Nat} {u : Value} (h : (Nm.bys l)[j]? = some u) : ∃ c, l[j]? = some c ∧ u = .int .u8 (c.toNat : Int) := by
  simp [Nm.bys] at h
  obtain ⟨c, h1, h2⟩ := h
  exact ⟨c, h1, h2.symm⟩

theorem sc_size (b : Nat) : ∀ (vs : List Value) (o : Nat) (w : World), (w.setCells b o vs).heap.size = w.heap.size := by
  intro vs
  induction vs with
  | nil => intro o w; rfl
  | cons v vs ih => intro o w; rw [World.setCells, ih]; simp
theorem sc_tape (b : Nat) : ∀ (vs : List Value) (o : Nat) (w : World), (w.setCells b o vs).tape = w.tape := by
  intro vs
  induction vs with
  | nil => intro o w; rfl
  | cons v vs ih => intro o w; rw [World.setCells, ih]; simp

theorem FRow.app {w : World} {B : Nat} {v : Value} {l : List UInt8} (h : FRow w B v l) (hB : B ≤ w.heap.size) (tx : TypeId) (x : Value) (r : List UInt8)
    (hs : _root_.Go.Src Try.prog 1 tx x r.length (Nm.bys r) w) (hlen : l.length + r.length ≤ 1000000000000) :
    ∃ v' w', (∀ ty, (Builtin.append_ #[22, tx] ty #[v, x]).run Try.prog w = .ok v' w') ∧ FRow w' B v' (l ++ r) ∧ Below B w w' := by
  obtain ⟨g, cap, rfl, h1, h2, h3, h4, h5, h6⟩ := h
  obtain ⟨i0, hi, hz0, hz1, hz2⟩ := info_parts Try.infoB
  have hbl : (Nm.bys r).length = r.length := Nm.bys_length r
  by_cases hroom : l.length + r.length ≤ cap
  · have hc : ∀ j, j < (Nm.bys r).length → (w.cell? ⟨g, 0 + l.length * i0.size + j, none⟩).isSome = true := by
      intro j hj
      rw [hz1, Nat.zero_add, Nat.mul_one]
      exact (h5 _ (by omega)).1
    have hf : ∀ j, j < (Nm.bys r).length → w.frozen? ⟨g, 0 + l.length * i0.size + j, none⟩ = false := by
      intro j hj
      rw [hz1, Nat.zero_add, Nat.mul_one]
      exact (h5 _ (by omega)).2
    have hr := fun ty => run_append_room_src (P := Try.prog) w 22 tx ty 5 i0 Try.underlying22 hi g 0 l.length cap x r.length (Nm.bys r) (by rw [hz1]; exact hs) hroom hc hf
    simp only [hz1, Nat.zero_add, Nat.mul_one] at hr
    rw [hz1, Nat.zero_add, Nat.mul_one] at hc
    refine ⟨_, _, hr, ⟨g, cap, by rw [List.length_append], by rw [List.length_append]; exact hroom, h2, h3, ?_, ?_, ?_⟩, ?_⟩
    · rw [sc_size]; exact h4
    · intro j hj
      refine ⟨?_, by rw [World.frozen?_setCells]; exact (h5 j hj).2⟩
      by_cases hin : l.length ≤ j ∧ j < l.length + r.length
      · have e := World.cell?_setCells_in g (Nm.bys r) l.length w hc (j - l.length) (by omega)
        rw [show l.length + (j - l.length) = j by omega] at e
        rw [e]; rfl
      · rw [World.cell?_setCells_out g _ _ _ _ (fun _ _ => by simp only [hbl]; omega)]
        exact (h5 j hj).1
    · intro j c hj
      by_cases hlt : j < l.length
      · rw [List.getElem?_append_left hlt] at hj
        rw [World.cell?_setCells_out g _ _ _ _ (fun _ _ => .inl hlt)]
        exact h6 j c hj
      · rw [List.getElem?_append_right (by omega)] at hj
        have hjr : j - l.length < r.length := (List.getElem?_eq_some_iff.1 hj).1
        have e := World.cell?_setCells_in g (Nm.bys r) l.length w hc (j - l.length) (by omega)
        rw [show l.length + (j - l.length) = j by omega] at e
        rw [e]
        have e2 : (Nm.bys r)[j - l.length]? = some (.int .u8 (c.toNat : Int)) := by simp [Nm.bys, hj]
        rw [List.getElem?_eq_getElem (by omega)] at e2
        exact e2
    · exact ⟨World.os_setCells _ _ _ _, sc_tape _ _ _ _, World.output_setCells _ _ _ _, Nat.le_of_eq (sc_size _ _ _ _).symm, fun k hk => World.heap_setCells_other w g _ _ (by omega) (by omega)⟩
  · have hold : (Builtin.firstCells i0.size l.length (.slice (some ⟨g, 0, none⟩) l.length cap)).run Try.prog w.drew = .ok (Nm.bys l).toArray w.drew := by
      rw [hz1]
      refine run_firstCells_some w.drew 1 l.length ⟨g, 0, none⟩ l.length cap (Nm.bys l) (by rw [Nm.bys_length, Nat.mul_one]) ?_
      intro j u hu
      obtain ⟨c, hc, rfl⟩ := bys_get hu
      have := h6 j c hc
      rw [Nm.addr_add, Nat.zero_add]
      exact this
    have hr := fun ty => run_append_grow_src (P := Try.prog) w 22 tx ty 5 i0 (.int .u8 0) Try.underlying22 hi hz0 (some ⟨g, 0, none⟩) l.length cap (Nm.bys l) hold x r.length (Nm.bys r) (by rw [hz1]; exact hs) (by omega) (by omega) (by rw [hz2]; exact growslice_fits (by omega) (by omega))
    have hge := grownCap_ge w (l.length + r.length) cap 5
    have hle := grownCap_le_maxLen w (l.length + r.length) cap 5 (by unfold maxLen; omega)
    generalize grownCap w (l.length + r.length) cap 5 = C at *
    have hall : ∀ j, j < C → ∃ u, ((Nm.bys l ++ Nm.bys r).toArray ++ Builtin.zeroCells (Value.int IntKind.u8 0).cells (C - (l.length + r.length)))[j]? = some u := by
      intro j hj
      have hz : ((Nm.bys l ++ Nm.bys r).toArray ++ Builtin.zeroCells (Value.int IntKind.u8 0).cells (C - (l.length + r.length))).size = C := by
        have hz1' : (Value.int IntKind.u8 0).cells.size = 1 := rfl
        simp only [Array.size_append, List.size_toArray, size_zeroCells, hz1', List.length_append, Nm.bys_length]
        omega
      exact ⟨_, Array.getElem?_eq_getElem (by omega)⟩
    have hcell : ∀ j, (w.drew.alloc (.cells ((Nm.bys l ++ Nm.bys r).toArray ++ Builtin.zeroCells (Value.int IntKind.u8 0).cells (C - (l.length + r.length))) 5)).cell? ⟨w.heap.size, j, none⟩ = ((Nm.bys l ++ Nm.bys r).toArray ++ Builtin.zeroCells (Value.int IntKind.u8 0).cells (C - (l.length + r.length)))[j]? := by
      intro j
      exact World.cell?_alloc_new w.drew _ _ j
    refine ⟨_, _, hr, ⟨w.heap.size, C, by rw [List.length_append], by rw [List.length_append]; exact hge, hle, hB, by simp, ?_, ?_⟩, ?_⟩
    · intro j hj
      obtain ⟨u, hu⟩ := hall j hj
      exact ⟨by rw [hcell, hu]; rfl, World.frozen?_alloc_new w.drew _ _ j⟩
    · intro j c hj
      rw [hcell]
      have e : (Nm.bys l ++ Nm.bys r)[j]? = some (.int .u8 (c.toNat : Int)) := by
        rw [← Nm.bys_append, Nm.bys, List.getElem?_map, hj]; rfl
      rw [Array.getElem?_append_left (by have := (List.getElem?_eq_some_iff.1 e).1; simpa using this)]
      simpa using e
    · exact ((Below.refl B w).drew).alloc hB _

theorem FRow.below {w w' : World} {B : Nat} {v : Value} {l : List UInt8} (h : FRow w B v l) (hb : Below w.heap.size w w') : FRow w' B v l := by
  obtain ⟨g, cap, rfl, h1, h2, h3, h4, h5, h6⟩ := h
  have hc : ∀ j, w'.cell? ⟨g, j, none⟩ = w.cell? ⟨g, j, none⟩ := fun j => hb.cell h4
  have hfz : ∀ j, w'.frozen? ⟨g, j, none⟩ = w.frozen? ⟨g, j, none⟩ := fun j => by
    simp only [World.frozen?, hb.block g h4]
  refine ⟨g, cap, rfl, h1, h2, h3, Nat.lt_of_lt_of_le h4 hb.size, ?_, ?_⟩
  · intro j hj; rw [hc, hfz]; exact h5 j hj
  · intro j c hj; rw [hc]; exact h6 j c hj

/-- string(b) of such a row. -/
theorem FRow.str {w : World} {B : Nat} {v : Value} {l : List UInt8} (h : FRow w B v l) : (convert 22 9 v).run Try.prog w = .ok (.string ⟨l.toArray⟩) w := by
  obtain ⟨g, cap, rfl, h1, h2, h3, h4, h5, h6⟩ := h
  refine run_convert_bytes_back w 22 9 5 ⟨g, 0, none⟩ cap l Try.underlying22 Try.underlying5 Try.underlying9 ?_
  intro j hj
  rw [Nm.addr_add, Nat.zero_add]
  exact h6 j _ (List.getElem?_eq_getElem hj)

/-- []byte(s). -/
theorem FRow.new (s : ByteArray) (w : World) (hs : s.size ≤ 1000000000000) : ∃ v W, (convert 9 22 (.string s)).run Try.prog w = .ok v W ∧ FRow W w.heap.size v s.data.toList ∧ Below w.heap.size w W := by
  have hge := grownCap_ge w s.size 0 5
  have hle := grownCap_le_maxLen w s.size 0 5 (by unfold maxLen; omega)
  have hr := run_bytes_of_string w 9 22 5 s Try.underlying9 Try.underlying22 Try.underlying5
  generalize grownCap w s.size 0 5 = C at *
  have hl : s.data.toList.length = s.size := by simp
  have hz : (bytesRow s C).size = C := by
    have : s.data.size = s.size := rfl
    simp [bytesRow]; omega
  have hcell : ∀ j, (w.drew.alloc (.cells (bytesRow s C) 5 ((bytesRow s C).size, (bytesRow s C).size + 1))).cell? ⟨w.heap.size, j, none⟩ = (bytesRow s C)[j]? := fun j =>
    cell_of_row _ w.heap.size j _ 5 _ (heap_alloc_new w.drew _)
  refine ⟨_, _, hr, ⟨w.heap.size, C, by rw [hl], by omega, hle, Nat.le_refl _, by simp, ?_, ?_⟩, ((Below.refl _ w).drew).alloc (Nat.le_refl _) _⟩
  · intro j hj
    refine ⟨by rw [hcell, Array.getElem?_eq_getElem (by omega)]; rfl, ?_⟩
    have e := World.frozen?_alloc_mark w.drew (bytesRow s C) 5 (bytesRow s C).size ((bytesRow s C).size + 1) j
    rw [show w.heap.size = w.drew.heap.size from rfl, e]
    simp; omega
  · intro j c hj
    have hj' : j < s.data.size := by
      have := (List.getElem?_eq_some_iff.1 hj).1
      simpa using this
    have hc : s.data[j] = c := by
      have := (List.getElem?_eq_some_iff.1 hj).2
      simpa using this
    rw [hcell, bytesRow_at s _ j hj', hc]

/-- The operation, for the walk. -/
theorem wpList_append_run {ops : Array Oper} {rest : List Oper} {o : Oper} {a : Act} {w : World} {Q : Exit → Act → World → Prop} (hgd : o.guard = none) (s x : Operand) (t u : TypeId)
    (ho : o.op = .call { callee := .builtin .append, args := #[s, x], argTypes := #[t, u] }) (v xv : Value) (hs : a.eval s = v) (hx : a.eval x = xv)
    (v' : Value) (w' : World) (hr : ∀ ty, (Builtin.append_ #[t, u] ty #[v, xv]).run Try.prog w = .ok v' w')
    (h : wpList Try.prog ops Q rest (a.put o.dst v') w') : wpList Try.prog ops Q (o :: rest) a w := by
  refine wpList_plain hgd fun K hK => ?_
  have hr := hr o.type
  unfold Oper.wp execOp
  simp only [ho, resolve, invoke, builtin, Sem.run_bind, Sem.run_pure, Result.andThen_ok, List.map_toArray, List.map_cons, List.map_nil, hs, hx, hr]
  exact hK _ _ h
end Go.Proofs.Ytihhchebcojplaa
/- spec.l02Put at width 2 by its contract. -/
namespace Go.Proofs.Ytihhchebcojplaa
open Go.RowKit

theorem put2_cells {n : Nat} (h : n < 65536) : Nm.bys (put2 n) = [.int .u8 ((n : Int) / 256), .int .u8 ((n : Int) % 256)] := by
  simp [Nm.bys, put2]
  omega

theorem put2_step {W wr w1 : World} {v v' : Value} {B e n : Nat} {l : List Value} {x : Value} (hB : B ≤ wr.heap.size)
    (hown : wr.ownsRow B e 1 v n l) (hbel : Below B W wr) (o : Obj) (hgrow : (wr.alloc o).grownBy w1 v.ownBlock)
    (hown' : w1.ownsRow B e 1 v' (n + 1) (l ++ [x])) :
    w1.ownsRow B e 1 v' (n + 1) (l ++ [x]) ∧ Below B W w1 := by
  refine ⟨hown', ?_⟩
  refine (hbel.alloc hB o).grown hgrow (by simp; omega) ?_
  intro k hk
  exact (hown.lt k hk).1

set_option maxRecDepth 100000 in
set_option maxHeartbeats 800000 in
theorem l02Put2_any (n : Nat) (w : World) (hn : n < 65536) :
    Calls Try.prog 44 #[.int .i64 (n : Int), .int .i64 2] w fun e w' => e = .returned (.string ⟨(put2 n).toArray⟩) ∧ Below w.heap.size w w' := by
  obtain ⟨i0, hi, hz0, hz1, hz2⟩ := info_parts Try.infoB
  have hcs := put2_cells hn
  have hn' : (n : Int) < 65536 := by omega
  go_enter Try.func44, Try.ntmps44
  go_wp2
  go_loopw [5, 6] (fun v i wr => ∃ j : Nat, j ≤ 2 ∧ i = .int .i64 (1 - (j : Int)) ∧ wr.ownsRow w.heap.size 5 1 v j ([Value.int .u8 ((n : Int) / 256), .int .u8 ((n : Int) % 256)].take j) ∧ Below w.heap.size w wr)
    (fun _ i _ => (intOf i + 1).toNat)
  case atStart => exact ⟨0, by omega, rfl, World.ownsRow_made w #[] 0 (Nat.le_refl _) (by decide) rfl, (Below.refl _ _).alloc (Nat.le_refl _) _⟩
  case round =>
    obtain ⟨j, hj, rfl, hown, hbel⟩ := hrel
    have hsz := hbel.size
    obtain rfl | rfl | rfl : j = 0 ∨ j = 1 ∨ j = 2 := by omega
    · simp only [List.take_zero, Int.sub_zero, Int.cast_ofNat_Int] at hown ⊢
      go_wp2_with (at_builtin; refine wpList_append_own _ rfl (.tmp 14) (.tmp 21) 22 rfl w.heap.size 5 i0 (.int .u8 0) 1 1 Try.underlying22 hi hz0 hz1 hz2 rfl (by decide) _ _ _ rfl (hown.alloc _) ⟨wr.heap.size, 0, none⟩ 1 1 [.int .u8 ((n : Int) / 256)] rfl rfl (cell_new1 _ _ _) (Nm.one_cell _ rfl) (by unfold maxLen; omega) (by omega) (by simp; omega) ?_)
      intro v' w1 hown' hgrow _
      have R := put2_step hsz hown hbel _ hgrow hown'
      clear hown' hgrow hown hbel
      go_wp2
      go_roundw
      case rel => exact ⟨1, by omega, by go_num, R.1, R.2⟩
      case measure => simp [intOf]
    · simp only [List.take_succ_cons, List.take_zero] at hown ⊢
      go_wp2_with (at_builtin; refine wpList_append_own _ rfl (.tmp 14) (.tmp 21) 22 rfl w.heap.size 5 i0 (.int .u8 0) 1 1 Try.underlying22 hi hz0 hz1 hz2 rfl (by decide) _ _ _ rfl (hown.alloc _) ⟨wr.heap.size, 0, none⟩ 1 1 [.int .u8 ((n : Int) % 256)] rfl rfl (cell_new1 _ _ _) (Nm.one_cell _ rfl) (by unfold maxLen; omega) (by omega) (by simp; omega) ?_)
      intro v' w1 hown' hgrow _
      have R := put2_step hsz hown hbel _ hgrow hown'
      clear hown' hgrow hown hbel
      go_wp2
      go_roundw
      case rel => exact ⟨2, by omega, by go_num, R.1, R.2⟩
      case measure => simp [intOf]
    · simp only [List.take_succ_cons, List.take_zero] at hown ⊢
      rw [← hcs] at hown
      have HC := Nm.conv_own (P := Try.prog) (src := 22) (dst := 9) Try.underlying22 Try.underlying5 Try.underlying9 hown (by omega)
      obtain ⟨g, cap, rfl, hcv⟩ := HC
      clear hown
      go_wp2
      go_ret
      exact ⟨rfl, hbel⟩
end Go.Proofs.Ytihhchebcojplaa
/- How a message's name is written: the places of its rests. -/
namespace Go.Proofs.Ytihhchebcojplaa
open Go.RowKit
set_option linter.unusedVariables false

def nmB (ls : List ByteArray) : ByteArray := ⟨(Nm.joinL ls).toArray⟩
theorem nmB_data (ls : List ByteArray) : (nmB ls).data.toList = Nm.joinL ls := by simp [nmB]
theorem nmB_split {s : ByteArray} {ls : List ByteArray} (h : Nm.split s = some ls) : nmB ls = s := by
  apply Nm.ba_ext
  rw [nmB_data, (Nm.split_join h).1]
theorem nmB_size (ls : List ByteArray) : (nmB ls).size = Nm.wsum ls + 1 := by
  have : (nmB ls).size = (Nm.joinL ls).length := by simp [nmB, ByteArray.size]
  rw [this, Nm.joinL_length]

abbrev Wst := List UInt8 × List (ByteArray × Nat)
/-- A name's bytes: an earlier place of a rest, or the label and the rest. -/
def nmW : List ByteArray → List UInt8 → List (ByteArray × Nat) → Wst
  | [], bs, pls => (bs ++ [0], pls)
  | l :: ls, bs, pls =>
    if 0 ≤ seenS pls (nmB (l :: ls)) then (bs ++ put2 (49152 + (seenS pls (nmB (l :: ls))).toNat), pls)
    else nmW ls (bs ++ (UInt8.ofNat l.size :: l.data.toList)) (if bs.length ≤ 16383 then pls ++ [(nmB (l :: ls), bs.length)] else pls)

def PlOK (pls : List (ByteArray × Nat)) (n : Nat) : Prop := pls.length ≤ n ∧ ∀ p ∈ pls, p.2 ≤ 16383
theorem PlOK.mono {pls : List (ByteArray × Nat)} {n m : Nat} (h : PlOK pls n) (hm : n ≤ m) : PlOK pls m := ⟨by have := h.1; omega, h.2⟩
theorem PlOK.put {pls : List (ByteArray × Nat)} {n : Nat} {p : ByteArray × Nat} (h : PlOK pls n) (hp : p.2 ≤ 16383) : PlOK (pls ++ [p]) (n + 1) := by
  refine ⟨by have := h.1; simp; omega, ?_⟩
  intro q hq
  rcases List.mem_append.1 hq with hq | hq
  · exact h.2 q hq
  · simp at hq; subst hq; exact hp
theorem seenS_lt {pls : List (ByteArray × Nat)} {n : Nat} (h : PlOK pls n) (t : ByteArray) : -1 ≤ seenS pls t ∧ seenS pls t ≤ 16383 := by
  obtain ⟨hn, h⟩ := h
  clear hn
  induction pls with
  | nil => simp [seenS]
  | cons p r ih =>
    rw [seenS]
    have h1 := h p (List.mem_cons_self ..)
    have h2 := ih (fun q hq => h q (List.mem_cons_of_mem _ hq))
    split <;> omega

theorem nmW_len : ∀ (ls : List ByteArray) (bs : List UInt8) (pls : List (ByteArray × Nat)), (∀ x ∈ ls, 1 ≤ x.size) → (nmW ls bs pls).1.length ≤ bs.length + Nm.wsum ls + 1 ∧ bs.length + 1 ≤ (nmW ls bs pls).1.length := by
  intro ls
  induction ls with
  | nil => intro bs pls h; simp [nmW, Nm.wsum]
  | cons l ls ih =>
    intro bs pls h
    have h1 := h l (List.mem_cons_self ..)
    have e : Nm.wsum (l :: ls) = 1 + l.size + Nm.wsum ls := by simp [Nm.wsum]
    rw [nmW, e]
    split
    · simp [put2]; omega
    · have := ih (bs ++ (UInt8.ofNat l.size :: l.data.toList)) (if bs.length ≤ 16383 then pls ++ [(nmB (l :: ls), bs.length)] else pls) (fun x hx => h x (List.mem_cons_of_mem _ hx))
      simp at this ⊢
      omega
theorem nmW_ok : ∀ (ls : List ByteArray) (bs : List UInt8) (pls : List (ByteArray × Nat)), PlOK pls bs.length → PlOK (nmW ls bs pls).2 (nmW ls bs pls).1.length := by
  intro ls
  induction ls with
  | nil => intro bs pls h; exact h.mono (by simp [nmW])
  | cons l ls ih =>
    intro bs pls h
    rw [nmW]
    split
    · exact h.mono (by simp)
    · apply ih
      split
      · rename_i hl
        exact (h.put (p := (nmB (l :: ls), bs.length)) hl).mono (by simp)
      · exact h.mono (by simp)

theorem nmB_ne (l : ByteArray) (ls : List ByteArray) (h : 1 ≤ l.size) : ((nmB (l :: ls)).toList == [0]) = false := by
  rw [beq_eq_false_iff_ne]
  intro e
  have := congrArg List.length e
  rw [Nm.tl_len, nmB_size] at this
  simp [Nm.wsum] at this
theorem nmB_nil : ((nmB []).toList == [0]) = true := by
  rw [ByteArray.toList_eq, nmB_data]
  rfl
theorem nmB_data_cons (l : ByteArray) (ls : List ByteArray) : (nmB (l :: ls)).data.toList = UInt8.ofNat l.size :: (l.data.toList ++ Nm.joinL ls) := by
  rw [nmB_data]; simp [Nm.joinL, Nm.preL]
theorem nmB_0 (l : ByteArray) (ls : List ByteArray) (hl : l.size ≤ 63) (h : 0 < (nmB (l :: ls)).size) : ((nmB (l :: ls))[0].toNat : Int) = (l.size : Int) := by
  have e : (nmB (l :: ls)).data.toList[0]? = some (nmB (l :: ls))[0] := Nm.get_data h
  rw [nmB_data_cons] at e
  simp at e
  rw [← e]
  simp; omega
theorem nmB_pre (l : ByteArray) (ls : List ByteArray) : ((nmB (l :: ls)).extract 0 (l.size + 1)).data.toList = UInt8.ofNat l.size :: l.data.toList := by
  rw [ByteArray.data_extract, Array.toList_extract, nmB_data_cons]
  simp [List.extract]
theorem nmB_rest (l : ByteArray) (ls : List ByteArray) : (nmB (l :: ls)).extract (l.size + 1) (nmB (l :: ls)).size = nmB ls := by
  apply Nm.ba_ext
  rw [ByteArray.data_extract, Array.toList_extract, nmB_data_cons, nmB_data, nmB_size]
  simp [List.extract, Nm.wsum]
  exact List.take_of_length_le (by rw [Nm.joinL_length]; omega)
end Go.Proofs.Ytihhchebcojplaa
