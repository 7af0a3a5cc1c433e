import Derived.WalkKit
import Derived.Test.YtmaopfagkffccaaGreatRows
import Derived.WalkSpells
import Derived.WalkLawsBesides
import Derived.Lib.AppendStr
import Derived.Laws.IdiomStrings
import Derived.Laws.OwnMore
/- Names, as plain mathematics: the labels of a name in wire form. -/
namespace Go.Proofs.YtmaopfagkffccaaGreat.Nm

def splitF : Nat → ByteArray → Option (List ByteArray)
  | 0, _ => none
  | f + 1, r =>
    if h : 0 < r.size then
      if r[0].toNat = 0 then (if r.size = 1 then some [] else none)
      else if 63 < r[0].toNat ∨ r.size < r[0].toNat + 1 then none
      else (splitF f (r.extract (r[0].toNat + 1) r.size)).map (fun ls => r.extract 1 (r[0].toNat + 1) :: ls)
    else none

def split (s : ByteArray) : Option (List ByteArray) := if s.size ≤ 255 then splitF 256 s else none

theorem splitF_empty (f : Nat) (r : ByteArray) (h : r.size = 0) : splitF f r = none := by
  cases f with
  | zero => rfl
  | succ f => rw [splitF, dif_neg (by omega)]

theorem splitF_end (f : Nat) (r : ByteArray) (h : 0 < r.size) (h0 : r[0].toNat = 0) (h1 : r.size = 1) : splitF (f + 1) r = some [] := by
  rw [splitF, dif_pos h, if_pos h0, if_pos h1]

theorem splitF_zero (f : Nat) (r : ByteArray) (h : 0 < r.size) (h0 : r[0].toNat = 0) (h1 : r.size ≠ 1) : splitF (f + 1) r = none := by
  rw [splitF, dif_pos h, if_pos h0, if_neg h1]

theorem splitF_bad (f : Nat) (r : ByteArray) (h : 0 < r.size) (h0 : r[0].toNat ≠ 0) (h1 : 63 < r[0].toNat ∨ r.size < r[0].toNat + 1) : splitF (f + 1) r = none := by
  rw [splitF, dif_pos h, if_neg h0, if_pos h1]

theorem splitF_step (f : Nat) (r : ByteArray) (h : 0 < r.size) (h0 : r[0].toNat ≠ 0) (h1 : r[0].toNat ≤ 63) (h2 : r[0].toNat + 1 ≤ r.size) :
    splitF (f + 1) r = (splitF f (r.extract (r[0].toNat + 1) r.size)).map (fun ls => r.extract 1 (r[0].toNat + 1) :: ls) := by
  rw [splitF, dif_pos h, if_neg h0, if_neg (by omega)]

theorem split_long (s : ByteArray) (h : 255 < s.size) : split s = none := by rw [split, if_neg (by omega)]
theorem split_short (s : ByteArray) (h : s.size ≤ 255) : split s = splitF 256 s := by rw [split, if_pos h]

/-- Where the reading stands: 'ls' are the labels that were cut off, 'r' is the rest. -/
def At (s : ByteArray) (ls : List ByteArray) (r : ByteArray) : Prop :=
  ∃ f, r.size < f ∧ split s = (splitF f r).map (fun t => ls ++ t)

theorem at_start (s : ByteArray) (h : s.size ≤ 255) : At s [] s := ⟨256, by omega, by rw [split_short s h]; simp⟩

theorem at_empty {s r : ByteArray} {ls : List ByteArray} (h : At s ls r) (h0 : r.size = 0) : split s = none := by
  obtain ⟨f, _, e⟩ := h; rw [e, splitF_empty f r h0]; rfl

theorem at_end {s r : ByteArray} {ls : List ByteArray} (h : At s ls r) (hp : 0 < r.size) (h0 : r[0].toNat = 0) (h1 : r.size = 1) : split s = some ls := by
  obtain ⟨f, hf, e⟩ := h
  obtain ⟨g, rfl⟩ : ∃ g, f = g + 1 := ⟨f - 1, by omega⟩
  rw [e, splitF_end g r hp h0 h1]; simp

theorem at_zero {s r : ByteArray} {ls : List ByteArray} (h : At s ls r) (hp : 0 < r.size) (h0 : r[0].toNat = 0) (h1 : r.size ≠ 1) : split s = none := by
  obtain ⟨f, hf, e⟩ := h
  obtain ⟨g, rfl⟩ : ∃ g, f = g + 1 := ⟨f - 1, by omega⟩
  rw [e, splitF_zero g r hp h0 h1]; rfl

theorem at_bad {s r : ByteArray} {ls : List ByteArray} (h : At s ls r) (hp : 0 < r.size) (h0 : r[0].toNat ≠ 0) (h1 : 63 < r[0].toNat ∨ r.size < r[0].toNat + 1) : split s = none := by
  obtain ⟨f, hf, e⟩ := h
  obtain ⟨g, rfl⟩ : ∃ g, f = g + 1 := ⟨f - 1, by omega⟩
  rw [e, splitF_bad g r hp h0 h1]; rfl

theorem at_step {s r : ByteArray} {ls : List ByteArray} (h : At s ls r) (hp : 0 < r.size) (h0 : r[0].toNat ≠ 0) (h1 : r[0].toNat ≤ 63) (h2 : r[0].toNat + 1 ≤ r.size) :
    At s (ls ++ [r.extract 1 (r[0].toNat + 1)]) (r.extract (r[0].toNat + 1) r.size) := by
  obtain ⟨f, hf, e⟩ := h
  obtain ⟨g, rfl⟩ : ∃ g, f = g + 1 := ⟨f - 1, by omega⟩
  refine ⟨g, by simp; omega, ?_⟩
  rw [e, splitF_step g r hp h0 h1 h2, Option.map_map]
  congr 1; funext t; simp

theorem tl_len (r : ByteArray) : r.toList.length = r.size := by rw [ByteArray.toList_eq]; simp

theorem tl_one {r : ByteArray} (h : 0 < r.size) (h1 : r.size = 1) (h0 : r[0].toNat = 0) : (r.toList == [0]) = true := by
  rw [beq_iff_eq, ByteArray.toList_eq]
  refine List.ext_getElem (by simpa using h1) ?_
  intro i hi hj
  have : i = 0 := by simpa using hj
  subst this
  have e : r.data.toList[0] = r[0] := rfl
  rw [e]
  exact UInt8.toNat_inj.1 (by simpa using h0)

theorem tl_not_one {r : ByteArray} (h : 0 < r.size) (h1 : ¬ (r.size = 1 ∧ r[0].toNat = 0)) : (r.toList == [0]) = false := by
  rw [beq_eq_false_iff_ne]
  intro e
  rw [ByteArray.toList_eq] at e
  apply h1
  refine ⟨by have := congrArg List.length e; simpa using this, ?_⟩
  have g : r.data.toList[0]? = some 0 := by rw [e]; rfl
  have g2 : r.data.toList[0]? = some r[0] := List.getElem?_eq_getElem (by simpa using h)
  rw [g2] at g
  have g3 : r[0] = 0 := by simpa using g
  rw [g3]; rfl

theorem tl_not_one_empty {r : ByteArray} (h : r.size = 0) : (r.toList == [0]) = false := by
  rw [beq_eq_false_iff_ne]
  intro e
  have := congrArg List.length e
  rw [tl_len] at this
  simp at this; omega

theorem tl_empty {r : ByteArray} (h : r.size = 0) : r.toList.isEmpty = true := by
  rw [List.isEmpty_iff, ← List.length_eq_zero_iff, tl_len]; exact h

theorem tl_not_empty {r : ByteArray} (h : 0 < r.size) : r.toList.isEmpty = false := by
  rw [Bool.eq_false_iff]
  intro e
  rw [List.isEmpty_iff, ← List.length_eq_zero_iff, tl_len] at e; omega

theorem one_cell (x : Value) (h : x.oneCell' = true) : ∀ u : Value, u ∈ [x] → u.oneCell' = true := by
  intro u hu; simp at hu; subst hu; exact h

end Go.Proofs.YtmaopfagkffccaaGreat.Nm
/- A row of strings of the call's own. -/
namespace Go.Proofs.YtmaopfagkffccaaGreat
open Go.RowKit

theorem Tryz.infoStr : (Tryz.prog.info? 9).map (fun i => (i.zero, i.size, i.bytes)) = some (some (.string ByteArray.empty), 1, 16) := by kernel_rfl

theorem own_step {W wr w1 : World} {v v' : Value} {B e : Nat} {ls : List ByteArray} {x : ByteArray} (hB : B ≤ wr.heap.size)
    (hown : wr.ownsRow B e 1 v ls.length (ls.map Value.string)) (hbel : Below B W wr) (o : Obj)
    (hown' : w1.ownsRow B e 1 v' (ls.length + 1) (ls.map Value.string ++ [.string x])) (hgrow : (wr.alloc o).grownBy w1 v.ownBlock) :
    w1.ownsRow B e 1 v' (ls ++ [x]).length ((ls ++ [x]).map Value.string) ∧ Below B W w1 := by
  refine ⟨by simpa using hown', ?_⟩
  refine (hbel.alloc hB o).grown hgrow (by simp; omega) ?_
  intro k hk
  exact (hown.lt k hk).1

theorem cell_new1 (w : World) (x : Value) (e : Nat) : ∀ (j : Nat) (u : Value), [x][j]? = some u → (w.alloc (.cells #[x] e)).cell? ((⟨w.heap.size, 0, none⟩ : Addr).add j) = some u := by
  intro j u hj
  match j, hj with
  | 0, hj => simp at hj; subst hj; simp [Addr.add]

theorem own_below {w w' : World} {B e s n : Nat} {v : Value} {xs : List Value} (h : w.ownsRow B e s v n xs) (hb : Below w.heap.size w w') : w'.ownsRow B e s v n xs :=
  h.kept (row := none) ⟨hb.os, hb.tape, hb.output, hb.size, fun k hk _ => hb.block k hk⟩ (by cases v.ownBlock <;> simp)

theorem own_base {w : World} {B B' e s n : Nat} {v : Value} {xs : List Value} (h : w.ownsRow B e s v n xs) (hb : B' ≤ B) : w.ownsRow B' e s v n xs := by
  refine ⟨h.1, ?_⟩
  rcases h.2 with hn | ⟨g, cap, cur, hv, hbg, rest⟩
  · exact .inl hn
  · exact .inr ⟨g, cap, cur, hv, Nat.le_trans hb hbg, rest⟩
end Go.Proofs.YtmaopfagkffccaaGreat
/- Lists of labels: as plain mathematics, and as they lie in memory. -/
namespace Go.Proofs.YtmaopfagkffccaaGreat.Nm
open Go.RowKit

def wsum : List ByteArray → Nat
  | [] => 0
  | l :: r => (1 + l.size) + wsum r

def preL : List ByteArray → List UInt8
  | [] => []
  | l :: r => (UInt8.ofNat l.size :: l.data.toList) ++ preL r

def joinL (ls : List ByteArray) : List UInt8 := preL ls ++ [0]

theorem hide {p : Prop} (h : p) : Hid p := h

theorem wsum_append (a b : List ByteArray) : wsum (a ++ b) = wsum a + wsum b := by
  induction a with
  | nil => simp [wsum]
  | cons x a ih => simp only [List.cons_append, wsum, ih]; omega

theorem preL_append (a b : List ByteArray) : preL (a ++ b) = preL a ++ preL b := by
  induction a with
  | nil => simp [preL]
  | cons x a ih => simp [preL, ih]

theorem preL_length (ls : List ByteArray) : (preL ls).length = wsum ls := by
  induction ls with
  | nil => rfl
  | cons x a ih => simp only [preL, wsum, List.length_append, List.length_cons, ih, Array.length_toList, ByteArray.size_data]; omega

theorem joinL_length (ls : List ByteArray) : (joinL ls).length = wsum ls + 1 := by simp [joinL, preL_length]

theorem length_le_wsum (ls : List ByteArray) : ls.length ≤ wsum ls := by
  induction ls with
  | nil => simp
  | cons x a ih => simp only [wsum, List.length_cons]; omega

theorem take_step {α : Type} {ls : List α} {k : Nat} {x : α} (h : ls[k]? = some x) : ls.take (k + 1) = ls.take k ++ [x] := by
  obtain ⟨hk, e⟩ := List.getElem?_eq_some_iff.1 h
  rw [List.take_succ_eq_append_getElem hk, e]

theorem wsum_step {ls : List ByteArray} {k : Nat} {x : ByteArray} (h : ls[k]? = some x) : wsum (ls.take (k + 1)) = wsum (ls.take k) + (1 + x.size) := by
  rw [take_step h, wsum_append]; simp [wsum]

theorem preL_step {ls : List ByteArray} {k : Nat} {x : ByteArray} (h : ls[k]? = some x) : preL (ls.take (k + 1)) = preL (ls.take k) ++ (UInt8.ofNat x.size :: x.data.toList) := by
  rw [take_step h, preL_append]; simp [preL]

theorem wsum_take_le (ls : List ByteArray) (k : Nat) : wsum (ls.take k) ≤ wsum ls := by
  have e := wsum_append (ls.take k) (ls.drop k)
  rw [List.take_append_drop] at e; omega

/-- Bytes as cells. -/
def bys (l : List UInt8) : List Value := l.map fun b => Value.int .u8 b.toNat

theorem bys_append (a b : List UInt8) : bys (a ++ b) = bys a ++ bys b := by simp [bys]
theorem bys_length (a : List UInt8) : (bys a).length = a.length := by simp [bys]
theorem bys_str (s : ByteArray) : Go.Lib.strCells s = bys s.data.toList := rfl

/-- The labels 'ls' lie where the slice 'v' leads, and may be read. -/
def SRow (w : World) (v : Value) (ls : List ByteArray) : Prop :=
  ∃ a cap, v = .slice a ls.length cap ∧ ls.length ≤ cap ∧ cap ≤ maxLen ∧ (a = none → cap = 0) ∧
    (ls ≠ [] → ∃ b off, a = some ⟨b, off, none⟩ ∧ ∀ i x, ls[i]? = some x → w.cell? ⟨b, off + i, none⟩ = some (.string x))

theorem SRow.of_owns {w : World} {B e : Nat} {v : Value} {ls : List ByteArray} (h : w.ownsRow B e 1 v ls.length (ls.map Value.string)) : SRow w v ls := by
  rcases h.2 with ⟨rfl, h0⟩ | ⟨g, cap, cur, rfl, hb, hg, hn, hm, hs, ht⟩
  · have : ls = [] := List.length_eq_zero_iff.1 h0
    subst this
    exact ⟨none, 0, rfl, by simp, by decide, fun _ => rfl, fun h => absurd rfl h⟩
  · refine ⟨_, cap, rfl, hn, hm, (fun h => by cases h), fun _ => ⟨g, 0, rfl, ?_⟩⟩
    intro i x hx
    obtain ⟨hi, e⟩ := List.getElem?_eq_some_iff.1 hx
    rw [Nat.zero_add, h.cellAt i (by omega)]
    simp [hx]

theorem SRow.below {w w' : World} {v : Value} {ls : List ByteArray} (h : SRow w v ls) (hb : Below w.heap.size w w') : SRow w' v ls := by
  obtain ⟨a, cap, rfl, h1, h2, h2', h3⟩ := h
  refine ⟨a, cap, rfl, h1, h2, h2', fun hne => ?_⟩
  obtain ⟨b, off, rfl, hc⟩ := h3 hne
  refine ⟨b, off, rfl, fun i x hx => ?_⟩
  have := hc i x hx
  rw [hb.cell (World.block_lt_of_cell? w _ this)]
  exact this

theorem below_two {w w1 w2 : World} (h1 : Below w.heap.size w w1) (h2 : Below w1.heap.size w1 w2) : Below w.heap.size w w2 :=
  h1.trans (h2.mono h1.size)

/-- What one append of bytes onto a row of the call's own leaves. -/
theorem bys_step {W wr w1 : World} {v v' : Value} {B e n m : Nat} {l x : List UInt8} (hB : B ≤ wr.heap.size)
    (hown : wr.ownsRow B e 1 v n (bys l)) (hbel : Below B W wr)
    (hown' : w1.ownsRow B e 1 v' (n + m) (bys l ++ bys x)) (hgrow : wr.grownBy w1 v.ownBlock) :
    w1.ownsRow B e 1 v' (n + m) (bys (l ++ x)) ∧ Below B W w1 := by
  refine ⟨by rw [bys_append]; exact hown', ?_⟩
  exact hbel.grown hgrow hB (fun k hk => (hown.lt k hk).1)

theorem bys_step_str {W wr w1 : World} {v v' : Value} {B e n : Nat} {l : List UInt8} {x : ByteArray} (hB : B ≤ wr.heap.size)
    (hown : wr.ownsRow B e 1 v n (bys l)) (hbel : Below B W wr)
    (hown' : w1.ownsRow B e 1 v' (n + x.size) (bys l ++ Go.Lib.strCells x)) (hgrow : wr.grownBy w1 v.ownBlock) :
    w1.ownsRow B e 1 v' (n + x.size) (bys (l ++ x.data.toList)) ∧ Below B W w1 :=
  bys_step hB hown hbel hown' hgrow

theorem conv_own {P : Program} {w : World} {B e src dst n : Nat} {v : Value} {l : List UInt8} (hs : P.underlying src = some (.slice e)) (he : P.underlying e = some (.int .u8)) (hd : P.underlying dst = some .string)
    (h : w.ownsRow B e 1 v n (bys l)) (hp : 0 < n) :
    ∃ g cap, v = .slice (some ⟨g, 0, none⟩) n cap ∧ (convert src dst (.slice (some ⟨g, 0, none⟩) n cap)).run P w = .ok (.string ⟨l.toArray⟩) w := by
  have hn : n = l.length := by have := h.1; rw [bys_length] at this; omega
  subst hn
  rcases h.2 with ⟨rfl, h0⟩ | ⟨g, cap, cur, rfl, hb, hg, hnc, hm, hcs, ht⟩
  · omega
  · refine ⟨g, cap, rfl, run_convert_bytes_back w src dst e ⟨g, 0, none⟩ cap l hs he hd ?_⟩
    intro j hj
    exact h.cells (g := g) rfl j _ (by simp [bys, hj])

theorem addr_add (b off k : Nat) : (⟨b, off, none⟩ : Addr).add k = ⟨b, off + k, none⟩ := by
  unfold Addr.add; split <;> simp_all

theorem SRow.drop_all {w : World} {a : Option Addr} {ls : List ByteArray} {cap k : Nat} (h : SRow w (.slice a ls.length cap) ls) (hk : cap = k) : SRow w (.slice a (ls.length - k) 0) (ls.drop k) := by
  obtain ⟨a', cap', e, h1, h2, h3, h4⟩ := h
  simp only [Value.slice.injEq] at e
  obtain ⟨rfl, _, rfl⟩ := e
  have hd : ls.drop k = [] := List.drop_eq_nil_of_le (by omega)
  rw [hd]
  exact ⟨a, 0, by simp; omega, by simp, by decide, fun _ => rfl, fun h => absurd rfl h⟩

theorem SRow.drop {w : World} {a : Option Addr} {ls : List ByteArray} {cap k : Nat} (h : SRow w (.slice a ls.length cap) ls) (hk : k ≤ ls.length) :
    SRow w (.slice (a.map (fun x => x.add k)) (ls.length - k) (cap - k)) (ls.drop k) := by
  obtain ⟨a', cap', e, h1, h2, h3, h4⟩ := h
  simp only [Value.slice.injEq] at e
  obtain ⟨rfl, _, rfl⟩ := e
  refine ⟨_, _, by rw [List.length_drop], by rw [List.length_drop]; omega, by omega, ?_, ?_⟩
  · intro h; simp at h; have := h3 h; omega
  · intro hne
    obtain ⟨b, off, rfl, hc⟩ := h4 (by intro h; rw [h] at hne; simp at hne)
    refine ⟨b, off + k, by simp [addr_add], ?_⟩
    intro i x hx
    rw [List.getElem?_drop] at hx
    rw [Nat.add_assoc]
    exact hc _ _ hx

theorem wsum_drop_le (ls : List ByteArray) (k : Nat) : wsum (ls.drop k) ≤ wsum ls := by
  have e := wsum_append (ls.take k) (ls.drop k)
  rw [List.take_append_drop] at e; omega

theorem splitF_size : ∀ (f : Nat) (r : ByteArray) (ls : List ByteArray), splitF f r = some ls → wsum ls + 1 = r.size := by
  intro f
  induction f with
  | zero => intro r ls h; simp [splitF] at h
  | succ f ih =>
    intro r ls h
    by_cases hp : 0 < r.size
    · by_cases h0 : r[0].toNat = 0
      · by_cases h1 : r.size = 1
        · rw [splitF_end f r hp h0 h1] at h
          simp at h; subst h; simp [wsum]; omega
        · rw [splitF_zero f r hp h0 h1] at h; simp at h
      · by_cases h1 : 63 < r[0].toNat ∨ r.size < r[0].toNat + 1
        · rw [splitF_bad f r hp h0 h1] at h; simp at h
        · rw [splitF_step f r hp h0 (by omega) (by omega)] at h
          cases e : splitF f (r.extract (r[0].toNat + 1) r.size) with
          | none => rw [e] at h; simp at h
          | some t =>
            rw [e] at h
            simp at h
            have := ih _ _ e
            rw [← h]
            simp at this
            simp [wsum]; omega
    · rw [splitF_empty _ r (by omega)] at h; simp at h

theorem split_size {s : ByteArray} {ls : List ByteArray} (h : split s = some ls) : wsum ls + 1 = s.size ∧ s.size ≤ 255 := by
  by_cases hl : s.size ≤ 255
  · rw [split_short s hl] at h
    exact ⟨splitF_size _ _ _ h, hl⟩
  · rw [split_long s (by omega)] at h; simp at h

end Go.Proofs.YtmaopfagkffccaaGreat.Nm
/- Rows of cells that are read; marks. -/
namespace Go.Proofs.YtmaopfagkffccaaGreat
open Go.RowKit

/-- The cells 'cs' (n elements of s cells) lie where the slice 'v' leads. -/
def CRow (w : World) (v : Value) (n s : Nat) (cs : List Value) : Prop :=
  cs.length = n * s ∧ ∃ a cap, v = .slice a n cap ∧ n ≤ cap ∧ cap ≤ maxLen ∧
    (0 < n → ∃ b off, a = some ⟨b, off, none⟩ ∧ ∀ (i : Nat) (x : Value), cs[i]? = some x → w.cell? ⟨b, off + i, none⟩ = some x)

theorem CRow.of_owns {w : World} {B e s n : Nat} {v : Value} {cs : List Value} (h : w.ownsRow B e s v n cs) : CRow w v n s cs := by
  refine ⟨h.1, ?_⟩
  rcases h.2 with ⟨rfl, h0⟩ | ⟨g, cap, cur, rfl, hb, hg, hn, hm, hs, ht⟩
  · subst h0
    exact ⟨none, 0, rfl, Nat.le_refl _, by decide, fun h => by omega⟩
  · refine ⟨_, cap, rfl, hn, hm, fun _ => ⟨g, 0, rfl, ?_⟩⟩
    intro i x hx
    have hi : i < n * s := by rw [← h.1]; exact (List.getElem?_eq_some_iff.1 hx).1
    rw [Nat.zero_add, h.cellAt i hi]
    exact hx

theorem CRow.below {w w' : World} {v : Value} {n s : Nat} {cs : List Value} (h : CRow w v n s cs) (hb : Below w.heap.size w w') : CRow w' v n s cs := by
  obtain ⟨h0, a, cap, rfl, h1, h2, h3⟩ := h
  refine ⟨h0, a, cap, rfl, h1, h2, fun hp => ?_⟩
  obtain ⟨b, off, rfl, hc⟩ := h3 hp
  refine ⟨b, off, rfl, fun i x hx => ?_⟩
  have := hc i x hx
  rw [hb.cell (World.block_lt_of_cell? w _ this)]
  exact this

theorem own_apart {w w1 : World} {B B' e e' s s' n n' : Nat} {v u : Value} {xs ys : List Value} (h : w.ownsRow B e s v n xs) (h' : w.ownsRow B' e' s' u n' ys) (hne : e ≠ e') (hg : w.grownBy w1 u.ownBlock) : w1.ownsRow B e s v n xs := by
  refine h.kept hg ?_
  rcases h.2 with ⟨rfl, _⟩ | ⟨g, cap, cur, rfl, _, hh, _⟩
  · exact .inl rfl
  · right
    rcases h'.2 with ⟨rfl, _⟩ | ⟨g', cap', cur', rfl, _, hh', _⟩
    · simp [Value.ownBlock]
    · simp only [Value.ownBlock, ne_eq, Option.some.injEq]
      intro e2
      subst e2
      rw [hh] at hh'
      simp at hh'
      exact hne hh'.2

/-- The marks: k, k + 1, .. -/
def ints (k m : Nat) : List Value := (List.range m).map fun i => .int .i64 ((k + i : Nat) : Int)
theorem ints_len (k m : Nat) : (ints k m).length = m := by simp [ints]
theorem ints_get {k m i : Nat} (h : i < m) : (ints k m)[i]? = some (.int .i64 ((k + i : Nat) : Int)) := by simp [ints, h]
theorem ints_set {k m i : Nat} {xs : List Value} (hl : xs.length = m) (h : i < m) :
    ((ints k m).take i ++ xs.drop i).set i (.int .i64 ((k + i : Nat) : Int)) = (ints k m).take (i + 1) ++ xs.drop (i + 1) := by
  have h1 : ((ints k m).take i).length = i := by simp [ints_len]; omega
  have h2 : (ints k m).take (i + 1) = (ints k m).take i ++ [.int .i64 ((k + i : Nat) : Int)] := by
    obtain ⟨hi, e⟩ := List.getElem?_eq_some_iff.1 (ints_get (k := k) h)
    rw [List.take_succ_eq_append_getElem hi, e]
  rw [h2, List.set_append_right _ _ (by omega), h1, List.drop_eq_getElem_cons (by omega : i < xs.length), Nat.sub_self, List.set_cons_zero, List.append_assoc]
  rfl
theorem ints_cell {k m i j : Nat} {xs : List Value} (hl : xs.length = m) (h : j < m) : ∃ y, ((ints k m).take i ++ xs.drop i)[j]? = some y :=
  ⟨_, List.getElem?_eq_getElem (by simp [ints_len]; omega)⟩
theorem ints_done {k m : Nat} {xs : List Value} (hl : xs.length = m) : (ints k m).take m ++ xs.drop m = ints k m := by
  rw [List.take_of_length_le (by rw [ints_len]; omega), List.drop_of_length_le (by omega), List.append_nil]
end Go.Proofs.YtmaopfagkffccaaGreat
/- Records as they come in: mathematics. -/
namespace Go.Proofs.YtmaopfagkffccaaGreat
open Go.RowKit
set_option linter.unusedVariables false

/-- A record: its owner, type, class, time and data. -/
structure Rr where
  own : ByteArray
  ty : Int
  cl : Int
  tt : Int
  da : ByteArray

def rvV (r : Rr) : List Value := [.string r.own, .int .i64 r.ty, .int .i64 r.cl, .int .i64 r.tt, .string r.da]
def rvVs (xs : List Rr) : List Value := xs.flatMap rvV
theorem rvVs_cons (x : Rr) (xs : List Rr) : rvVs (x :: xs) = rvV x ++ rvVs xs := by simp [rvVs]
theorem rvVs_app (a b : List Rr) : rvVs (a ++ b) = rvVs a ++ rvVs b := by simp [rvVs]
theorem rvVs_len (xs : List Rr) : (rvVs xs).length = xs.length * 5 := by
  induction xs with
  | nil => rfl
  | cons x xs ih =>
    have : (rvV x).length = 5 := rfl
    rw [rvVs_cons, List.length_append, ih, List.length_cons, this]; omega

theorem rvVs_at : ∀ (xs : List Rr) (k j : Nat) (x : Rr), xs[k]? = some x → j < 5 → (rvVs xs)[k * 5 + j]? = (rvV x)[j]? := by
  intro xs
  induction xs with
  | nil => intro k j x h; simp at h
  | cons y xs ih =>
    intro k j x h hj
    have hl : (rvV y).length = 5 := rfl
    cases k with
    | zero =>
      simp at h; subst h
      rw [rvVs_cons, Nat.zero_mul, Nat.zero_add, List.getElem?_append_left (by omega)]
    | succ k =>
      simp at h
      rw [rvVs_cons, List.getElem?_append_right (by omega), hl, show (k + 1) * 5 + j - 5 = k * 5 + j by omega]
      exact ih k j x h hj

theorem rv_cells {w : World} {xs : List Rr} {b off k : Nat} {x : Rr} (hc : ∀ (i : Nat) (y : Value), (rvVs xs)[i]? = some y → w.cell? ⟨b, off + i, none⟩ = some y) (h : xs[k]? = some x) :
    w.cell? ⟨b, off + k * 5, none⟩ = some (.string x.own) ∧ w.cell? ⟨b, off + k * 5 + 1, none⟩ = some (.int .i64 x.ty) ∧ w.cell? ⟨b, off + k * 5 + 2, none⟩ = some (.int .i64 x.cl) ∧ w.cell? ⟨b, off + k * 5 + 3, none⟩ = some (.int .i64 x.tt) ∧ w.cell? ⟨b, off + k * 5 + 4, none⟩ = some (.string x.da) :=
  ⟨hc (k * 5) _ ((rvVs_at xs k 0 x h (by decide)).trans rfl), hc (k * 5 + 1) _ ((rvVs_at xs k 1 x h (by decide)).trans rfl), hc (k * 5 + 2) _ ((rvVs_at xs k 2 x h (by decide)).trans rfl), hc (k * 5 + 3) _ ((rvVs_at xs k 3 x h (by decide)).trans rfl), hc (k * 5 + 4) _ ((rvVs_at xs k 4 x h (by decide)).trans rfl)⟩

/-- The bytes of records, as the laws count them. -/
def rsum : List Rr → Nat
  | [] => 0
  | x :: xs => x.own.size + x.da.size + rsum xs
theorem rsum_step : ∀ (xs : List Rr) (k : Nat) (x : Rr), xs[k]? = some x → rsum (xs.take (k + 1)) = rsum (xs.take k) + (x.own.size + x.da.size) := by
  intro xs
  induction xs with
  | nil => intro k x h; simp at h
  | cons y xs ih =>
    intro k x h
    cases k with
    | zero => simp at h; subst h; simp [rsum]
    | succ k =>
      simp at h
      have := ih k x h
      simp only [List.take_succ_cons, rsum]; omega
theorem rsum_take_le : ∀ (xs : List Rr) (k : Nat), rsum (xs.take k) ≤ rsum xs := by
  intro xs
  induction xs with
  | nil => intro k; simp [rsum]
  | cons y xs ih =>
    intro k
    cases k with
    | zero => simp [rsum]
    | succ k => have := ih k; simp only [List.take_succ_cons, rsum]; omega
theorem rsum_mem : ∀ (xs : List Rr) (x : Rr), x ∈ xs → x.own.size + x.da.size ≤ rsum xs := by
  intro xs
  induction xs with
  | nil => intro x h; simp at h
  | cons y xs ih =>
    intro x h
    rcases List.mem_cons.1 h with rfl | h
    · simp only [rsum]; omega
    · have := ih x h; simp only [rsum]; omega
def szRS (xs : List Rr) (L : Int) : Int := if (xs.length : Int) + (rsum xs : Int) ≤ L then L - xs.length - rsum xs else -1
end Go.Proofs.YtmaopfagkffccaaGreat
/- Variables that lie in blocks of their own. -/
namespace Go.Proofs.YtmaopfagkffccaaGreat
open Go.RowKit
set_option linter.unusedVariables false

theorem hgr_step {w w1 w2 : World} {g : Nat} (h : w.grownBy w1 (some g)) (h2 : w1.grownBy w2 (some g)) : w.grownBy w2 (some g) :=
  ⟨h2.os.trans h.os, h2.tape.trans h.tape, h2.output.trans h.output, Nat.le_trans h.size h2.size, fun k hk hne => (h2.block k (Nat.lt_of_lt_of_le hk h.size) hne).trans (h.block k hk hne)⟩

theorem hgr_below {w w1 w2 : World} {g : Nat} (h : w.grownBy w1 (some g)) (h2 : Below w1.heap.size w1 w2) : w.grownBy w2 (some g) :=
  ⟨h2.os.trans h.os, h2.tape.trans h.tape, h2.output.trans h.output, Nat.le_trans h.size h2.size, fun k hk hne =>
    (h2.block k (Nat.lt_of_lt_of_le hk h.size)).trans (h.block k hk hne)⟩

theorem hgr_set {w w1 : World} {g b i : Nat} {v : Value} (h : w.grownBy w1 (some g)) (hb : w.heap.size ≤ b) : w.grownBy (w1.setCell ⟨b, i, none⟩ v) (some g) :=
  ⟨h.os, h.tape, h.output, by simpa using h.size, fun k hk hne => by rw [heap_setCell_other w1 ⟨b, i, none⟩ k _ (by simp; omega)]; exact h.block k hk hne⟩

/-- A variable's cells lie in block b. -/
def Blk (w : World) (b : Nat) (cs : Array Value) (T : TypeId) : Prop := w.heap[b]? = some (.cells cs T (0, 0))

theorem blk_lt {w : World} {b : Nat} {cs : Array Value} {T : TypeId} (h : Blk w b cs T) : b < w.heap.size := (Array.getElem?_eq_some_iff.1 h).1
theorem blk_grown {w w1 : World} {b : Nat} {cs : Array Value} {T : TypeId} {row : Option Nat} (h : Blk w b cs T) (hg : w.grownBy w1 row) (hr : row ≠ some b) : Blk w1 b cs T := by
  unfold Blk
  rw [hg.block b (blk_lt h) (fun e => hr e.symm)]; exact h
theorem blk_below {w w1 : World} {b : Nat} {cs : Array Value} {T : TypeId} (h : Blk w b cs T) (hb : Below w.heap.size w w1) : Blk w1 b cs T := by
  unfold Blk
  rw [hb.block b (blk_lt h)]; exact h
theorem blk_new (w : World) (cs : Array Value) (T : TypeId) : Blk (w.alloc (.cells cs T)) w.heap.size cs T := by
  unfold Blk; show (w.heap.push _)[w.heap.size]? = _; simp
theorem blk_alloc {w : World} {b : Nat} {cs : Array Value} {T : TypeId} (h : Blk w b cs T) (o : Obj) : Blk (w.alloc o) b cs T :=
  blk_below h ((Below.refl _ _).alloc (Nat.le_refl _) o)
theorem blk_cell {w : World} {b : Nat} {cs : Array Value} {T : TypeId} (h : Blk w b cs T) (i : Nat) : w.cell? ⟨b, i, none⟩ = cs[i]? := cell_of_row _ _ _ _ _ _ h
theorem blk_frozen {w : World} {b : Nat} {cs : Array Value} {T : TypeId} (h : Blk w b cs T) (i : Nat) : w.frozen? ⟨b, i, none⟩ = false := frozen_of_row w b i _ _ h
theorem blk_set {w : World} {b : Nat} {cs : Array Value} {T : TypeId} (h : Blk w b cs T) (i : Nat) (v : Value) : Blk (w.setCell ⟨b, i, none⟩ v) b (cs.setIfInBounds i v) T := heap_setCell_same w b i _ _ v h
theorem blk_far {w : World} {b c i : Nat} {cs : Array Value} {T : TypeId} {v : Value} (h : Blk w b cs T) (hne : b ≠ c) : Blk (w.setCell ⟨c, i, none⟩ v) b cs T := by
  unfold Blk
  rw [heap_setCell_other w ⟨c, i, none⟩ b _ (by simpa using hne)]; exact h

/-- Values are laid into the cells of a block from a place on. -/
def setAll (w : World) (b i : Nat) : List Value → World
  | [] => w
  | v :: vs => setAll (w.setCell ⟨b, i, none⟩ v) b (i + 1) vs

theorem setAll_same {b : Nat} {T : TypeId} : ∀ (vs old pre : List Value) (w : World), Blk w b (pre ++ old).toArray T → old.length = vs.length → Blk (setAll w b pre.length vs) b (pre ++ vs).toArray T := by
  intro vs
  induction vs with
  | nil =>
    intro old pre w h hl
    have : old = [] := List.length_eq_zero_iff.1 hl
    subst this
    exact h
  | cons v vs ih =>
    intro old pre w h hl
    cases old with
    | nil => simp at hl
    | cons x old =>
      have h2 := blk_set h pre.length v
      have e : (pre ++ x :: old).toArray.setIfInBounds pre.length v = ((pre ++ [v]) ++ old).toArray := by simp
      rw [e] at h2
      have h3 := ih old (pre ++ [v]) _ h2 (by simpa using hl)
      rw [List.length_append] at h3
      simpa [setAll] using h3

theorem setAll_new {b : Nat} {T : TypeId} {old : Array Value} (vs : List Value) {w : World} (h : Blk w b old T) (hl : old.size = vs.length) : Blk (setAll w b 0 vs) b vs.toArray T := by
  have := setAll_same vs old.toList [] w (by simpa using h) (by simpa using hl)
  simpa using this

theorem setAll_far {b c : Nat} {T : TypeId} {cs : Array Value} (hne : b ≠ c) : ∀ (vs : List Value) (i : Nat) (w : World), Blk w b cs T → Blk (setAll w c i vs) b cs T := by
  intro vs
  induction vs with
  | nil => intro i w h; exact h
  | cons v vs ih => intro i w h; exact ih (i + 1) _ (blk_far h hne)

theorem setAll_grown {w : World} {g b : Nat} (hb : w.heap.size ≤ b) : ∀ (vs : List Value) (i : Nat) (W : World), w.grownBy W (some g) → w.grownBy (setAll W b i vs) (some g) := by
  intro vs
  induction vs with
  | nil => intro i W h; exact h
  | cons v vs ih => intro i W h; exact ih (i + 1) _ (hgr_set h hb)

theorem blk_drew {w : World} {b : Nat} {cs : Array Value} {T : TypeId} (h : Blk w b cs T) : Blk w.drew b cs T := h
end Go.Proofs.YtmaopfagkffccaaGreat
/- Rows of one's own beside what is written. -/
namespace Go.Proofs.YtmaopfagkffccaaGreat
open Go.RowKit
set_option linter.unusedVariables false

theorem own_sl {w : World} {B e s n : Nat} {v : Value} {xs : List Value} (h : w.ownsRow B e s v n xs) : ∃ a cap, v = .slice a n cap := by
  rcases h.2 with ⟨rfl, rfl⟩ | ⟨g, cap, cur, rfl, _⟩
  · exact ⟨_, _, rfl⟩
  · exact ⟨_, _, rfl⟩

theorem own_far {W : World} {B e s n g i : Nat} {v y : Value} {xs : List Value} (h : W.ownsRow B e s v n xs) (hg : v.ownBlock ≠ some g) : (W.setCell ⟨g, i, none⟩ y).ownsRow B e s v n xs := by
  refine ⟨h.1, ?_⟩
  rcases h.2 with h0 | ⟨g', cap, cur, rfl, hb, hh, r⟩
  · exact .inl h0
  · refine .inr ⟨g', cap, cur, rfl, hb, ?_, r⟩
    rw [heap_setCell_other W ⟨g, i, none⟩ g' _ (fun e => hg (by simp [Value.ownBlock, e]))]
    exact hh

theorem own_far_lt {W : World} {B e s n g i : Nat} {v y : Value} {xs : List Value} (h : W.ownsRow B e s v n xs) (hg : g < B) : (W.setCell ⟨g, i, none⟩ y).ownsRow B e s v n xs := by
  refine own_far h (fun e => ?_)
  have := (h.lt g e).1
  omega

theorem own_ne {W : World} {B e s n B' e' s' m g cap : Nat} {v : Value} {xs ys : List Value} (h : W.ownsRow B e s v n xs) (h' : W.ownsRow B' e' s' (.slice (some ⟨g, 0, none⟩) m cap) m ys) (hne : e ≠ e') : v.ownBlock ≠ some g := by
  intro he
  rcases h'.2 with ⟨h0, _⟩ | ⟨g', cap', cur', e1, _, hh', _⟩
  · cases h0
  · cases e1
    rcases h.2 with ⟨rfl, _⟩ | ⟨g2, cap2, cur2, rfl, _, hh, _⟩
    · cases he
    · simp only [Value.ownBlock, Option.some.injEq] at he
      subst he
      rw [hh] at hh'
      simp only [Option.some.injEq, Obj.cells.injEq] at hh'
      exact hne hh'.2.1
end Go.Proofs.YtmaopfagkffccaaGreat
/- A record that lies in a block. -/
namespace Go.Proofs.YtmaopfagkffccaaGreat
open Go.RowKit
set_option linter.unusedVariables false

/-- The five cells of a record that lies in a block. -/
def RB (w : World) (g : Nat) (r : Rr) : Prop := w.cell? ⟨g, 0, none⟩ = some (.string r.own) ∧ w.cell? ⟨g, 1, none⟩ = some (.int .i64 r.ty) ∧ w.cell? ⟨g, 2, none⟩ = some (.int .i64 r.cl) ∧ w.cell? ⟨g, 3, none⟩ = some (.int .i64 r.tt) ∧ w.cell? ⟨g, 4, none⟩ = some (.string r.da)
theorem RB.below {w W : World} {g : Nat} {r : Rr} (h : RB w g r) (hb : Below w.heap.size w W) : RB W g r := by
  obtain ⟨a, b, c, d, e⟩ := h
  have put : ∀ {O : Nat} {z : Value}, w.cell? ⟨g, O, none⟩ = some z → W.cell? ⟨g, O, none⟩ = some z := fun h => (hb.cell (World.block_lt_of_cell? w _ h)).trans h
  exact ⟨put a, put b, put c, put d, put e⟩
theorem RB.new (w : World) (r : Rr) (t : Nat) : RB (w.alloc (.cells #[.string r.own, .int .i64 r.ty, .int .i64 r.cl, .int .i64 r.tt, .string r.da] t)) w.heap.size r := by
  refine ⟨?_, ?_, ?_, ?_, ?_⟩ <;> simp
end Go.Proofs.YtmaopfagkffccaaGreat
