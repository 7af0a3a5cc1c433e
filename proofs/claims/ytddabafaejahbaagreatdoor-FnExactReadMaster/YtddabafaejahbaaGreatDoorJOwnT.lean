import Derived.Test.YtddabafaejahbaaGreatDoorJTxt8
import Derived.RegionTactic
import Derived.BigRegion
import Derived.Laws.IdiomCopy
import Derived.Laws.CopyOwn
import Derived.Laws.OwnMore
import Derived.Test.YtddabafaejahbaaGreatDoorJMath
import Derived.Test.YtddabafaejahbaaGreatDoorRows
import Derived.WalkSpells
import Derived.WalkLawsBesides
import Derived.Laws.EntriesVeiled
/- Rows of one's own beside what is written. -/
namespace Go.Proofs.YtddabafaejahbaaGreatDoor
open Go.RowKit
set_option linter.unusedVariables false
theorem own_sl {w : World} {B e s n : Nat} {v : Value} {xs : List Value} (h : w.ownsRow B e s v n xs) : ∃ a cap, v = .slice a n cap := by
 rcases h.2 with ⟨rfl, rfl⟩ | ⟨g, cap, cur, rfl, _⟩
 · exact ⟨_, _, rfl⟩
 · exact ⟨_, _, rfl⟩
theorem own_far {W : World} {B e s n g i : Nat} {v y : Value} {xs : List Value} (h : W.ownsRow B e s v n xs) (hg : v.ownBlock ≠ some g) : (W.setCell ⟨g, i, none⟩ y).ownsRow B e s v n xs := by
 refine ⟨h.1, ?_⟩
 rcases h.2 with h0 | ⟨g', cap, cur, rfl, hb, hh, r⟩
 · exact .inl h0
 · refine .inr ⟨g', cap, cur, rfl, hb, ?_, r⟩; rw [heap_setCell_other W ⟨g, i, none⟩ g' _ (fun e => hg (by simp [Value.ownBlock, e]))]; exact hh
theorem own_far_lt {W : World} {B e s n g i : Nat} {v y : Value} {xs : List Value} (h : W.ownsRow B e s v n xs) (hg : g < B) : (W.setCell ⟨g, i, none⟩ y).ownsRow B e s v n xs := by
 refine own_far h (fun e => ?_); have := (h.lt g e).1; omega
end Go.Proofs.YtddabafaejahbaaGreatDoor
/- Copies into a variable of one's own. -/
namespace Go.Proofs.YtddabafaejahbaaGreatDoor
open Go.RowKit
set_option linter.unusedVariables false
def bigL (v n : Nat) : List UInt8 := (List.range n).map fun i => UInt8.ofNat (v / 2 ^ (8 * (n - 1 - i)))
def bigM (v n j : Nat) : List Value := (List.range n).map fun i => if i < j then .int .u8 ((UInt8.ofNat (v / 2 ^ (8 * (n - 1 - i)))).toNat : Int) else .int .u8 0
theorem bigM_zero (v n : Nat) : bigM v n 0 = List.replicate n (.int .u8 0) := by
 simp only [bigM, Nat.not_lt_zero, if_false]; rw [List.map_const', List.length_range]
theorem bigM_all (v n : Nat) : bigM v n n = Nm.bys (bigL v n) := by
 simp only [bigM, bigL, Nm.bys, List.map_map]; apply List.map_congr_left; intro i hi; simp [List.mem_range.1 hi]
theorem bigM_set {v n j : Nat} (h : j < n) : (bigM v n j).set j (.int .u8 ((UInt8.ofNat (v / 2 ^ (8 * (n - 1 - j)))).toNat : Int)) = bigM v n (j + 1) := by
 apply List.ext_getElem?; intro i; rw [List.getElem?_set]
 by_cases hi : j = i
 · subst hi; simp [bigM, h]
 · rw [if_neg hi]
   by_cases hn : i < n
   · simp only [bigM, List.getElem?_map, List.getElem?_range hn, Option.map_some]
     by_cases h1 : i < j
     · rw [if_pos h1, if_pos (by omega)]
     · rw [if_neg h1, if_neg (by omega)]
   · simp [bigM, hn]
set_option maxRecDepth 100000 in
set_option maxHeartbeats 1600000 in
theorem bigBytesN_any (v n : Nat) (w : World) (hv : v ≤ 4611686018427387904) (hn1 : 1 ≤ n) (hn : n ≤ 8) :
 Calls Tryz.prog 101 #[.int .i64 (v : Int), .int .i64 (n : Int)] w fun e w' => e = .returned (.string ⟨(bigL v n).toArray⟩) ∧ Below w.heap.size w w' := by
 obtain ⟨i0, hi, hz0, hz1, hz2⟩ := info_parts Tryz.infoBy; obtain ⟨wm, hmk, hownm, hgrm⟩ := run_make_full (P := Tryz.prog) w w.heap.size 87 5 i0 (.int .u8 0) 1 Tryz.underlying87 hi hz0 hz1 .i64 .i64 n (by rw [hz2]; omega) (by unfold maxLen; omega) (Nat.le_refl _); have hbelm : Below w.heap.size w wm := (Below.refl _ _).grown hgrm (Nat.le_refl _) (by simp)
 have hz4 : (madeCells (Value.int .u8 0).cells (n * 1)).toList = bigM v n 0 := by
  rw [bigM_zero]
  match n, hn1, hn with
  | 1, _, _ | 2, _, _ | 3, _, _ | 4, _, _ | 5, _, _ | 6, _, _ | 7, _, _ | 8, _, _ => first | rfl | (show _ = _; kernel_rfl)
 rw [hz4] at hownm; clear hgrm hz4; go_enter Tryz.func101, Tryz.ntmps101; go_wp2
 go_loopw [11] (fun i wr => ∃ j : Nat, j ≤ n ∧ i = .int .i64 (j : Int) ∧ wr.ownsRow w.heap.size 5 1 (.slice (some ⟨w.heap.size, 0, none⟩) n n) n (bigM v n j) ∧ Below w.heap.size w wr) (fun i _ => (n - intOf i).toNat)
 case atStart => exact ⟨0, by omega, rfl, hownm, hbelm⟩
 case round =>
  obtain ⟨j, hj, rfl, hown, hbel⟩ := hrel; clear hownm hbelm hmk
  by_cases hlt : j < n
  · have i1 : (0 : Int) ≤ (j : Int) := by omega
    have i2 : (j : Int) < (n : Int) := by omega
    have i3 : (n : Int) ≤ 8 := by omega
    obtain ⟨x, hx⟩ : ∃ x, (bigM v n j)[j]? = some x := by simp [bigM, hlt]
    have hc : wr.cell? ⟨w.heap.size, j, none⟩ = some x := (hown.cellAt j (by omega)).trans hx; have hfz := hown.frozenAt j; have hst := (hown.stored j (.int .u8 ((UInt8.ofNat (v / 2 ^ (8 * (n - 1 - j)))).toNat : Int))).1; rw [bigM_set hlt] at hst; have hB2 := hbel.setCell (p := ⟨w.heap.size, j, none⟩) (Nat.le_refl _) (.int .u8 ((UInt8.ofNat (v / 2 ^ (8 * (n - 1 - j)))).toNat : Int)); clear hown hbel hx; go_wp2
    rw [show ((v : Int) / 2 ^ (8 * (n - 1 - j)) % 256) = ((UInt8.ofNat (v / 2 ^ (8 * (n - 1 - j)))).toNat : Int) by
     rw [UInt8.toNat_ofNat', Int.natCast_emod, Int.natCast_ediv, Int.natCast_pow]
     rfl]
    go_roundw
    case rel => exact ⟨j + 1, by omega, by go_num, hst, hB2⟩
    case measure => simp [intOf]; omega
  · obtain rfl : j = n := by omega
    rw [bigM_all] at hown; have HC := Nm.conv_own (P := Tryz.prog) (src := 87) (dst := 9) Tryz.underlying87 Tryz.underlying5 Tryz.underlying9 hown (by omega); obtain ⟨g, cap, hv', hcv⟩ := HC; cases hv'
    go_wp2; go_ret; exact ⟨rfl, hbel⟩
end Go.Proofs.YtddabafaejahbaaGreatDoor
/- The forms of data: mathematics. -/
namespace Go.Proofs.YtddabafaejahbaaGreatDoor.Dt
open Go.RowKit
def alnumB (c : UInt8) : Bool := (decide (48 ≤ c.toNat) && decide (c.toNat ≤ 57)) || ((decide (97 ≤ c.toNat) && decide (c.toNat ≤ 122)) || (decide (65 ≤ c.toNat) && decide (c.toNat ≤ 90)))
/-- The short text at the beginning, with its length; empty: there is none. -/
def txtS (s : ByteArray) : ByteArray :=
 if h : 0 < s.size then (if s[0].toNat + 1 ≤ s.size then s.extract 0 (s[0].toNat + 1) else ByteArray.empty) else ByteArray.empty
/-- The name at the beginning, from 'at' on; empty: there is none. -/
def nameF : Nat → ByteArray → Nat → ByteArray
 | 0, _, _ => ByteArray.empty
 | f + 1, s, i =>
   if h : i < s.size ∧ i < 255 then
    if s[i].toNat = 0 then s.extract 0 (i + 1)
    else if 63 < s[i].toNat then ByteArray.empty
    else nameF f s (i + s[i].toNat + 1)
   else ByteArray.empty
def nameAtS (s : ByteArray) : ByteArray := nameF 256 s 0
theorem nameF_enough : ∀ (f g : Nat) (s : ByteArray) (i : Nat), 255 < f + i → 255 < g + i → nameF f s i = nameF g s i := by
 intro f
 induction f with
 | zero =>
   intro g s i hf hg
   cases g with
   | zero => rfl
   | succ g => rw [nameF, nameF, dif_neg (by omega)]
 | succ f ih =>
   intro g s i hf hg
   cases g with
   | zero => rw [nameF, nameF, dif_neg (by omega)]
   | succ g =>
     rw [nameF, nameF]
     by_cases h : i < s.size ∧ i < 255
     · rw [dif_pos h, dif_pos h, ih g s _ (by omega) (by omega)]
     · rw [dif_neg h, dif_neg h]
def formS (t : Int) : ByteArray :=
 if t = 1 then ⟨#[98, 98, 98, 98]⟩
 else if t = 2 ∨ t = 5 ∨ t = 12 ∨ t = 39 then ⟨#[110]⟩
 else if t = 6 then ⟨#[110, 110, 98, 98, 98, 98, 98, 98, 98, 98, 98, 98, 98, 98, 98, 98, 98, 98, 98, 98, 98, 98]⟩
 else if t = 13 then ⟨#[116, 116]⟩
 else if t = 15 then ⟨#[98, 98, 110]⟩
 else if t = 16 then ⟨#[115]⟩
 else if t = 28 then ⟨#[98, 98, 98, 98, 98, 98, 98, 98, 98, 98, 98, 98, 98, 98, 98, 98]⟩
 else if t = 33 then ⟨#[98, 98, 98, 98, 98, 98, 110]⟩
 else if t = 35 then ⟨#[98, 98, 98, 98, 116, 116, 116, 110]⟩
 else if t = 47 then ⟨#[110, 109]⟩
 else if t = 257 then ⟨#[98, 99]⟩
 else ⟨#[42]⟩
end Go.Proofs.YtddabafaejahbaaGreatDoor.Dt
/- Type maps, as plain mathematics. -/
namespace Go.Proofs.YtddabafaejahbaaGreatDoor
open Go.RowKit
set_option linter.unusedVariables false
/-- Whether it is a type map whose first window comes behind 'last'. -/
def mapF : Nat → Int → ByteArray → Bool
 | 0, _, _ => true
 | f + 1, last, s =>
   if s.size = 0 then true
   else if h : 2 ≤ s.size then
    if h2 : last < (s[0].toNat : Int) ∧ 1 ≤ s[1].toNat ∧ s[1].toNat ≤ 32 ∧ s[1].toNat + 2 ≤ s.size then
     if s[s[1].toNat + 1].toNat = 0 then false else mapF f (s[0].toNat : Int) (s.extract (s[1].toNat + 2) s.size)
    else false
   else false
theorem mapF_enough : ∀ (f g : Nat) (last : Int) (s : ByteArray), s.size < f → s.size < g → mapF f last s = mapF g last s := by
 intro f
 induction f with
 | zero => intro g last s hf; omega
 | succ f ih =>
   intro g last s hf hg
   cases g with
   | zero => omega
   | succ g =>
     rw [mapF, mapF]
     by_cases h0 : s.size = 0
     · rw [if_pos h0, if_pos h0]
     rw [if_neg h0, if_neg h0]
     by_cases h : 2 ≤ s.size
     · rw [dif_pos h, dif_pos h]
       by_cases h2 : last < (s[0].toNat : Int) ∧ 1 ≤ s[1].toNat ∧ s[1].toNat ≤ 32 ∧ s[1].toNat + 2 ≤ s.size
       · rw [dif_pos h2, dif_pos h2]
         by_cases h3 : s[s[1].toNat + 1].toNat = 0
         · rw [if_pos h3, if_pos h3]
         · rw [if_neg h3, if_neg h3]; have he : (s.extract (s[1].toNat + 2) s.size).size = s.size - (s[1].toNat + 2) := by simp
           exact ih g _ _ (by omega) (by omega)
       · rw [dif_neg h2, dif_neg h2]
     · rw [dif_neg h, dif_neg h]
def mapS (s : ByteArray) : Bool := mapF (s.size + 1) (-1) s
theorem map_end {f : Nat} {last : Int} {s : ByteArray} (h : s.size = 0) : mapF (f + 1) last s = true := by rw [mapF, if_pos h]
theorem map_one {f : Nat} {last : Int} {s : ByteArray} (h : s.size = 1) : mapF (f + 1) last s = false := by rw [mapF, if_neg (by omega), dif_neg (by omega)]
theorem map_no {f : Nat} {last : Int} {s : ByteArray} (h : 2 ≤ s.size) (h2 : ¬ (last < (s[0].toNat : Int) ∧ 1 ≤ s[1].toNat ∧ s[1].toNat ≤ 32 ∧ s[1].toNat + 2 ≤ s.size)) : mapF (f + 1) last s = false := by
 rw [mapF, if_neg (by omega), dif_pos h, dif_neg h2]
theorem map_zero {f : Nat} {last : Int} {s : ByteArray} (h : 2 ≤ s.size) (h2 : last < (s[0].toNat : Int) ∧ 1 ≤ s[1].toNat ∧ s[1].toNat ≤ 32 ∧ s[1].toNat + 2 ≤ s.size) (h3 : (s[s[1].toNat + 1]'(by omega)).toNat = 0) : mapF (f + 1) last s = false := by
 rw [mapF, if_neg (by omega), dif_pos h, dif_pos h2, if_pos h3]
theorem map_step {last : Int} {s : ByteArray} (h : 2 ≤ s.size) (h2 : last < (s[0].toNat : Int) ∧ 1 ≤ s[1].toNat ∧ s[1].toNat ≤ 32 ∧ s[1].toNat + 2 ≤ s.size) (h3 : (s[s[1].toNat + 1]'(by omega)).toNat ≠ 0) :
 mapF (s.size + 1) last s = mapF ((s.extract (s[1].toNat + 2) s.size).size + 1) (s[0].toNat : Int) (s.extract (s[1].toNat + 2) s.size) := by
 rw [mapF, if_neg (by omega), dif_pos h, dif_pos h2, if_neg h3]; have he : (s.extract (s[1].toNat + 2) s.size).size = s.size - (s[1].toNat + 2) := by simp
 exact mapF_enough _ _ _ _ (by omega) (by omega)
theorem not_empty {s : ByteArray} (h : 0 < s.size) : (s.toList == []) = false ∧ (s.toList != []) = true := by
 have : s.toList ≠ [] := by
  rw [ByteArray.toList_eq]; intro e; have h9 := congrArg List.length e; rw [Array.length_toList] at h9; have h8 : s.size = 0 := h9; omega
 simp [this]
theorem beq_empty {s : ByteArray} (h : s.size = 0) : (s.toList == []) = true ∧ (s.toList != []) = false := by
 have : s.toList = [] := List.length_eq_zero_iff.1 (by rw [Nm.tl_len]; exact h); simp [this]
end Go.Proofs.YtddabafaejahbaaGreatDoor
/- The pieces of a form of data, as plain mathematics. -/
namespace Go.Proofs.YtddabafaejahbaaGreatDoor.Dt
open Go.RowKit
/-- How many bytes of short texts stand behind one another at the beginning. -/
def txsF : Nat → ByteArray → Nat
 | 0, _ => 0
 | f + 1, d => if (txtS d).size = 0 then 0 else (txtS d).size + txsF f (d.extract (txtS d).size d.size)
theorem txt_le (d : ByteArray) : (txtS d).size ≤ d.size := by
 unfold txtS; split
 · split
   · simp; omega
   · simp
 · simp
theorem txsF_enough : ∀ (f g : Nat) (d : ByteArray), d.size < f → d.size < g → txsF f d = txsF g d := by
 intro f
 induction f with
 | zero => intro g d hf; omega
 | succ f ih =>
   intro g d hf hg
   cases g with
   | zero => omega
   | succ g =>
     rw [txsF, txsF]
     by_cases h : (txtS d).size = 0
     · rw [if_pos h, if_pos h]
     · have := txt_le d; rw [if_neg h, if_neg h, ih g _ (by simp; omega) (by simp; omega)]
def txsS (d : ByteArray) : Nat := txsF (d.size + 1) d
theorem txs_none {d : ByteArray} (h : (txtS d).size = 0) : txsS d = 0 := by rw [txsS, txsF, if_pos h]
theorem txs_step {d : ByteArray} (h : (txtS d).size ≠ 0) : txsS d = (txtS d).size + txsS (d.extract (txtS d).size d.size) := by
 have := txt_le d; rw [txsS, txsF, if_neg h, txsF_enough _ ((d.extract (txtS d).size d.size).size + 1) _ (by simp; omega) (by simp)]; rfl
theorem txsF_le : ∀ (f : Nat) (d : ByteArray), txsF f d ≤ d.size := by
 intro f
 induction f with
 | zero => intro d; simp [txsF]
 | succ f ih =>
   intro d; rw [txsF]; split
   · omega
   · have := ih (d.extract (txtS d).size d.size); have h2 := txt_le d; simp at this; omega
theorem txs_le (d : ByteArray) : txsS d ≤ d.size := txsF_le _ d
def tagB (d : ByteArray) : Bool := decide (2 ≤ (txtS d).size) && decide ((txtS d).size ≤ 16) && ((txtS d).data.toList.drop 1).all alnumB
/-- The pieces of a form: a name, so many bytes, a short text, short texts, short texts up to the end, a tag, a tag and the rest, a type map, the rest. -/
abbrev Pc : Type := Option (Option (Option (Option (Option (Option (Option (Option Nat)))))))
abbrev Pc.nm : Pc := none
abbrev Pc.tx : Pc := some none
abbrev Pc.txs : Pc := some (some none)
abbrev Pc.txe : Pc := some (some (some none))
abbrev Pc.tag : Pc := some (some (some (some none)))
abbrev Pc.tagr : Pc := some (some (some (some (some none))))
abbrev Pc.mp : Pc := some (some (some (some (some (some none)))))
abbrev Pc.rs : Pc := some (some (some (some (some (some (some none))))))
abbrev Pc.bs (n : Nat) : Pc := some (some (some (some (some (some (some (some n)))))))
theorem Pc.elim {P : Pc → Prop} (p : Pc) (nm : P Pc.nm) (bs : ∀ n, P (Pc.bs n)) (tx : P Pc.tx) (txs : P Pc.txs) (txe : P Pc.txe) (tag : P Pc.tag) (tagr : P Pc.tagr) (mp : P Pc.mp) (rs : P Pc.rs) : P p := by
 rcases p with _ | _ | _ | _ | _ | _ | _ | _ | n
 · exact nm
 · exact tx
 · exact txs
 · exact txe
 · exact tag
 · exact tagr
 · exact mp
 · exact rs
 · exact bs n
def Pc.isN : Pc → Bool
 | none => true
 | some _ => false
/-- How many bytes the piece has that stands at the beginning; none: it does not stand there. -/
def sz : Pc → ByteArray → Option Nat
 | none, d => if (nameAtS d).size = 0 then none else some (nameAtS d).size
 | some none, d => if (txtS d).size = 0 then none else some (txtS d).size
 | some (some none), d => if txsS d = 0 then none else some (txsS d)
 | some (some (some none)), d => if txsS d = 0 ∨ txsS d ≠ d.size then none else some d.size
 | some (some (some (some none))), d => if tagB d then some (txtS d).size else none
 | some (some (some (some (some none)))), d => if tagB d then some d.size else none
 | some (some (some (some (some (some none))))), d => if mapS d then some d.size else none
 | some (some (some (some (some (some (some none)))))), d => some d.size
 | some (some (some (some (some (some (some (some n))))))), d => if n ≤ d.size then some n else none
theorem nameF_le : ∀ (f : Nat) (s : ByteArray) (i : Nat), (nameF f s i).size ≤ s.size := by
 intro f
 induction f with
 | zero => intro s i; simp [nameF]
 | succ f ih =>
   intro s i; rw [nameF]; split
   · split
     · simp; omega
     · split
       · simp
       · exact ih _ _
   · simp
theorem name_le (s : ByteArray) : (nameAtS s).size ≤ s.size := nameF_le _ _ _
theorem sz_le {p : Pc} {d : ByteArray} {n : Nat} (h : sz p d = some n) : n ≤ d.size := by
 have h1 := name_le d; have h2 := txt_le d; have h3 := txs_le d; cases p using Pc.elim <;> simp only [sz] at h
 all_goals first
  | (split at h
     · simp at h
     · simp at h; omega)
  | (split at h
     · simp at h; omega
     · simp at h)
  | (simp at h; omega)
/-- The parts of data, by a form; none: it has not the form. -/
def parts : List Pc → ByteArray → Option (List ByteArray)
 | [], d => if d.size = 0 then some [] else none
 | p :: r, d =>
   match sz p d with
   | none => none
   | some n => (parts r (d.extract n d.size)).map (fun l => d.extract 0 n :: l)
/-- Where the names stand in data whose first byte is the a-th. -/
def spans : List Pc → Nat → ByteArray → Option (List (Nat × Nat))
 | [], _, d => if d.size = 0 then some [] else none
 | p :: r, a, d =>
   match sz p d with
   | none => none
   | some n => (spans r (a + n) (d.extract n d.size)).map (fun l => if p.isN then (a, a + n) :: l else l)
def spansOf : List Pc → List ByteArray → Nat → List (Nat × Nat)
 | p :: r, x :: xs, a => if p.isN then (a, a + x.size) :: spansOf r xs (a + x.size) else spansOf r xs (a + x.size)
 | _, _, _ => []
theorem spans_of_parts : ∀ (fs : List Pc) (d : ByteArray) (a : Nat), spans fs a d = (parts fs d).map (fun ps => spansOf fs ps a) := by
 intro fs
 induction fs with
 | nil => intro d a; rw [spans, parts]; split <;> simp [spansOf]
 | cons p r ih =>
   intro d a; rw [spans, parts]
   cases h : sz p d with
   | none => simp
   | some n =>
     have hn := sz_le h; simp only [ih]
     cases parts r (d.extract n d.size) with
     | none => simp
     | some l =>
       have : (d.extract 0 n).size = n := by simp; omega
       simp [spansOf, this]
theorem spans_bs (m n : Nat) (r : List Pc) (a : Nat) (d : ByteArray) : spans (.bs m :: .bs n :: r) a d = spans (.bs (m + n) :: r) a d := by
 rw [spans, spans]; simp only [sz]
 by_cases h : m ≤ d.size
 · rw [if_pos h]; simp only [spans, sz]; have e : (d.extract m d.size).size = d.size - m := by simp
   rw [e]
   by_cases h2 : m + n ≤ d.size
   · rw [if_pos (by omega), if_pos h2]
     have e2 : (d.extract m d.size).extract n (d.size - m) = d.extract (m + n) d.size := by
      rw [ByteArray.extract_extract]; congr 1; omega
     simp only [e2, Pc.isN, Nat.add_assoc]; simp
   · rw [if_neg (by omega), if_neg h2]; simp
 · rw [if_neg h, if_neg (by omega)]
theorem spans_tag (a : Nat) (d : ByteArray) : spans [.tagr] a d = spans [.tag, .rs] a d := by
 have h2 := txt_le d; simp only [spans, sz]
 by_cases h : tagB d
 · simp [h, Pc.isN]
 · simp [h]
theorem spans_txs (a : Nat) (d : ByteArray) : spans [.txs] a d = spans [.txe] a d := by
 have h3 := txs_le d; simp only [spans, sz]
 by_cases h : txsS d = 0
 · simp [h]
 · by_cases h2 : txsS d = d.size
   · have h4 : d.size ≠ 0 := by omega
     simp [h2, h4, Pc.isN]
   · simp [h, h2]
     omega
/-- A form's letter as a piece. -/
def letP (c : UInt8) : Pc :=
 if c = 110 then .nm else if c = 98 then .bs 1 else if c = 116 then .tx else if c = 115 then .txs else if c = 99 then .tagr else if c = 109 then .mp else .rs
def specP (t : Int) : List Pc := (formS t).data.toList.map letP
def implP (t : Int) : List Pc :=
 if t = 1 then [.bs 4]
 else if t = 28 then [.bs 16]
 else if t = 2 ∨ t = 5 ∨ t = 12 ∨ t = 39 then [.nm]
 else if t = 15 then [.bs 2, .nm]
 else if t = 6 then [.nm, .nm, .bs 20]
 else if t = 33 then [.bs 6, .nm]
 else if t = 16 then [.txe]
 else if t = 13 then [.tx, .tx]
 else if t = 35 then [.bs 4, .tx, .tx, .tx, .nm]
 else if t = 257 then [.bs 1, .tag, .rs]
 else if t = 47 then [.nm, .mp]
 else [.rs]
theorem spans_cons {p : Pc} {r r' : List Pc} (h : ∀ a d, spans r a d = spans r' a d) (a : Nat) (d : ByteArray) : spans (p :: r) a d = spans (p :: r') a d := by
 rw [spans, spans]
 cases sz p d with
 | none => rfl
 | some n => simp only [h]
theorem forms_agree (t : Int) (a : Nat) (d : ByteArray) : spans (specP t) a d = spans (implP t) a d := by
 unfold specP implP formS
 by_cases h1 : t = 1
 · subst h1; simp [letP, spans_bs]
 by_cases h2 : t = 2 ∨ t = 5 ∨ t = 12 ∨ t = 39
 · have : t ≠ 28 := by omega
   simp [h1, h2, this, letP]
 by_cases h3 : t = 6
 · subst h3; simp [letP]
   refine spans_cons (fun a d => ?_) a d; refine spans_cons (fun a d => ?_) a d; simp [spans_bs]
 by_cases h4 : t = 13
 · subst h4; simp [letP]
 by_cases h5 : t = 15
 · subst h5; simp [letP, spans_bs]
 by_cases h6 : t = 16
 · subst h6; simp [letP, spans_txs]
 by_cases h7 : t = 28
 · subst h7; simp [letP, spans_bs]
 by_cases h8 : t = 33
 · subst h8; simp [letP, spans_bs]
 by_cases h9 : t = 35
 · subst h9; simp [letP, spans_bs]
 by_cases h10 : t = 47
 · subst h10; simp [letP]
 by_cases h11 : t = 257
 · subst h11; simp [letP]
   exact spans_cons (fun a d => spans_tag a d) a d
 simp [h1, h2, h3, h4, h5, h6, h7, h8, h9, h10, h11, letP]
end Go.Proofs.YtddabafaejahbaaGreatDoor.Dt
/- Names at the beginning of a text are names; data folded, by its parts and by its places. -/
namespace Go.Proofs.YtddabafaejahbaaGreatDoor.Dt
open Go.RowKit
set_option linter.unusedVariables false
theorem ext_get {s : ByteArray} {i e : Nat} (h : i < e) (he : e ≤ s.size) : (s.extract i e)[0]'(by simp; omega) = s[i] := by
 rw [ByteArray.getElem_extract]; simp
theorem ext_ext {s : ByteArray} {i e n : Nat} (h : i + n ≤ e) (he : e ≤ s.size) : (s.extract i e).extract n (s.extract i e).size = s.extract (i + n) e := by
 rw [ByteArray.extract_extract]; congr 1; simp
 omega
theorem nameF_name : ∀ (f : Nat) (s : ByteArray) (i : Nat), (nameF f s i).size ≠ 0 →
 ∃ e, i < e ∧ e ≤ 255 ∧ e ≤ s.size ∧ nameF f s i = s.extract 0 e ∧ ∀ g, e - i < g → (Nm.splitF g (s.extract i e)).isSome = true := by
 intro f
 induction f with
 | zero => intro s i h; simp [nameF] at h
 | succ f ih =>
   intro s i h; rw [nameF] at h ⊢
   by_cases h1 : i < s.size ∧ i < 255
   · rw [dif_pos h1] at h ⊢
     by_cases h2 : s[i].toNat = 0
     · rw [if_pos h2]; refine ⟨i + 1, by omega, by omega, by omega, rfl, ?_⟩; intro g hg; obtain ⟨g, rfl⟩ : ∃ k, g = k + 1 := ⟨g - 1, by omega⟩; rw [Nm.splitF_end g _ (by simp; omega) (by rw [ext_get (by omega) (by omega)]; exact h2) (by simp; omega)]; rfl
     · rw [if_neg h2] at h ⊢
       by_cases h3 : 63 < s[i].toNat
       · rw [if_pos h3] at h; simp at h
       · rw [if_neg h3] at h ⊢; obtain ⟨e, e1, e2, e3, e4, e5⟩ := ih s _ h; refine ⟨e, by omega, e2, e3, e4, ?_⟩; intro g hg; obtain ⟨g, rfl⟩ : ∃ k, g = k + 1 := ⟨g - 1, by omega⟩; have hp : 0 < (s.extract i e).size := by simp; omega
         have h0 : (s.extract i e)[0] = s[i] := ext_get (by omega) e3; rw [Nm.splitF_step g _ hp (by rw [h0]; exact h2) (by rw [h0]; omega) (by rw [h0]; simp; omega), h0, ext_ext (by omega) e3]; have := e5 g (by omega); rw [show i + (s[i].toNat + 1) = i + s[i].toNat + 1 by omega]; simpa using this
   · rw [dif_neg h1] at h; simp at h
theorem nameAt_name {s : ByteArray} (h : (nameAtS s).size ≠ 0) : (Nm.split (nameAtS s)).isSome = true := by
 obtain ⟨e, e1, e2, e3, e4, e5⟩ := nameF_name 256 s 0 h; have e6 : nameAtS s = s.extract 0 e := e4; rw [e6, Nm.split_short _ (by simp; omega)]; exact e5 256 (by omega)
theorem ext_all (s : ByteArray) : s.extract 0 s.size = s := by simp
theorem splitF_nameF : ∀ (g : Nat) (f : Nat) (s : ByteArray) (i : Nat), s.size ≤ 255 → 255 < f + i → i ≤ s.size → (Nm.splitF g (s.extract i s.size)).isSome = true → nameF f s i = s := by
 intro g
 induction g with
 | zero => intro f s i _ _ _ h; simp [Nm.splitF] at h
 | succ g ih =>
   intro f s i hs hf hi h
   by_cases hp : i < s.size
   · obtain ⟨f, rfl⟩ : ∃ k, f = k + 1 := ⟨f - 1, by omega⟩; have hz : (s.extract i s.size).size = s.size - i := by simp
     have hq : 0 < (s.extract i s.size).size := by omega
     have h0 : (s.extract i s.size)[0] = s[i] := ext_get hp (Nat.le_refl _); rw [nameF, dif_pos ⟨hp, by omega⟩]
     by_cases h2 : s[i].toNat = 0
     · rw [if_pos h2]
       by_cases h3 : (s.extract i s.size).size = 1
       · rw [show i + 1 = s.size by omega]; exact ext_all s
       · rw [Nm.splitF_zero g _ hq (by rw [h0]; exact h2) h3] at h; simp at h
     · rw [if_neg h2]
       by_cases h3 : 63 < s[i].toNat ∨ s.size - i < s[i].toNat + 1
       · rw [Nm.splitF_bad g _ hq (by rw [h0]; exact h2) (by rw [h0, hz]; exact h3)] at h; simp at h
       · rw [if_neg (by omega)]; rw [Nm.splitF_step g _ hq (by rw [h0]; exact h2) (by rw [h0]; omega) (by rw [h0, hz]; omega), h0, ext_ext (by omega) (Nat.le_refl _)] at h; refine ih f s _ hs (by omega) (by omega) ?_; rw [show i + (s[i].toNat + 1) = i + s[i].toNat + 1 by omega] at h; simpa using h
   · rw [Nm.splitF_empty _ _ (by simp; omega)] at h; simp at h
theorem name_iff (s : ByteArray) : (Nm.split s).isSome = true ↔ (nameAtS s).size ≠ 0 ∧ (nameAtS s).size = s.size := by
 constructor
 · intro h
   by_cases hl : s.size ≤ 255
   · rw [Nm.split_short s hl] at h; have e : nameAtS s = s := splitF_nameF 256 256 s 0 hl (by omega) (by omega) (by simpa using h); rw [e]; refine ⟨?_, rfl⟩; intro h0; rw [Nm.splitF_empty _ _ h0] at h; simp at h
   · rw [Nm.split_long s (by omega)] at h; simp at h
 · rintro ⟨h0, h⟩; obtain ⟨e, e1, e2, e3, e4, e5⟩ := nameF_name 256 s 0 h0; have e6 : nameAtS s = s.extract 0 e := e4; have e7 : e = s.size := by rw [e6] at h; simp at h; omega
   have e8 : nameAtS s = s := by rw [e6, e7]; exact ext_all s
   have := nameAt_name h0
   rwa [e8] at this
/-! Folding. -/
end Go.Proofs.YtddabafaejahbaaGreatDoor.Dt
/- The parts of data, step by step: mathematics. -/
namespace Go.Proofs.YtddabafaejahbaaGreatDoor.Dt
open Go.RowKit
/-- Where the cutting stands: 'ps' are the parts that were cut off, 'd' is the rest, 'r' the letters that are left. -/
def PAt (fs : List Pc) (d0 : ByteArray) (ps : List ByteArray) (r : List Pc) (d : ByteArray) : Prop :=
 parts fs d0 = (parts r d).map (fun t => ps ++ t)
theorem pat_start (fs : List Pc) (d0 : ByteArray) : PAt fs d0 [] fs d0 := by simp [PAt]
theorem pat_end {fs : List Pc} {d0 d : ByteArray} {ps : List ByteArray} (h : PAt fs d0 ps [] d) (h0 : d.size = 0) : parts fs d0 = some ps := by
 rw [h, parts, if_pos h0]; simp
theorem pat_left {fs : List Pc} {d0 d : ByteArray} {ps : List ByteArray} (h : PAt fs d0 ps [] d) (h0 : d.size ≠ 0) : parts fs d0 = none := by
 rw [h, parts, if_neg h0]; rfl
theorem pat_none {fs r : List Pc} {p : Pc} {d0 d : ByteArray} {ps : List ByteArray} (h : PAt fs d0 ps (p :: r) d) (h0 : sz p d = none) : parts fs d0 = none := by
 rw [h, parts, h0]; rfl
theorem pat_step {fs r : List Pc} {p : Pc} {d0 d x : ByteArray} {ps : List ByteArray} {n : Nat} (h : PAt fs d0 ps (p :: r) d) (h0 : sz p d = some n) (hx : d.extract 0 n = x) : PAt fs d0 (ps ++ [x]) r (d.extract x.size d.size) := by
 have hn := sz_le h0; have e : x.size = n := by rw [← hx]; simp; omega
 rw [PAt, h, parts, h0, Option.map_map, hx, e]; congr 1; funext t; simp
theorem drop_let {f : ByteArray} {k : Nat} (hk : k < f.size) : (f.data.toList.map letP).drop k = letP f[k] :: (f.data.toList.map letP).drop (k + 1) := by
 have hl : k < (f.data.toList.map letP).length := by simpa using hk
 rw [List.drop_eq_getElem_cons hl]; simp
 rfl
theorem name_ext (d : ByteArray) (h : (nameAtS d).size ≠ 0) : d.extract 0 (nameAtS d).size = nameAtS d := by
 obtain ⟨e, e1, e2, e3, e4, e5⟩ := nameF_name 256 d 0 h; have e6 : nameAtS d = d.extract 0 e := e4; have e7 : (nameAtS d).size = e := by rw [e6]; simp; omega
 rw [e7, e6]
theorem txt_ext (d : ByteArray) : d.extract 0 (txtS d).size = txtS d := by
 by_cases h : 0 < d.size
 · by_cases h1 : d[0].toNat + 1 ≤ d.size
   · have e : txtS d = d.extract 0 (d[0].toNat + 1) := by rw [txtS, dif_pos h, if_pos h1]
     have e7 : (txtS d).size = d[0].toNat + 1 := by rw [e]; simp; omega
     rw [e7, e]
   · have e : txtS d = ByteArray.empty := by rw [txtS, dif_pos h, if_neg h1]
     rw [e]; simp
 · have e : txtS d = ByteArray.empty := by rw [txtS, dif_neg h]
   rw [e]; simp
theorem ext_none (d : ByteArray) : d.extract d.size d.size = ByteArray.empty := by
 apply Nm.ba_ext; simp
/-- Where the reading of short texts stands. -/
def TAt (d p : ByteArray) : Prop := p.size ≤ d.size ∧ d.extract 0 p.size = p ∧ txsS d = p.size + txsS (d.extract p.size d.size)
theorem tat_start (d : ByteArray) : TAt d ⟨#[]⟩ := by
 have e : (⟨#[]⟩ : ByteArray).size = 0 := rfl; refine ⟨by omega, ?_, ?_⟩
 · rw [e]; apply Nm.ba_ext; simp
 · rw [e]; simp
theorem tat_end {d p : ByteArray} (h : TAt d p) (h0 : (txtS (d.extract p.size d.size)).size = 0) : txsS d = p.size := by
 rw [h.2.2, txs_none h0]; rfl
theorem tat_step {d p : ByteArray} (h : TAt d p) (h0 : (txtS (d.extract p.size d.size)).size ≠ 0) : TAt d (p ++ txtS (d.extract p.size d.size)) := by
 obtain ⟨h1, h2, h3⟩ := h; have ht := txt_le (d.extract p.size d.size); have hte := txt_ext (d.extract p.size d.size); generalize hT : txtS (d.extract p.size d.size) = T at *; have hz : (p ++ T).size = p.size + T.size := by simp
 have hd : (d.extract p.size d.size).size = d.size - p.size := by simp
 refine ⟨by omega, ?_, ?_⟩
 · apply Nm.ba_ext; rw [hz]; have e1 : (p ++ T).data.toList = p.data.toList ++ T.data.toList := by simp
   rw [e1, ← hte]
   conv => rhs; arg 1; rw [← h2]
   simp only [ByteArray.data_extract, Array.toList_extract, List.extract_eq_take_drop]; simp
   rw [List.take_add]; congr 1; rw [List.take_take, Nat.min_eq_left (by omega)]
 · rw [hz, h3, txs_step (by rw [hT]; exact h0), hT]; have e : (d.extract p.size d.size).extract T.size (d.extract p.size d.size).size = d.extract (p.size + T.size) d.size := ext_ext (by omega) (Nat.le_refl _); rw [e]; omega
/-- Where the reading of a tag stands. -/
theorem tag_short {d : ByteArray} (h : (txtS d).size < 2 ∨ 16 < (txtS d).size) : tagB d = false := by
 rw [tagB]
 rcases h with h | h
 · simp; omega
 · simp; omega
theorem tag_bad {d : ByteArray} {k : Nat} (hk : 1 ≤ k) (hl : k < (txtS d).size) (h : alnumB (txtS d)[k] = false) : tagB d = false := by
 rw [tagB, Bool.and_eq_false_iff]; right; rw [List.all_eq_false]; refine ⟨(txtS d)[k], ?_, by simp [h]⟩
 have : ((txtS d).data.toList.drop 1)[k - 1]? = some (txtS d)[k] := by
  rw [List.getElem?_drop, show 1 + (k - 1) = k by omega]; exact Nm.get_data hl
 exact List.mem_of_getElem? this
theorem tag_good {d : ByteArray} (h2 : 2 ≤ (txtS d).size) (h16 : (txtS d).size ≤ 16) (h : ∀ j, 1 ≤ j → (hj : j < (txtS d).size) → alnumB (txtS d)[j] = true) : tagB d = true := by
 rw [tagB]; simp only [h2, h16, decide_true, Bool.true_and, List.all_eq_true]; intro c hc; obtain ⟨i, hi⟩ := List.getElem?_of_mem hc; rw [List.getElem?_drop] at hi
 have hl : 1 + i < (txtS d).size := by
  have := (List.getElem?_eq_some_iff.1 hi).1; simpa using this
 rw [Nm.get_data hl] at hi; simp at hi; rw [← hi]; exact h _ (by omega) hl
end Go.Proofs.YtddabafaejahbaaGreatDoor.Dt
/- impl.foldByte by its contract. -/
namespace Go.Proofs.YtddabafaejahbaaGreatDoor
open Go.RowKit
set_option maxRecDepth 100000 in
set_option maxHeartbeats 400000 in
theorem foldByte_any (c : UInt8) (w : World) :
 Calls Tryz.prog 154 #[.int .u8 c.toNat] w fun e w' => e = .returned (.int .u8 (Nm.low c).toNat) ∧ w' = w := by
 have hcl : (c.toNat : Int) < 256 := by have := c.toNat_lt; omega
 by_cases hup : 65 ≤ c.toNat ∧ c.toNat ≤ 90
 · have HL := Nm.hide (Nm.low_up hup); have d1 : decide ((65 : Int) ≤ (c.toNat : Int)) = true := by simp; omega
   have d2 : decide ((c.toNat : Int) ≤ 90) = true := by simp; omega
   have hb1 : (c.toNat : Int) ≤ 90 := by omega
   clear hup; go_enter Tryz.func154, Tryz.ntmps154; go_wp2; go_ret; rw [HL.out]; exact ⟨rfl, rfl⟩
 · have HL := Nm.hide (Nm.low_id hup)
   by_cases hlo : 65 ≤ c.toNat
   · have d1 : decide ((65 : Int) ≤ (c.toNat : Int)) = true := by simp; omega
     have d2 : decide ((c.toNat : Int) ≤ 90) = false := by simp; omega
     clear hup; go_enter Tryz.func154, Tryz.ntmps154; go_wp2; go_ret; rw [HL.out]; exact ⟨rfl, rfl⟩
   · have d1 : decide ((65 : Int) ≤ (c.toNat : Int)) = false := by simp; omega
     clear hup; go_enter Tryz.func154, Tryz.ntmps154; go_wp2; go_ret; rw [HL.out]; exact ⟨rfl, rfl⟩
end Go.Proofs.YtddabafaejahbaaGreatDoor
/- impl.isDigit, isLetter, isTag by their contracts. -/
namespace Go.Proofs.YtddabafaejahbaaGreatDoor
open Go.RowKit
def digD (c : UInt8) : Bool := decide (48 ≤ c.toNat) && decide (c.toNat ≤ 57)
def letD (c : UInt8) : Bool := decide (97 ≤ (Nm.low c).toNat) && decide ((Nm.low c).toNat ≤ 122)
theorem alnum_or (c : UInt8) : Dt.alnumB c = (digD c || letD c) := by
 unfold Dt.alnumB digD letD Nm.low; have hc := c.toNat_lt
 by_cases h : 65 ≤ c.toNat ∧ c.toNat ≤ 90
 · rw [if_pos h]; have e : (UInt8.ofNat (c.toNat + 32)).toNat = c.toNat + 32 := by simp; omega
   rw [e, Bool.eq_iff_iff]; simp
   omega
 · rw [if_neg h, Bool.eq_iff_iff]; simp
   omega
set_option maxRecDepth 100000 in
set_option maxHeartbeats 400000 in
theorem isDigitD_any (c : UInt8) (w : World) :
 Calls Tryz.prog 92 #[.int .u8 c.toNat] w fun e w' => e = .returned (.bool (digD c)) ∧ w' = w := by
 by_cases h1 : 48 ≤ c.toNat
 · have d1 : decide ((48 : Int) ≤ (c.toNat : Int)) = true := by simp; omega
   have HE : Hid (digD c = decide ((c.toNat : Int) ≤ 57)) := by
    show _ = _
    rw [digD, decide_eq_true h1, Bool.true_and, Bool.eq_iff_iff]
    simp; omega
   go_enter Tryz.func92, Tryz.ntmps92; go_wp2; go_ret; rw [HE.out]; exact ⟨rfl, rfl⟩
 · have d1 : decide ((48 : Int) ≤ (c.toNat : Int)) = false := by simp; omega
   have HE : Hid (digD c = false) := by
    show _ = _
    rw [digD, decide_eq_false h1]; rfl
   go_enter Tryz.func92, Tryz.ntmps92; go_wp2; go_ret; rw [HE.out]; exact ⟨rfl, rfl⟩
set_option maxRecDepth 100000 in
set_option maxHeartbeats 400000 in
theorem isLetter_any (c : UInt8) (w : World) :
 Calls Tryz.prog 175 #[.int .u8 c.toNat] w fun e w' => e = .returned (.bool (letD c)) ∧ w' = w := by
 have hcall := foldByte_any c
 by_cases h1 : 97 ≤ (Nm.low c).toNat
 · have HE : Hid (letD c = decide (((Nm.low c).toNat : Int) ≤ 122)) := by
    show _ = _
    rw [letD, decide_eq_true h1, Bool.true_and, Bool.eq_iff_iff]
    simp; omega
   have d1 : decide ((97 : Int) ≤ ((Nm.low c).toNat : Int)) = true := by simp; omega
   go_enter Tryz.func175, Tryz.ntmps175; go_wp2_with (go_at_call 154; refine (hcall _).mono ?_; rintro e w1 ⟨rfl, rfl⟩)
   go_ret; rw [HE.out]; exact ⟨rfl, rfl⟩
 · have d1 : decide ((97 : Int) ≤ ((Nm.low c).toNat : Int)) = false := by simp; omega
   have HE : Hid (letD c = false) := by
    show _ = _
    rw [letD, decide_eq_false h1]; rfl
   go_enter Tryz.func175, Tryz.ntmps175; go_wp2_with (go_at_call 154; refine (hcall _).mono ?_; rintro e w1 ⟨rfl, rfl⟩)
   go_ret; rw [HE.out]; exact ⟨rfl, rfl⟩
def tagT (t : ByteArray) : Bool := t.data.toList.all Dt.alnumB && (decide (0 < t.size) && decide (t.size ≤ 15))
theorem tagT_bad {t : ByteArray} {j : Nat} (hj : j < t.size) (h : Dt.alnumB t[j] = false) : tagT t = false := by
 rw [tagT, Bool.and_eq_false_iff]; left; rw [List.all_eq_false]; exact ⟨t[j], List.mem_of_getElem? (Nm.get_data hj), by simp [h]⟩
theorem tagT_good {t : ByteArray} (h : ∀ j, (hj : j < t.size) → Dt.alnumB t[j] = true) : tagT t = (decide (0 < t.size) && decide (t.size ≤ 15)) := by
 rw [tagT]
 have : t.data.toList.all Dt.alnumB = true := by
  rw [List.all_eq_true]; intro c hc; obtain ⟨i, hi⟩ := List.getElem?_of_mem hc
  have hl : i < t.size := by
   have := (List.getElem?_eq_some_iff.1 hi).1; simpa using this
  rw [Nm.get_data hl] at hi; simp at hi; rw [← hi]; exact h _ hl
 rw [this, Bool.true_and]
set_option maxRecDepth 100000 in
set_option maxHeartbeats 800000 in
theorem isTag_any (t : ByteArray) (w : World) (ht : t.size ≤ 1000000000) :
 Calls Tryz.prog 125 #[.string t] w fun e w' => e = .returned (.bool (tagT t)) ∧ w' = w := by
 go_enter Tryz.func125, Tryz.ntmps125; go_wp2
 go_loop [6] (fun v => ∃ j : Nat, j ≤ t.size ∧ v = .int .i64 j ∧ ∀ i, i < j → (hi : i < t.size) → Dt.alnumB t[i] = true) (fun v => t.size - (intOf v).toNat)
 case atStart => exact ⟨0, by omega, rfl, fun i h => by omega⟩
 case round =>
  obtain ⟨j, hj, rfl, ha⟩ := hrel
  by_cases hlt : j < t.size
  · have hlt' : (j : Int) < (t.size : Int) := by omega
    have hd := isDigitD_any t[j]; have hl := isLetter_any t[j]; have hor := alnum_or t[j]
    cases hA : digD t[j] with
    | true =>
      have HJ : Hid (∀ i, i < j + 1 → (hi : i < t.size) → Dt.alnumB t[i] = true) := by
       show ∀ i, _
       intro i h2 h3
       by_cases e : i = j
       · subst e; rw [hor, hA]; rfl
       · exact ha i (by omega) h3
      rw [hA] at hd; clear ha hor hA; go_wp2_with (first | (go_at_call 92; refine (hd _).mono ?_; rintro e w2 ⟨rfl, hw⟩; obtain rfl : w = w2 := hw.symm; clear hw) | (go_at_call 175; refine (hl _).mono ?_; rintro e w2 ⟨rfl, hw⟩; obtain rfl : w = w2 := hw.symm; clear hw))
      go_round
      case rel => exact ⟨j + 1, by omega, by go_num, HJ.out⟩
      case measure => simp [intOf]; omega
    | false =>
      rw [hA] at hd
      cases hB : letD t[j] with
      | true =>
        have HJ : Hid (∀ i, i < j + 1 → (hi : i < t.size) → Dt.alnumB t[i] = true) := by
         show ∀ i, _
         intro i h2 h3
         by_cases e : i = j
         · subst e; rw [hor, hB]; simp
         · exact ha i (by omega) h3
        rw [hB] at hl; clear ha hor hA hB; go_wp2_with (first | (go_at_call 92; refine (hd _).mono ?_; rintro e w2 ⟨rfl, hw⟩; obtain rfl : w = w2 := hw.symm; clear hw) | (go_at_call 175; refine (hl _).mono ?_; rintro e w2 ⟨rfl, hw⟩; obtain rfl : w = w2 := hw.symm; clear hw))
        go_round
        case rel => exact ⟨j + 1, by omega, by go_num, HJ.out⟩
        case measure => simp [intOf]; omega
      | false =>
        have HT := Nm.hide (tagT_bad hlt (by rw [hor, hA, hB]; rfl)); rw [hB] at hl; clear ha hor hA hB; go_wp2_with (first | (go_at_call 92; refine (hd _).mono ?_; rintro e w2 ⟨rfl, hw⟩; obtain rfl : w = w2 := hw.symm; clear hw) | (go_at_call 175; refine (hl _).mono ?_; rintro e w2 ⟨rfl, hw⟩; obtain rfl : w = w2 := hw.symm; clear hw))
        go_ret; rw [HT.out]; exact ⟨rfl, rfl⟩
  · have hlt' : (t.size : Int) ≤ (j : Int) := by omega
    have HT := Nm.hide (tagT_good (fun i h => ha i (by omega) h)); clear ha
    by_cases h0 : 0 < t.size
    · have h0' : (0 : Int) < (t.size : Int) := by omega
      have HU : Hid (tagT t = decide ((t.size : Int) ≤ 15)) := by
       show _ = _
       rw [HT.out, decide_eq_true h0, Bool.true_and, Bool.eq_iff_iff]
       simp; omega
      clear HT; go_wp2; go_ret; rw [HU.out]; exact ⟨rfl, rfl⟩
    · have h0' : (t.size : Int) ≤ 0 := by omega
      have HU : Hid (tagT t = false) := by
       show _ = _
       rw [HT.out, decide_eq_false h0, Bool.false_and]
      clear HT; go_wp2; go_ret; rw [HU.out]; exact ⟨rfl, rfl⟩
theorem tag_of {d : ByteArray} {n : Nat} (hn : (Dt.txtS d).size = n) (_ : n ≠ 0) : tagT (d.extract 1 n) = Dt.tagB d := by
 have hle := Dt.txt_le d; have he := Dt.txt_ext d; rw [hn] at he
 have e1 : (d.extract 1 n).data.toList = (Dt.txtS d).data.toList.drop 1 := by
  rw [← he]; simp only [ByteArray.data_extract, Array.toList_extract, List.extract_eq_take_drop]; simp
  rw [← List.drop_one, ← List.drop_one, List.drop_take]
 have e2 : (d.extract 1 n).size = n - 1 := by simp; omega
 rw [tagT, Dt.tagB, e1, e2, hn, Bool.eq_iff_iff]; simp
 constructor
 · rintro ⟨h1, h2, h3⟩; exact ⟨⟨by omega, by omega⟩, h1⟩
 · rintro ⟨⟨h1, h2⟩, h3⟩; exact ⟨h3, by omega, by omega⟩
end Go.Proofs.YtddabafaejahbaaGreatDoor
/- ReadData as mathematics: a word read by its kind. -/
namespace Go.Proofs.YtddabafaejahbaaGreatDoor
open Go.RowKit
set_option linter.unusedVariables false
/-- A length and what it counts. -/
def lenS (x : ByteArray) : ByteArray := ⟨#[UInt8.ofNat x.size]⟩ ++ x
def timW (x : ByteArray) : ByteArray × Int := if (ttlS x).2 = 0 then (⟨(bigL (ttlS x).1.toNat 4).toArray⟩, 0) else (⟨#[]⟩, (ttlS x).2)
/-- A word of a kind that is no text. -/
def readPl (c : UInt8) (x o : ByteArray) : ByteArray × Int :=
 if c = 65 then readV4S x
 else if c = 86 then readV6S x
 else if c = 110 then readS x o
 else if c = 84 then
  match numO x 10 with
  | some n => if n ≤ 4294967295 then (⟨(bigL n 4).toArray⟩, 0) else timW x
  | none => timW x
 else if c = 103 then (if tagT x = true then (lenS x, 0) else (⟨#[]⟩, 15))
 else
  match numO x 10 with
  | some n => if n < 2 ^ (8 * (c.toNat - 48)) then (⟨(bigL n (c.toNat - 48)).toArray⟩, 0) else (⟨#[]⟩, 15)
  | none => (⟨#[]⟩, 15)
/-- A word that is a text. -/
def readTx (c : UInt8) (x : ByteArray) : ByteArray × Int :=
 if (readTextR x).2 ≠ 0 then (⟨#[]⟩, (readTextR x).2)
 else if c = 118 then ((readTextR x).1, 0)
 else if 255 < (readTextR x).1.size then (⟨#[]⟩, 7)
 else (lenS (readTextR x).1, 0)
def isTx (c : UInt8) : Bool := c == 116 || c == 115 || c == 118
def readWd (c : UInt8) (x : ByteArray × Bool) (o : ByteArray) : ByteArray × Int :=
 if isTx c = true then readTx c x.1 else if x.2 = true then (⟨#[]⟩, 15) else readPl c x.1 o
/-- The kinds of words that are read: 0 a name, 1 a text, 2 a tag, 3 the rest, 4 and 5 addresses, 6 a time, k + 7 a number of k bytes; as a script has them. -/
def kc : Nat → UInt8
 | 0 => 110
 | 1 => 116
 | 2 => 103
 | 3 => 118
 | 4 => 65
 | 5 => 86
 | 6 => 84
 | k + 7 => UInt8.ofNat (48 + k)
/-- The value is the reader of that kind. -/
def RVal (w : World) : Nat → Value → Prop
 | 0, v => ∃ b, v = .func (.func 157) #[] #[.pointer (some ⟨b, 0, none⟩)] ∧ w.cell? ⟨b, 0, none⟩ = some (.func (.func 96) #[] #[])
 | 1, v => v = .func (.func 99) #[] #[]
 | 2, v => ∃ b, v = .func (.func 157) #[] #[.pointer (some ⟨b, 0, none⟩)] ∧ w.cell? ⟨b, 0, none⟩ = some (.func (.func 124) #[] #[])
 | 3, v => v = .func (.func 127) #[] #[]
 | 4, v => ∃ b g, v = .func (.func 157) #[] #[.pointer (some ⟨b, 0, none⟩)] ∧ w.cell? ⟨b, 0, none⟩ = some (.func (.func 113) #[] #[.pointer (some ⟨g, 0, none⟩)]) ∧ w.cell? ⟨g, 0, none⟩ = some (.func (.func 64) #[] #[])
 | 5, v => ∃ b g, v = .func (.func 157) #[] #[.pointer (some ⟨b, 0, none⟩)] ∧ w.cell? ⟨b, 0, none⟩ = some (.func (.func 113) #[] #[.pointer (some ⟨g, 0, none⟩)]) ∧ w.cell? ⟨g, 0, none⟩ = some (.func (.func 66) #[] #[])
 | 6, v => ∃ b g b2 g2, v = .func (.func 157) #[] #[.pointer (some ⟨b, 0, none⟩)] ∧ w.cell? ⟨b, 0, none⟩ = some (.func (.func 108) #[] #[.pointer (some ⟨g, 0, none⟩)]) ∧ w.cell? ⟨g, 0, none⟩ = some (.func (.func 157) #[] #[.pointer (some ⟨b2, 0, none⟩)]) ∧ w.cell? ⟨b2, 0, none⟩ = some (.func (.func 104) #[] #[.pointer (some ⟨g2, 0, none⟩)]) ∧ w.cell? ⟨g2, 0, none⟩ = some (.int .i64 4)
 | k + 7, v => ∃ b g, v = .func (.func 157) #[] #[.pointer (some ⟨b, 0, none⟩)] ∧ w.cell? ⟨b, 0, none⟩ = some (.func (.func 104) #[] #[.pointer (some ⟨g, 0, none⟩)]) ∧ w.cell? ⟨g, 0, none⟩ = some (.int .i64 (k : Int))
/-- Every cell that is there is as it was. -/
def KeptR (w w' : World) : Prop := ∀ a v, w.cell? a = some v → w'.cell? a = some v
theorem keptR_below {w w' : World} (h : Below w.heap.size w w') : KeptR w w' := fun a v hv => (h.cell (World.block_lt_of_cell? w _ hv)).trans hv
theorem RVal.kept {w w' : World} {K : Nat} {v : Value} (h : RVal w K v) (hk : KeptR w w') : RVal w' K v := by
 match K, h with
 | 0, ⟨b, h1, h2⟩ => exact ⟨b, h1, hk _ _ h2⟩
 | 1, h => exact h
 | 2, ⟨b, h1, h2⟩ => exact ⟨b, h1, hk _ _ h2⟩
 | 3, h => exact h
 | 4, ⟨b, g, h1, h2, h3⟩ => exact ⟨b, g, h1, hk _ _ h2, hk _ _ h3⟩
 | 5, ⟨b, g, h1, h2, h3⟩ => exact ⟨b, g, h1, hk _ _ h2, hk _ _ h3⟩
 | 6, ⟨b, g, b2, g2, h1, h2, h3, h4, h5⟩ => exact ⟨b, g, b2, g2, h1, hk _ _ h2, hk _ _ h3, hk _ _ h4, hk _ _ h5⟩
 | k + 7, ⟨b, g, h1, h2, h3⟩ => exact ⟨b, g, h1, hk _ _ h2, hk _ _ h3⟩
/-- A form: the reader of the kind, and a writer, whatever it is. -/
def RFv (w : World) (K : Nat) (f : Value) : Prop := ∃ g x y F u, f = .agg #[.func g x y, .func F #[] u] ∧ RVal w K (.func g x y)
theorem RFv.kept {w w' : World} {K : Nat} {f : Value} (h : RFv w K f) (hk : KeptR w w') : RFv w' K f := by
 obtain ⟨g, x, y, F, u, rfl, hv⟩ := h; exact ⟨g, x, y, F, u, rfl, hv.kept hk⟩
set_option maxRecDepth 100000 in
set_option maxHeartbeats 1000000 in
theorem unquotedR_any (u : Value) (w : World) (g : Fn) (x y : Array Value) (hu : u = .func g x y) :
 Calls Tryz.prog 95 #[u] w fun e w' => (∃ b, e = .returned (.func (.func 157) #[] #[.pointer (some ⟨b, 0, none⟩)]) ∧ w'.cell? ⟨b, 0, none⟩ = some u) ∧ Below w.heap.size w w' := by
 subst hu; go_enter Tryz.func95, Tryz.ntmps95; go_wp2; go_ret; exact ⟨⟨w.heap.size, rfl, by simp⟩, (Below.refl _ _).alloc (Nat.le_refl _) _⟩
set_option maxRecDepth 100000 in
set_option maxHeartbeats 1000000 in
theorem textWordR_any (w : World) :
 Calls Tryz.prog 59 #[] w fun e w' => (∃ f, e = .returned f ∧ RFv w' 1 f) ∧ Below w.heap.size w w' := by
 go_enter Tryz.func59, Tryz.ntmps59; go_wp2; refine bodyPost_ret (v := .agg #[.func (.func 99) #[] #[], .func (.func 102) #[] #[]]) ?_ rfl ⟨⟨_, rfl, _, _, _, _, _, rfl, rfl⟩, (Below.refl _ _).alloc (Nat.le_refl _) _⟩; simp [results, Tryz.results59, go_sem, Result.andThen]
set_option maxRecDepth 100000 in
set_option maxHeartbeats 1000000 in
theorem restWordR_any (w : World) :
 Calls Tryz.prog 70 #[] w fun e w' => (∃ f, e = .returned f ∧ RFv w' 3 f) ∧ Below w.heap.size w w' := by
 go_enter Tryz.func70, Tryz.ntmps70; go_wp2; refine bodyPost_ret (v := .agg #[.func (.func 127) #[] #[], .func (.func 128) #[] #[]]) ?_ rfl ⟨⟨_, rfl, _, _, _, _, _, rfl, rfl⟩, (Below.refl _ _).alloc (Nat.le_refl _) _⟩; simp [results, Tryz.results70, go_sem, Result.andThen]
/-- Two cells that were laid ahead of a call are there behind it. -/
theorem two_keptR {w w1 : World} {a b : Value} {t : Nat} (hb : Below (w.alloc (.cells #[a, b] t)).heap.size (w.alloc (.cells #[a, b] t)) w1) :
 w1.cell? ⟨w.heap.size, 0, none⟩ = some a ∧ w1.cell? ⟨w.heap.size, 1, none⟩ = some b ∧ w1.frozen? ⟨w.heap.size, 0, none⟩ = false ∧ w1.frozen? ⟨w.heap.size, 1, none⟩ = false := by
 have hlt : w.heap.size < (w.alloc (.cells #[a, b] t)).heap.size := by simp
 have hf : ∀ j, w1.frozen? ⟨w.heap.size, j, none⟩ = false := by
  intro j
  have e : w1.frozen? ⟨w.heap.size, j, none⟩ = (w.alloc (.cells #[a, b] t)).frozen? ⟨w.heap.size, j, none⟩ := by
   simp only [World.frozen?, hb.block w.heap.size hlt]
  rw [e]; exact World.frozen?_alloc_new w _ _ j
 refine ⟨(hb.cell hlt).trans (by simp), (hb.cell hlt).trans (by simp), hf 0, hf 1⟩
theorem two_setR {w1 : World} {g : Nat} {a b r v : Value} (c0 : w1.cell? ⟨g, 0, none⟩ = some a) (c1 : w1.cell? ⟨g, 1, none⟩ = some b) :
 ((w1.setCell ⟨g, 0, none⟩ r).setCell ⟨g, 1, none⟩ v).cell? ⟨g, 0, none⟩ = some r ∧ ((w1.setCell ⟨g, 0, none⟩ r).setCell ⟨g, 1, none⟩ v).cell? ⟨g, 1, none⟩ = some v := by
 refine ⟨?_, ?_⟩
 · rw [World.cell?_setCell_other _ ⟨g, 1, none⟩ ⟨g, 0, none⟩ v (by simp)]; exact World.cell?_setCell_same w1 ⟨g, 0, none⟩ r c0
 · exact World.cell?_setCell_same (w1.setCell ⟨g, 0, none⟩ r) ⟨g, 1, none⟩ v ((World.cell?_setCell_other w1 ⟨g, 0, none⟩ ⟨g, 1, none⟩ r (by simp)).trans c1)
theorem set_farR {w1 : World} {g h : Nat} {r v : Value} (hne : h ≠ g) : ((w1.setCell ⟨g, 0, none⟩ r).setCell ⟨g, 1, none⟩ v).cell? ⟨h, 0, none⟩ = w1.cell? ⟨h, 0, none⟩ := by
 rw [World.cell?_setCell_other _ ⟨g, 1, none⟩ ⟨h, 0, none⟩ v (by simp <;> omega), World.cell?_setCell_other _ ⟨g, 0, none⟩ ⟨h, 0, none⟩ r (by simp <;> omega)]
/-- A cell that holds something else lies in another block. -/
theorem cell_neR {w : World} {a b i : Nat} {u v : Value} (h : w.cell? ⟨a, i, none⟩ = some u) (h2 : w.cell? ⟨b, i, none⟩ = some v) (hne : u ≠ v) : a ≠ b := by
 intro e; subst e; rw [h] at h2; exact hne (Option.some.inj h2)
set_option maxRecDepth 100000 in
set_option maxHeartbeats 1000000 in
theorem nameWordR_any (w : World) :
 Calls Tryz.prog 58 #[] w fun e w' => (∃ f, e = .returned f ∧ RFv w' 0 f) ∧ Below w.heap.size w w' := by
 have hun := fun W => unquotedR_any (.func (.func 96) #[] #[]) W _ _ _ rfl
 go_enter Tryz.func58, Tryz.ntmps58; go_wp2_with (go_at_call 95; refine (hun _).mono ?_; rintro e w1 ⟨⟨b, rfl, hcb⟩, hb1⟩; obtain ⟨c0, c1, f0, f1⟩ := two_keptR hb1; have hne := cell_neR hcb c0 (by simp))
 have hb : Below w.heap.size w w1 := ((Below.refl _ w).alloc (Nat.le_refl _) _).trans (hb1.mono (by simp)); obtain ⟨s0, s1⟩ := two_setR (r := .func (.func 157) #[] #[.pointer (some ⟨b, 0, none⟩)]) (v := .func (.func 97) #[] #[]) c0 c1; refine bodyPost_ret (v := .agg #[.func (.func 157) #[] #[.pointer (some ⟨b, 0, none⟩)], .func (.func 97) #[] #[]]) ?_ rfl ⟨⟨_, rfl, _, _, _, _, _, rfl, ⟨b, rfl, (set_farR hne).trans hcb⟩⟩, (hb.setCell (Nat.le_refl _) _).setCell (Nat.le_refl _) _⟩; simp [results, Tryz.results58, go_sem, Result.andThen, s0, s1]
set_option maxRecDepth 100000 in
set_option maxHeartbeats 1000000 in
theorem tagWordR_any (w : World) :
 Calls Tryz.prog 69 #[] w fun e w' => (∃ f, e = .returned f ∧ RFv w' 2 f) ∧ Below w.heap.size w w' := by
 have hun := fun W => unquotedR_any (.func (.func 124) #[] #[]) W _ _ _ rfl
 go_enter Tryz.func69, Tryz.ntmps69; go_wp2_with (go_at_call 95; refine (hun _).mono ?_; rintro e w1 ⟨⟨b, rfl, hcb⟩, hb1⟩; obtain ⟨c0, c1, f0, f1⟩ := two_keptR hb1; have hne := cell_neR hcb c0 (by simp))
 have hb : Below w.heap.size w w1 := ((Below.refl _ w).alloc (Nat.le_refl _) _).trans (hb1.mono (by simp)); obtain ⟨s0, s1⟩ := two_setR (r := .func (.func 157) #[] #[.pointer (some ⟨b, 0, none⟩)]) (v := .func (.func 126) #[] #[]) c0 c1; refine bodyPost_ret (v := .agg #[.func (.func 157) #[] #[.pointer (some ⟨b, 0, none⟩)], .func (.func 126) #[] #[]]) ?_ rfl ⟨⟨_, rfl, _, _, _, _, _, rfl, ⟨b, rfl, (set_farR hne).trans hcb⟩⟩, (hb.setCell (Nat.le_refl _) _).setCell (Nat.le_refl _) _⟩; simp [results, Tryz.results69, go_sem, Result.andThen, s0, s1]
set_option maxRecDepth 100000 in
set_option maxHeartbeats 1000000 in
theorem numberWordR_any (k : Nat) (w : World) :
 Calls Tryz.prog 60 #[.int .i64 (k : Int)] w fun e w' => (∃ f, e = .returned f ∧ RFv w' (k + 7) f) ∧ Below w.heap.size w w' := by
 have hun := fun p W => unquotedR_any (.func (.func 104) #[] p) W _ _ _ rfl
 go_enter Tryz.func60, Tryz.ntmps60; go_wp2_with (go_at_call 95; refine (hun _ _).mono ?_; rintro e w1 ⟨⟨b, rfl, hcb⟩, hb1⟩; obtain ⟨c0, c1, f0, f1⟩ := two_keptR hb1; have hne := cell_neR hcb c0 (by simp); have kg : w1.cell? ⟨w.heap.size, 0, none⟩ = some (.int .i64 (k : Int)) := (hb1.cell (by simp; omega)).trans (by simp); simp only [World.alloc, Array.size_push] at c0 c1 f0 f1 hne)
 have hb : Below w.heap.size w w1 := (((Below.refl _ w).alloc (Nat.le_refl _) _).alloc (by simp) _).trans (hb1.mono (by simp; omega)); obtain ⟨s0, s1⟩ := two_setR (r := .func (.func 157) #[] #[.pointer (some ⟨b, 0, none⟩)]) (v := .func (.func 105) #[] #[.pointer (some ⟨w.heap.size, 0, none⟩)]) c0 c1; refine bodyPost_ret (v := .agg #[.func (.func 157) #[] #[.pointer (some ⟨b, 0, none⟩)], .func (.func 105) #[] #[.pointer (some ⟨w.heap.size, 0, none⟩)]]) ?_ rfl ⟨⟨_, rfl, _, _, _, _, _, rfl, ⟨b, _, rfl, (set_farR hne).trans hcb, (set_farR (by omega)).trans kg⟩⟩, (hb.setCell (by simp) _).setCell (by simp) _⟩; simp [results, Tryz.results60, go_sem, Result.andThen, s0, s1]
end Go.Proofs.YtddabafaejahbaaGreatDoor
/- impl.isDigit by its contract. -/
namespace Go.Proofs.YtddabafaejahbaaGreatDoor
open Go.RowKit
set_option maxRecDepth 100000 in
set_option maxHeartbeats 400000 in
theorem isDigit_any (c : UInt8) (w : World) :
 Calls Tryz.prog 92 #[.int .u8 c.toNat] w fun e w' => e = .returned (.bool (Nm.digB c)) ∧ w' = w := by
 by_cases h1 : 48 ≤ c.toNat
 · have d1 : decide ((48 : Int) ≤ (c.toNat : Int)) = true := by simp; omega
   have HE : Hid (Nm.digB c = decide ((c.toNat : Int) ≤ 57)) := by
    show _ = _
    rw [Nm.digB, decide_eq_true h1, Bool.true_and, Bool.eq_iff_iff]
    simp; omega
   go_enter Tryz.func92, Tryz.ntmps92; go_wp2; go_ret; rw [HE.out]; exact ⟨rfl, rfl⟩
 · have d1 : decide ((48 : Int) ≤ (c.toNat : Int)) = false := by simp; omega
   have HE : Hid (Nm.digB c = false) := by
    show _ = _
    rw [Nm.digB, decide_eq_false h1]; rfl
   go_enter Tryz.func92, Tryz.ntmps92; go_wp2; go_ret; rw [HE.out]; exact ⟨rfl, rfl⟩
end Go.Proofs.YtddabafaejahbaaGreatDoor
/- impl.readNumber by its contract. -/
namespace Go.Proofs.YtddabafaejahbaaGreatDoor
open Go.RowKit
set_option maxRecDepth 100000 in
set_option maxHeartbeats 800000 in
theorem readNumber_any (s : ByteArray) (most : Nat) (w : World) (hm : most ≤ 17) :
 Calls Tryz.prog 53 #[.string s, .int .i64 (most : Int)] w fun e w' => e = .returned (numV (numO s most)) ∧ w' = w := by
 by_cases h1 : s.size < 1
 · have HN : Hid (numV (numO s most) = .tuple #[.int .i64 0, .bool false]) := by show _ = _; rw [numO_len (by omega)]; rfl
   obtain ⟨h1', _⟩ := beq_empty (s := s) (by omega); go_enter Tryz.func53, Tryz.ntmps53; go_wp2; go_ret2; rw [HN.out]; exact ⟨rfl, rfl⟩
 obtain ⟨h1', _⟩ := not_empty (s := s) (by omega)
 by_cases h2 : most < s.size
 · have HN : Hid (numV (numO s most) = .tuple #[.int .i64 0, .bool false]) := by show _ = _; rw [numO_len (by omega)]; rfl
   have h2' : (most : Int) < (s.size : Int) := by omega
   go_enter Tryz.func53, Tryz.ntmps53; go_wp2; go_ret2; rw [HN.out]; exact ⟨rfl, rfl⟩
 have h2' : (s.size : Int) ≤ (most : Int) := by omega
 go_enter Tryz.func53, Tryz.ntmps53; go_wp2
 go_loop [6, 18] (fun u v => ∃ k : Nat, k ≤ s.size ∧ v = .int .i64 k ∧ u = .int .i64 ((numD (s.data.toList.take k) : Nat) : Int) ∧ ∀ j, j < k → (hj : j < s.size) → Nm.digB s[j] = true) (fun _ v => s.size - (intOf v).toNat)
 case atStart => exact ⟨0, Nat.zero_le _, rfl, rfl, fun j h => by omega⟩
 case round =>
  obtain ⟨k, hk, rfl, rfl, hd⟩ := hrel
  by_cases hlt : k < s.size
  · have hlt' : (k : Int) < (s.size : Int) := by omega
    have hdig := isDigit_any s[k]; have hlim := numD_take hk hd; have hp17 : 10 ^ k ≤ 10 ^ 17 := Nat.pow_le_pow_right (by decide) (by omega); have hp : (10 : Nat) ^ 17 = 100000000000000000 := by decide
    have hb : numD (s.data.toList.take k) < 100000000000000000 := by omega
    clear hlim hp17 hp
    cases hD : Nm.digB s[k] with
    | false =>
      have HN : Hid (numV (numO s most) = .tuple #[.int .i64 0, .bool false]) := by show _ = _; rw [numO_bad hlt hD]; rfl
      rw [hD] at hdig; clear hD hd; generalize numD (s.data.toList.take k) = m at *; go_wp2_with (go_at_call 92; refine (hdig _).mono ?_; rintro e w1 ⟨rfl, hw⟩; obtain rfl : w = w1 := hw.symm; clear hw)
      go_ret2; rw [HN.out]
      exact ⟨rfl, rfl⟩
    | true =>
      have hc : 48 ≤ s[k].toNat ∧ s[k].toNat ≤ 57 := by simp [Nm.digB] at hD; omega
      have hc1 : (48 : Int) ≤ (s[k].toNat : Int) := by omega
      have hc2 : (s[k].toNat : Int) ≤ 57 := by omega
      have e1 : s.data.toList.take (k + 1) = s.data.toList.take k ++ [s[k]] := Nm.take_step (Nm.get_data hlt); have e2 := numD_snoc (s.data.toList.take k) s[k]; rw [← e1] at e2
      have HD : Hid (∀ j, j < k + 1 → (hj : j < s.size) → Nm.digB s[j] = true) := by
       show ∀ j, _
       intro j hj hjs
       by_cases e : j = k
       · subst e; exact hD
       · exact hd j (by omega) hjs
      have HV : Hid (((numD (s.data.toList.take (k + 1)) : Nat) : Int) = (numD (s.data.toList.take k) : Int) * 10 + ((s[k].toNat : Int) - 48)) := by
       show _ = _
       rw [e2]; omega
      rw [hD] at hdig; clear hD hd e1 e2; generalize numD (s.data.toList.take k) = m at *; go_wp2_with (go_at_call 92; refine (hdig _).mono ?_; rintro e w1 ⟨rfl, hw⟩; obtain rfl : w = w1 := hw.symm; clear hw)
      go_round
      case rel => exact ⟨k + 1, by omega, by go_num, by rw [HV.out]; go_num, HD.out⟩
      case measure => simp [intOf]; omega
  · have hlt' : (s.size : Int) ≤ (k : Int) := by omega
    have hks : k = s.size := by omega
    have HN : Hid (numV (numO s most) = .tuple #[.int .i64 ((numD (s.data.toList.take k) : Nat) : Int), .bool true]) := by
     show _ = _
     rw [numO_good (by omega) (by omega) (fun j hj => hd j (by omega) hj), hks, List.take_of_length_le (by simp)]; rfl
    clear hd; generalize numD (s.data.toList.take k) = m at *; go_wp2; go_ret2; rw [HN.out]; exact ⟨rfl, rfl⟩
end Go.Proofs.YtddabafaejahbaaGreatDoor
