import Derived.Test.YtjokdmmlofbknaaDoorJTyM
import Derived.Test.YtjokdmmlofbknaaDoorRows
import Derived.WalkSpells
import Derived.WalkLawsBesides
import Derived.RegionTactic
import Derived.BigRegion
import Derived.BigQuiet
import Derived.Deep.QuietTactic
import Derived.Deep.AppendLies
import Derived.Test.YtjokdmmlofbknaaDoorJV4T
import Derived.Test.YtjokdmmlofbknaaDoorJMath
import Derived.Test.YtjokdmmlofbknaaDoorJFoldM
import Derived.Laws.BitsAllLaws
/- spec.l01Digit, spec.l01Escape by their contracts. -/
namespace Go.Proofs.YtjokdmmlofbknaaDoor
open Go.RowKit

end Go.Proofs.YtjokdmmlofbknaaDoor
/- spec.ReadText by its contract. -/
namespace Go.Proofs.YtjokdmmlofbknaaDoor
open Go.RowKit

/-- A text with its escapes taken; none: an escape is none. -/
def rtF : Nat → List UInt8 → Option (List UInt8)
  | 0, _ => some []
  | _ + 1, [] => some []
  | f + 1, c :: r => if c.toNat = 92 then (match Nm.escF r with
      | none => none
      | some (b, n) => (rtF f (r.drop n)).map (fun t => b :: t))
    else (rtF f r).map (fun t => c :: t)

theorem rtF_enough : ∀ (f g : Nat) (l : List UInt8), l.length < f → l.length < g → rtF f l = rtF g l := by
  intro f
  induction f with
  | zero => intro g l h; omega
  | succ f ih =>
    intro g l hf hg
    cases g with
    | zero => omega
    | succ g =>
      cases l with
      | nil => rfl
      | cons c r =>
        simp only [List.length_cons] at hf hg
        rw [rtF, rtF]
        by_cases hc : c.toNat = 92
        · rw [if_pos hc, if_pos hc]
          cases he : Nm.escF r with
          | none => rfl
          | some p =>
            obtain ⟨b, n⟩ := p
            simp only
            rw [ih g (r.drop n) (by simp; omega) (by simp; omega)]
        · rw [if_neg hc, if_neg hc, ih g r (by omega) (by omega)]

def readTextL (l : List UInt8) : Option (List UInt8) := rtF (l.length + 1) l
def readTextR (s : ByteArray) : ByteArray × Int :=
  match readTextL s.data.toList with
  | none => (⟨#[]⟩, 4)
  | some l => (⟨l.toArray⟩, 0)

/-- Where the reading stands. -/
def RAt (s : ByteArray) (o : List UInt8) (i : Nat) : Prop := readTextL s.data.toList = (readTextL (s.data.toList.drop i)).map (fun t => o ++ t)

theorem rat_start (s : ByteArray) : RAt s [] 0 := by simp [RAt]
theorem rat_end {s : ByteArray} {o : List UInt8} {i : Nat} (h : RAt s o i) (hi : s.size ≤ i) : readTextR s = (⟨o.toArray⟩, 0) := by
  have e : s.data.toList.drop i = [] := List.drop_eq_nil_of_le (by simpa using hi)
  rw [RAt, e] at h
  rw [readTextR, h]
  simp [readTextL, rtF]
theorem rat_drop {s : ByteArray} {i : Nat} (h : i < s.size) : s.data.toList.drop i = s[i] :: s.data.toList.drop (i + 1) := by
  rw [List.drop_eq_getElem_cons (by simpa using h)]
  rfl
theorem rat_own {s : ByteArray} {o : List UInt8} {i : Nat} (h : RAt s o i) (hi : i < s.size) (hc : s[i].toNat ≠ 92) : RAt s (o ++ [s[i]]) (i + 1) := by
  rw [RAt] at h ⊢
  rw [h, rat_drop hi, readTextL, List.length_cons, rtF, if_neg hc, Option.map_map]
  have e : rtF ((s.data.toList.drop (i + 1)).length + 1) (s.data.toList.drop (i + 1)) = readTextL (s.data.toList.drop (i + 1)) := rfl
  rw [e]
  congr 1; funext t; simp
theorem rat_bad {s : ByteArray} {o : List UInt8} {i : Nat} (h : RAt s o i) (hi : i < s.size) (hc : s[i].toNat = 92) (he : Nm.escF (s.data.toList.drop (i + 1)) = none) : readTextR s = (⟨#[]⟩, 4) := by
  have e : readTextL (s.data.toList.drop i) = none := by rw [rat_drop hi, readTextL, List.length_cons, rtF, if_pos hc, he]
  rw [RAt, e] at h
  rw [readTextR, h]; rfl
theorem rat_esc {s : ByteArray} {o : List UInt8} {i n : Nat} {b : UInt8} (h : RAt s o i) (hi : i < s.size) (hc : s[i].toNat = 92) (he : Nm.escF (s.data.toList.drop (i + 1)) = some (b, n)) : RAt s (o ++ [b]) (i + n + 1) := by
  rw [RAt] at h ⊢
  rw [h, rat_drop hi]
  have hz := (Nm.esc_len he).1
  rw [readTextL, List.length_cons, rtF, if_pos hc, he]
  simp only
  rw [Option.map_map, List.drop_drop]
  have e : rtF ((s.data.toList.drop (i + 1)).length + 1) (s.data.toList.drop (i + 1 + n)) = readTextL (s.data.toList.drop (i + n + 1)) := by
    rw [show i + 1 + n = i + n + 1 by omega, readTextL]
    exact rtF_enough _ _ _ (by simp; omega) (by omega)
  rw [e]
  congr 1; funext t; simp

theorem ext_tail {s : ByteArray} {i : Nat} : (s.extract i s.size).data.toList = s.data.toList.drop i := by
  simp only [ByteArray.data_extract, Array.toList_extract]
  rw [List.extract_eq_take_drop, List.take_of_length_le (by simp)]

end Go.Proofs.YtjokdmmlofbknaaDoor
/- Types and texts that are written are read as they were: mathematics. -/
namespace Go.Proofs.YtjokdmmlofbknaaDoor
open Go.RowKit
set_option linter.unusedVariables false

theorem mn_self : ∀ k, k < 19 → ∀ j, j < k → ((Nm.smallL (mnT j).data.toList) == (Nm.smallL (mnT k).data.toList)) = false := by decide +kernel
theorem mn_type : ∀ j, j < 19 → ((Nm.smallL (mnT j).data.toList).take 4 == [116, 121, 112, 101]) = false := by decide +kernel
theorem tyEq_data (s : ByteArray) (k : Nat) : tyEq s k = ((Nm.smallL (mnT k).data.toList) == (Nm.smallL s.data.toList)) := by
  rw [tyEq, ByteArray.toList_eq, ByteArray.toList_eq, Nm.small_data, Nm.small_data]
theorem type_back {t : Int} (h0 : 0 ≤ t) (h1 : t ≤ 65535) : readTyS (showTypeS t) = (t, 0) := by
  have hr : ¬ (t < 0 ∨ 65535 < t) := by omega
  by_cases hm : (mnemS t).size = 0
  · rw [showType_num hr hm]
    obtain ⟨n, rfl⟩ := Int.eq_ofNat_of_zero_le h0
    rw [Int.toNat_natCast]
    have hsz : (⟨#[84, 89, 80, 69]⟩ ++ decS n : ByteArray).size = 4 + (decL n).length := by
      rw [ByteArray.size_append, decS_size]; rfl
    have hdt : (⟨#[84, 89, 80, 69]⟩ ++ decS n : ByteArray).data.toList = 84 :: 89 :: 80 :: 69 :: decL n := by
      rw [ByteArray.data_append, Array.toList_append, decS_data]; rfl
    rw [ty_miss]
    · have e0 : ((Nm.small ((⟨#[84, 89, 80, 69]⟩ ++ decS n : ByteArray).extract 0 4)).toList == [116, 121, 112, 101]) = true := by
        rw [ByteArray.toList_eq, Nm.small_data]
        simp only [ByteArray.data_extract, Array.toList_extract, List.extract_eq_take_drop]
        rw [hdt]
        rfl
      have e1 : (⟨#[84, 89, 80, 69]⟩ ++ decS n : ByteArray).extract 4 (⟨#[84, 89, 80, 69]⟩ ++ decS n : ByteArray).size = decS n := by
        apply Nm.ba_ext
        simp only [ByteArray.data_extract, Array.toList_extract, List.extract_eq_take_drop]
        rw [hdt, hsz, decS_data, show 4 + (decL n).length - 4 = (decL n).length by omega]
        simp only [List.drop_succ_cons, List.drop_zero]
        exact List.take_length
      rw [tyTail_some (n := n) (by omega) e0 (by rw [e1]; exact numO_dec (m := 4) (by omega)), if_pos (by omega)]
    · intro j hj
      rw [tyEq_data, hdt, beq_eq_false_iff_ne]
      intro e
      have h4 := mn_type j hj
      rw [e, beq_eq_false_iff_ne] at h4
      exact h4 rfl
  · obtain ⟨k, hk, rfl⟩ := mn_index hm
    rw [showType_mn hr hm, (mn_all hk).1]
    refine ty_hit hk ?_ ?_
    · rw [tyEq_data]; simp
    · intro j hj
      rw [tyEq_data]
      exact mn_self k hk j hj

theorem three_esc (c : UInt8) (R : List UInt8) : Nm.escF (Nm.threeL c ++ R) = some (c, 3) := by
  have hc := c.toNat_lt
  have e : Nm.threeL c ++ R = UInt8.ofNat (48 + c.toNat / 100) :: UInt8.ofNat (48 + c.toNat / 10 % 10) :: UInt8.ofNat (48 + c.toNat % 10) :: R := rfl
  have d0 : Nm.digB (UInt8.ofNat (48 + c.toNat / 100)) = true := by simp [Nm.digB]; omega
  have d1 : Nm.digB (UInt8.ofNat (48 + c.toNat / 10 % 10)) = true := by simp [Nm.digB]; omega
  have d2 : Nm.digB (UInt8.ofNat (48 + c.toNat % 10)) = true := by simp [Nm.digB]; omega
  have hn : Nm.num3 (UInt8.ofNat (48 + c.toNat / 100)) (UInt8.ofNat (48 + c.toNat / 10 % 10)) (UInt8.ofNat (48 + c.toNat % 10)) = c.toNat := by
    simp [Nm.num3]; omega
  rw [e, Nm.esc_three d0, if_pos ⟨d1, d2⟩, hn, if_pos (by omega)]
  simp
theorem rt_cons {c : UInt8} {r : List UInt8} (h : ¬ c.toNat = 92) : readTextL (c :: r) = (readTextL r).map (fun t => c :: t) := by
  rw [readTextL, List.length_cons, rtF, if_neg h]; rfl
theorem rt_esc {b : UInt8} {r : List UInt8} {n : Nat} (h : Nm.escF r = some (b, n)) : readTextL (92 :: r) = (readTextL (r.drop n)).map (fun t => b :: t) := by
  have hz := Nm.esc_len h
  rw [readTextL, List.length_cons, rtF, if_pos (show (92 : UInt8).toNat = 92 from rfl), h]
  simp only
  congr 1
  exact rtF_enough _ _ _ (by simp; omega) (by simp)
theorem rt_one (c : UInt8) (R : List UInt8) : readTextL (qB c ++ R) = (readTextL R).map (fun t => c :: t) := by
  by_cases h : c.toNat < 32 ∨ 126 < c.toNat
  · rw [qB_num h, List.cons_append, rt_esc (three_esc c R)]
    rfl
  · by_cases h1 : c.toNat = 34 ∨ c.toNat = 92
    · rw [qB_esc h h1]
      have hd : Nm.digB c = false := by simp [Nm.digB]; omega
      show readTextL (92 :: (c :: R)) = _
      rw [rt_esc (Nm.esc_byte R hd)]
      rfl
    · rw [qB_own h h1]
      exact rt_cons (by omega)
theorem rt_all : ∀ l : List UInt8, readTextL (qL l) = some l := by
  intro l
  induction l with
  | nil => rfl
  | cons c r ih =>
    have : qL (c :: r) = qB c ++ qL r := by simp [qL]
    rw [this, rt_one, ih]; rfl
theorem text_inner (s : ByteArray) : (showTextS s).extract 1 ((showTextS s).size - 1) = ⟨(qL s.data.toList).toArray⟩ := by
  have hz : (showTextS s).size = (qL s.data.toList).length + 2 := by
    show (34 :: qL s.data.toList ++ [34]).toArray.size = _
    simp
  apply Nm.ba_ext
  simp only [ByteArray.data_extract, Array.toList_extract, List.extract_eq_take_drop]
  rw [hz]
  simp [showTextS]
theorem text_back (s : ByteArray) : readTextR ((showTextS s).extract 1 ((showTextS s).size - 1)) = (s, 0) := by
  have hs : (⟨s.data.toList.toArray⟩ : ByteArray) = s := by apply Nm.ba_ext; simp
  rw [text_inner, readTextR]
  show (match readTextL (qL s.data.toList).toArray.toList with
    | none => _
    | some l => _) = _
  simp only [rt_all]
  all_goals rw [hs]
theorem text_two (s : ByteArray) : 2 ≤ (showTextS s).size ∧ (showTextS s).size ≤ 4 * s.size + 2 := by
  have hz : (showTextS s).size = (qL s.data.toList).length + 2 := by
    show (34 :: qL s.data.toList ++ [34]).toArray.size = _
    simp
  have := qL_len s.data.toList
  have h2 : s.data.toList.length = s.size := by simp
  omega
end Go.Proofs.YtjokdmmlofbknaaDoor
/- Type maps out of types: mathematics. -/
namespace Go.Proofs.YtjokdmmlofbknaaDoor
open Go.RowKit

def memB (l : List Int) (t : Nat) : Bool := decide ((t : Int) ∈ l)
def okT (l : List Int) : Bool := l.all fun t => decide (0 ≤ t) && decide (t ≤ 65535)

def byteF (S : Nat → Bool) (base : Nat) : Nat → Nat
  | 0 => 0
  | i + 1 => byteF S base i * 2 + (S (base + i)).toNat
def byteS (S : Nat → Bool) (k : Nat) : Nat := byteF S (8 * k) 8

theorem byteF_lt (S : Nat → Bool) (base i : Nat) : byteF S base i < 2 ^ i := by
  induction i with
  | zero => simp [byteF]
  | succ i ih =>
    rw [byteF, Nat.pow_succ]
    cases S (base + i) <;> simp <;> omega
theorem byteS_lt (S : Nat → Bool) (k : Nat) : byteS S k < 256 := byteF_lt S (8 * k) 8

/-- How many elements are left when the noughts behind are taken off. -/
def trim (f : Nat → Nat) : Nat → Nat
  | 0 => 0
  | m + 1 => if f m = 0 then trim f m else m + 1
theorem trim_le (f : Nat → Nat) (m : Nat) : trim f m ≤ m := by
  induction m with
  | zero => simp [trim]
  | succ m ih => rw [trim]; split <;> omega

def blkN (S : Nat → Bool) (w : Nat) : Nat := trim (fun k => byteS S (32 * w + k)) 32
def blkB (S : Nat → Bool) (w n : Nat) : List UInt8 := (List.range n).map fun k => UInt8.ofNat (byteS S (32 * w + k))
def blkOut (S : Nat → Bool) (w : Nat) : List UInt8 := if blkN S w = 0 then [] else UInt8.ofNat w :: UInt8.ofNat (blkN S w) :: blkB S w (blkN S w)
def outTo (S : Nat → Bool) (w : Nat) : List UInt8 := (List.range w).flatMap (blkOut S)

theorem blkN_le (S : Nat → Bool) (w : Nat) : blkN S w ≤ 32 := trim_le _ _
theorem blkB_len (S : Nat → Bool) (w n : Nat) : (blkB S w n).length = n := by simp [blkB]
theorem blkB_succ (S : Nat → Bool) (w n : Nat) : blkB S w (n + 1) = blkB S w n ++ [UInt8.ofNat (byteS S (32 * w + n))] := by simp [blkB, List.range_succ]
theorem outTo_zero (S : Nat → Bool) {w : Nat} (h : blkN S w = 0) : outTo S (w + 1) = outTo S w := by simp [outTo, List.range_succ, blkOut, h]
theorem outTo_more (S : Nat → Bool) {w : Nat} (h : blkN S w ≠ 0) : outTo S (w + 1) = outTo S w ++ ([UInt8.ofNat w, UInt8.ofNat (blkN S w)] ++ blkB S w (blkN S w)) := by simp [outTo, List.range_succ, blkOut, h]
theorem outTo_len (S : Nat → Bool) (w : Nat) : (outTo S w).length ≤ 34 * w := by
  induction w with
  | zero => simp [outTo]
  | succ w ih =>
    have hn := blkN_le S w
    by_cases h : blkN S w = 0
    · rw [outTo_zero S h]; omega
    · rw [outTo_more S h]
      simp only [List.length_append, List.length_cons, List.length_nil, blkB_len]
      omega
theorem blkB_take (S : Nat → Bool) (w m n : Nat) (h : n ≤ m) : (blkB S w m).take n = blkB S w n := by
  rw [blkB, blkB, ← List.map_take, List.take_range, Nat.min_eq_left h]

def mapR (l : List Int) : ByteArray × Int := if okT l then (⟨(outTo (memB l) 256).toArray⟩, 0) else (⟨#[]⟩, 6)

theorem mapR_bad {l : List Int} {k : Nat} {t : Int} (h : l[k]? = some t) (ht : t < 0 ∨ 65535 < t) : mapR l = (⟨#[]⟩, 6) := by
  have : okT l = false := by
    rw [okT, List.all_eq_false]
    refine ⟨t, List.mem_of_getElem? h, ?_⟩
    simp; omega
  rw [mapR, this]; rfl
theorem mapR_good {l : List Int} (h : ∀ t ∈ l, 0 ≤ t ∧ t ≤ 65535) : mapR l = (⟨(outTo (memB l) 256).toArray⟩, 0) := by
  have : okT l = true := by
    rw [okT, List.all_eq_true]
    intro t ht
    have := h t ht
    simp; omega
  rw [mapR, this]; rfl

theorem memB_step {l : List Int} {k : Nat} {t : Int} (h : l[k]? = some t) (j : Nat) (ht : 0 ≤ t) : memB (l.take (k + 1)) j = if j = t.toNat then true else memB (l.take k) j := by
  rw [memB, Nm.take_step h]
  by_cases hj : j = t.toNat
  · subst hj
    rw [if_pos rfl]
    have : ((t.toNat : Nat) : Int) = t := by omega
    simp [this]
  · rw [if_neg hj]
    have hne : (j : Int) ≠ t := by omega
    simp [memB, hne]
theorem memB_nil (j : Nat) : memB [] j = false := by simp [memB]
end Go.Proofs.YtjokdmmlofbknaaDoor
/- Setting a bit in a map's bytes: mathematics. -/
namespace Go.Proofs.YtjokdmmlofbknaaDoor
open Go.RowKit

def b8 (b0 b1 b2 b3 b4 b5 b6 b7 : Bool) : Nat := (((((((0 * 2 + b0.toNat) * 2 + b1.toNat) * 2 + b2.toNat) * 2 + b3.toNat) * 2 + b4.toNat) * 2 + b5.toNat) * 2 + b6.toNat) * 2 + b7.toNat

theorem byteS_b8 (S : Nat → Bool) (k : Nat) : byteS S k = b8 (S (8 * k + 0)) (S (8 * k + 1)) (S (8 * k + 2)) (S (8 * k + 3)) (S (8 * k + 4)) (S (8 * k + 5)) (S (8 * k + 6)) (S (8 * k + 7)) := rfl

theorem b8_0 : ∀ b0 b1 b2 b3 b4 b5 b6 b7 : Bool, b8 true b1 b2 b3 b4 b5 b6 b7 = b8 b0 b1 b2 b3 b4 b5 b6 b7 ||| 128 := by decide
theorem b8_1 : ∀ b0 b1 b2 b3 b4 b5 b6 b7 : Bool, b8 b0 true b2 b3 b4 b5 b6 b7 = b8 b0 b1 b2 b3 b4 b5 b6 b7 ||| 64 := by decide
theorem b8_2 : ∀ b0 b1 b2 b3 b4 b5 b6 b7 : Bool, b8 b0 b1 true b3 b4 b5 b6 b7 = b8 b0 b1 b2 b3 b4 b5 b6 b7 ||| 32 := by decide
theorem b8_3 : ∀ b0 b1 b2 b3 b4 b5 b6 b7 : Bool, b8 b0 b1 b2 true b4 b5 b6 b7 = b8 b0 b1 b2 b3 b4 b5 b6 b7 ||| 16 := by decide
theorem b8_4 : ∀ b0 b1 b2 b3 b4 b5 b6 b7 : Bool, b8 b0 b1 b2 b3 true b5 b6 b7 = b8 b0 b1 b2 b3 b4 b5 b6 b7 ||| 8 := by decide
theorem b8_5 : ∀ b0 b1 b2 b3 b4 b5 b6 b7 : Bool, b8 b0 b1 b2 b3 b4 true b6 b7 = b8 b0 b1 b2 b3 b4 b5 b6 b7 ||| 4 := by decide
theorem b8_6 : ∀ b0 b1 b2 b3 b4 b5 b6 b7 : Bool, b8 b0 b1 b2 b3 b4 b5 true b7 = b8 b0 b1 b2 b3 b4 b5 b6 b7 ||| 2 := by decide
theorem b8_7 : ∀ b0 b1 b2 b3 b4 b5 b6 b7 : Bool, b8 b0 b1 b2 b3 b4 b5 b6 true = b8 b0 b1 b2 b3 b4 b5 b6 b7 ||| 1 := by decide

theorem byteS_or {S S' : Nat → Bool} {n : Nat} (h : ∀ j, S' j = if j = n then true else S j) : byteS S' (n / 8) = byteS S (n / 8) ||| 2 ^ (7 - n % 8) := by
  have hn : n = 8 * (n / 8) + n % 8 := by omega
  have hr : n % 8 < 8 := by omega
  generalize hk : n / 8 = k at *
  generalize n % 8 = r at *
  rw [byteS_b8, byteS_b8]
  have hother : ∀ i, i ≠ r → S' (8 * k + i) = S (8 * k + i) := by
    intro i hi
    rw [h, if_neg (by omega)]
  have hself : S' (8 * k + r) = true := by rw [h, if_pos (by omega)]
  obtain rfl | rfl | rfl | rfl | rfl | rfl | rfl | rfl : r = 0 ∨ r = 1 ∨ r = 2 ∨ r = 3 ∨ r = 4 ∨ r = 5 ∨ r = 6 ∨ r = 7 := by omega
  · rw [hself, hother 1 (by decide), hother 2 (by decide), hother 3 (by decide), hother 4 (by decide), hother 5 (by decide), hother 6 (by decide), hother 7 (by decide)]
    exact b8_0 _ _ _ _ _ _ _ _
  · rw [hself, hother 0 (by decide), hother 2 (by decide), hother 3 (by decide), hother 4 (by decide), hother 5 (by decide), hother 6 (by decide), hother 7 (by decide)]
    exact b8_1 _ _ _ _ _ _ _ _
  · rw [hself, hother 0 (by decide), hother 1 (by decide), hother 3 (by decide), hother 4 (by decide), hother 5 (by decide), hother 6 (by decide), hother 7 (by decide)]
    exact b8_2 _ _ _ _ _ _ _ _
  · rw [hself, hother 0 (by decide), hother 1 (by decide), hother 2 (by decide), hother 4 (by decide), hother 5 (by decide), hother 6 (by decide), hother 7 (by decide)]
    exact b8_3 _ _ _ _ _ _ _ _
  · rw [hself, hother 0 (by decide), hother 1 (by decide), hother 2 (by decide), hother 3 (by decide), hother 5 (by decide), hother 6 (by decide), hother 7 (by decide)]
    exact b8_4 _ _ _ _ _ _ _ _
  · rw [hself, hother 0 (by decide), hother 1 (by decide), hother 2 (by decide), hother 3 (by decide), hother 4 (by decide), hother 6 (by decide), hother 7 (by decide)]
    exact b8_5 _ _ _ _ _ _ _ _
  · rw [hself, hother 0 (by decide), hother 1 (by decide), hother 2 (by decide), hother 3 (by decide), hother 4 (by decide), hother 5 (by decide), hother 7 (by decide)]
    exact b8_6 _ _ _ _ _ _ _ _
  · rw [hself, hother 0 (by decide), hother 1 (by decide), hother 2 (by decide), hother 3 (by decide), hother 4 (by decide), hother 5 (by decide), hother 6 (by decide)]
    exact b8_7 _ _ _ _ _ _ _ _

theorem byteS_else {S S' : Nat → Bool} {n k : Nat} (h : ∀ j, S' j = if j = n then true else S j) (hk : k ≠ n / 8) : byteS S' k = byteS S k := by
  have hj : ∀ i, i < 8 → S' (8 * k + i) = S (8 * k + i) := by
    intro i hi
    rw [h, if_neg (by omega)]
  rw [byteS_b8, byteS_b8, hj 0 (by decide), hj 1 (by decide), hj 2 (by decide), hj 3 (by decide), hj 4 (by decide), hj 5 (by decide), hj 6 (by decide), hj 7 (by decide)]

theorem half_pow {r : Nat} (h : r < 8) : (128 : Int) / 2 ^ r = ((2 ^ (7 - r) : Nat) : Int) ∧ 2 ^ (7 - r) < 256 := by
  obtain rfl | rfl | rfl | rfl | rfl | rfl | rfl | rfl : r = 0 ∨ r = 1 ∨ r = 2 ∨ r = 3 ∨ r = 4 ∨ r = 5 ∨ r = 6 ∨ r = 7 := by omega
  all_goals exact ⟨by decide, by decide⟩

theorem or_bit {S S' : Nat → Bool} {n : Nat} (h : ∀ j, S' j = if j = n then true else S j) : bits .or .u8 ((byteS S (n / 8) : Nat) : Int) ((128 : Int) / 2 ^ (n % 8)) = ((byteS S' (n / 8) : Nat) : Int) := by
  obtain ⟨e1, e2⟩ := half_pow (r := n % 8) (by omega)
  rw [e1, u8_or_nat _ _ (byteS_lt _ _) e2, byteS_or h]

theorem byteS_none (k : Nat) : byteS (memB []) k = 0 := by
  rw [byteS_b8]
  simp [memB_nil, b8]

theorem trim_stop {f : Nat → Nat} {m : Nat} (h : f m ≠ 0) : trim f (m + 1) = m + 1 := by rw [trim, if_neg h]
theorem trim_down {f : Nat → Nat} {m : Nat} (h : f m = 0) : trim f (m + 1) = trim f m := by rw [trim, if_pos h]
end Go.Proofs.YtjokdmmlofbknaaDoor
