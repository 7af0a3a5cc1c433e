import Derived.Test.YtechmpdfbpehiaaGreatDoorJICheck
import Derived.Test.YtechmpdfbpehiaaGreatDoorJMath
import Derived.Lib.Join
import Derived.Test.YtechmpdfbpehiaaGreatDoorJSdS
import Derived.Test.YtechmpdfbpehiaaGreatDoorJV4T
import Derived.Test.YtechmpdfbpehiaaGreatDoorJCRow
/- What ShowV6 answers: mathematics. -/
namespace Go.Proofs.YtechmpdfbpehiaaGreatDoor
open Go.RowKit

def allZ (z : Nat → Bool) (i n : Nat) : Bool := (List.range n).all fun k => z (i + k)
def spIn (z : Nat → Bool) (n : Nat) : Nat → Nat → Option (Nat × Nat)
  | 0, _ => none
  | f + 1, i => if allZ z i n = true then some (n, i) else spIn z n f (i + 1)
def spOut (z : Nat → Bool) : Nat → Option (Nat × Nat)
  | 0 => none
  | 1 => none
  | n + 2 => match spIn z (n + 2) (9 - (n + 2)) 0 with
    | some r => some r
    | none => spOut z (n + 1)
/-- The model's search. -/
def spFind (z : Nat → Bool) : Option (Nat × Nat) := spOut z 8
/-- The program's. -/
def gapStep (z : Nat → Bool) (k : Nat) (g : Nat × Nat × Nat) : Nat × Nat × Nat :=
  let st := if z k = true then g.1 else k + 1
  if g.2.2 - g.2.1 < k + 1 - st then (st, st, k + 1) else (st, g.2.1, g.2.2)
def gapF (z : Nat → Bool) : Nat → Nat × Nat × Nat
  | 0 => (0, 0, 0)
  | k + 1 => gapStep z k (gapF z k)

def zl (a b c d e f g h : Bool) : Nat → Bool := fun k => [a, b, c, d, e, f, g, h].getD k false
def gapOK (z : Nat → Bool) : Bool := match spFind z with
  | some r => decide ((gapF z 8).2 = (r.2, r.2 + r.1)) && decide (2 ≤ r.1) && decide (r.2 + r.1 ≤ 8)
  | none => decide ((gapF z 8).2.2 - (gapF z 8).2.1 < 2)
set_option maxRecDepth 100000 in
theorem gap_all : ∀ a b c d e f g h : Bool, gapOK (zl a b c d e f g h) = true := by decide +kernel

def zf (s : ByteArray) : Nat → Bool := zl (decide (grp s 0 = 0)) (decide (grp s 1 = 0)) (decide (grp s 2 = 0)) (decide (grp s 3 = 0)) (decide (grp s 4 = 0)) (decide (grp s 5 = 0)) (decide (grp s 6 = 0)) (decide (grp s 7 = 0))
theorem zf_at (s : ByteArray) (k : Nat) (h : k < 8) : zf s k = decide (grp s k = 0) := by
  match k, h with
  | 0, _ => rfl
  | 1, _ => rfl
  | 2, _ => rfl
  | 3, _ => rfl
  | 4, _ => rfl
  | 5, _ => rfl
  | 6, _ => rfl
  | 7, _ => rfl
theorem gap_some {s : ByteArray} {n i : Nat} (h : spFind (zf s) = some (n, i)) : (gapF (zf s) 8).2 = (i, i + n) ∧ 2 ≤ n ∧ i + n ≤ 8 := by
  have := gap_all (decide (grp s 0 = 0)) (decide (grp s 1 = 0)) (decide (grp s 2 = 0)) (decide (grp s 3 = 0)) (decide (grp s 4 = 0)) (decide (grp s 5 = 0)) (decide (grp s 6 = 0)) (decide (grp s 7 = 0))
  change gapOK (zf s) = true at this
  rw [gapOK, h] at this
  simp only [Bool.and_eq_true, decide_eq_true_eq] at this
  exact ⟨this.1.1, this.1.2, this.2⟩
theorem gap_none {s : ByteArray} (h : spFind (zf s) = none) : (gapF (zf s) 8).2.2 - (gapF (zf s) 8).2.1 < 2 := by
  have := gap_all (decide (grp s 0 = 0)) (decide (grp s 1 = 0)) (decide (grp s 2 = 0)) (decide (grp s 3 = 0)) (decide (grp s 4 = 0)) (decide (grp s 5 = 0)) (decide (grp s 6 = 0)) (decide (grp s 7 = 0))
  change gapOK (zf s) = true at this
  rw [gapOK, h] at this
  simpa using this
theorem gapF_le (z : Nat → Bool) : ∀ k, (gapF z k).1 ≤ k ∧ (gapF z k).2.1 ≤ (gapF z k).2.2 ∧ (gapF z k).2.2 ≤ k := by
  intro k
  induction k with
  | zero => simp [gapF]
  | succ k ih =>
    rw [gapF]
    generalize gapF z k = g at *
    unfold gapStep
    simp only
    split <;> split <;> simp only <;> omega

def showV6S (s : ByteArray) : ByteArray × Int := if s.size = 16 then (match spFind (zf s) with
    | some r => (rowS s 0 r.2 ++ ⟨#[58, 58]⟩ ++ rowS s (r.2 + r.1) (8 - (r.2 + r.1)), 0)
    | none => (rowS s 0 8, 0)) else (⟨#[]⟩, 7)

/-- The row of groups is their joining. -/
def grps (s : ByteArray) (a k : Nat) : List ByteArray := (List.range k).map fun j => hexS (grp s (a + j))
theorem joinTail_snoc (sep : List UInt8) (r : List (List UInt8)) (x : List UInt8) : Lib.joinTail sep (r ++ [x]) = Lib.joinTail sep r ++ (sep ++ x) := by simp [Lib.joinTail]
theorem join_snoc (sep : List UInt8) (r : List (List UInt8)) (x : List UInt8) : Lib.join (r ++ [x]) sep = if r.length = 0 then x else Lib.join r sep ++ sep ++ x := by
  cases r with
  | nil => simp [Lib.join_one]
  | cons y t => rw [List.cons_append, Lib.join_cons, joinTail_snoc, Lib.join_cons, if_neg (by simp)]; simp
theorem grps_len (s : ByteArray) (a k : Nat) : (grps s a k).length = k := by simp [grps]
theorem row_join (s : ByteArray) (a : Nat) : ∀ k, (rowS s a k).data.toList = Lib.join ((grps s a k).map (·.data.toList)) [58] := by
  intro k
  induction k with
  | zero => rfl
  | succ k ih =>
    have e : grps s a (k + 1) = grps s a k ++ [hexS (grp s (a + k))] := by simp [grps, List.range_succ]
    rw [e, List.map_append, List.map_cons, List.map_nil, join_snoc, List.length_map, grps_len, rowS]
    by_cases h : k = 0
    · subst h; simp [rowS]
    · rw [if_neg h, if_pos (by omega), ← ih]
      simp
theorem row_string (s : ByteArray) (a k : Nat) : (⟨(Lib.join ((grps s a k).map (·.data.toList)) [58]).toArray⟩ : ByteArray) = rowS s a k := by
  apply Nm.ba_ext
  rw [row_join]
theorem grps_take (s : ByteArray) {i : Nat} (h : i ≤ 8) : (grps s 0 8).take i = grps s 0 i := by
  simp only [grps, ← List.map_take]
  congr 1
  rw [List.take_range, Nat.min_eq_left h]
theorem grps_drop (s : ByteArray) (i : Nat) : (grps s 0 8).drop i = grps s i (8 - i) := by
  apply List.ext_getElem (by simp [grps])
  intro j h1 h2
  simp [grps]
theorem row_len (s : ByteArray) (a k : Nat) : (Lib.join ((grps s a k).map (·.data.toList)) [58]).length ≤ 5 * k := by
  rw [← row_join]
  have := rowS_size s a k
  simpa using this

theorem hex_zero {n : Nat} (h : n < 65536) : ((hexS n).toList == [48]) = decide (n = 0) := by
  rw [Bool.eq_iff_iff, beq_iff_eq, decide_eq_true_eq, ByteArray.toList_eq]
  show hexL n = [48] ↔ n = 0
  constructor
  · intro e
    by_cases h16 : n < 16
    · rw [hexL_small h16] at e
      have e1 : hexD n = 48 := by simpa using e
      have : ∀ k, k < 16 → hexD k = 48 → k = 0 := by decide
      exact this n h16 e1
    · exfalso
      rw [hexL_step h16] at e
      have hl := congrArg List.length e
      have : 1 ≤ (hexL (n / 16)).length := by
        by_cases hh : n / 16 < 16
        · rw [hexL_small hh]; simp
        · rw [hexL_step hh]; simp
      simp at hl
      rw [hl] at this
      simp at this
  · intro e; subst e; rfl
end Go.Proofs.YtechmpdfbpehiaaGreatDoor
/- How long the words of data are. -/
namespace Go.Proofs.YtechmpdfbpehiaaGreatDoor
open Go.RowKit
set_option linter.unusedVariables false

/-- The bytes of words with a blank behind each. -/
def wlen (l : List ByteArray) : Nat := (l.map fun x => x.size + 1).sum
theorem wlen_cons (x : ByteArray) (l : List ByteArray) : wlen (x :: l) = x.size + 1 + wlen l := rfl
theorem tail_wlen : ∀ (r : List ByteArray), (Lib.joinTail [32] (r.map (·.data.toList))).length ≤ wlen r := by
  intro r
  induction r with
  | nil => simp [Lib.joinTail]
  | cons x r ih =>
    have hz : x.data.toList.length = x.size := by simp
    rw [wlen_cons]
    simp only [Lib.joinTail, List.map_cons, List.flatten_cons, List.length_append, List.length_cons, List.length_nil] at ih ⊢
    omega
theorem joinS_le (l : List ByteArray) : (joinS l).size ≤ wlen l := by
  show (Lib.join (l.map (·.data.toList)) [32]).toArray.size ≤ wlen l
  rw [List.size_toArray]
  cases l with
  | nil => simp [Lib.join_nil]
  | cons x r =>
    have ih := tail_wlen r
    have hz : x.data.toList.length = x.size := by simp
    rw [List.map_cons, Lib.join_cons, List.length_append, wlen_cons]
    omega

theorem showS_len (s : ByteArray) : (Nm.showS s).1.size ≤ 4 * s.size + 1 := by
  cases hs : Nm.split s with
  | none => rw [Nm.showS_none hs]; simp
  | some ls =>
    by_cases hn : ls = []
    · subst hn
      rw [Nm.showS_root hs]
      show 1 ≤ _
      omega
    · rw [Nm.showS_some hs hn]
      have h1 := Nm.showL_length ls
      have h2 := Nm.split_size hs
      show (Nm.showL ls).toArray.size ≤ _
      rw [List.size_toArray]
      omega

theorem dec_num {s : ByteArray} (h : s.size ≤ 6) : (decS (numL s.data.toList)).size ≤ 20 := by
  have h1 := numL_lt s.data.toList
  have h2 : s.data.toList.length ≤ 6 := by simpa using h
  have h3 : 256 ^ s.data.toList.length ≤ 256 ^ 6 := Nat.pow_le_pow_right (by decide) h2
  have := decL_len20 (n := numL s.data.toList) (by omega)
  show (decL _).toArray.size ≤ 20
  simpa using this

theorem wrT_len {S4 S6 : ByteArray → ByteArray × Int} (h4 : ∀ s, (S4 s).1.size ≤ 200) (h6 : ∀ s, (S6 s).1.size ≤ 200) {K : Nat} {d : ByteArray} (hK : K ≤ 12) (hd : d.size ≤ 65535) : (wrT S4 S6 K d).size ≤ 300000 := by
  match K with
  | 0 =>
    have := showS_len (d.extract 0 ((Dt.sz .nm d).getD 0))
    have h2 : (d.extract 0 ((Dt.sz .nm d).getD 0)).size ≤ d.size := by simp; omega
    simp only [wrT]; omega
  | 1 =>
    have := showText_len (d.extract 1 (1 + b0 d))
    have h2 : (d.extract 1 (1 + b0 d)).size ≤ d.size := by simp; omega
    simp only [wrT]; omega
  | 2 =>
    have h2 : (d.extract 1 (1 + b0 d)).size ≤ d.size := by simp; omega
    simp only [wrT]; omega
  | 3 =>
    have := showText_len d
    simp only [wrT]; omega
  | 4 => have := h4 (d.extract 0 4); simp only [wrT]; omega
  | 5 => have := h6 (d.extract 0 16); simp only [wrT]; omega
  | k + 6 =>
    have := dec_num (s := d.extract 0 k) (by simp; omega)
    simp only [wrT]; omega

theorem writeAll_len {S4 S6 : ByteArray → ByteArray × Int} (h4 : ∀ s, (S4 s).1.size ≤ 200) (h6 : ∀ s, (S6 s).1.size ≤ 200) : ∀ (ks : List Nat) (d : ByteArray), (∀ K ∈ ks, K ≤ 12) → d.size ≤ 65535 → wlen (writeAll S4 S6 ks d) ≤ 300001 * ks.length ∧ (writeAll S4 S6 ks d).length = ks.length := by
  intro ks
  induction ks with
  | nil => intro d _ _; exact ⟨Nat.zero_le _, rfl⟩
  | cons K ks ih =>
    intro d hK hd
    have h1 := wrT_len h4 h6 (hK K (by simp)) hd
    obtain ⟨h2, h3⟩ := ih (d.extract (wrN K d) d.size) (fun K h => hK K (by simp [h])) (by simp; omega)
    rw [writeAll, wlen_cons, List.length_cons, List.length_cons]
    exact ⟨by omega, by omega⟩

theorem many_len : ∀ (f : Nat) (r : ByteArray), okMany f r → wlen (manyT f r) ≤ 4 * r.size ∧ (manyT f r).length ≤ r.size := by
  intro f
  induction f with
  | zero => intro r _; exact ⟨Nat.zero_le _, Nat.zero_le _⟩
  | succ f ih =>
    intro r h
    rw [manyT]
    by_cases h0 : r.size = 0
    · rw [if_pos h0]; exact ⟨Nat.zero_le _, Nat.zero_le _⟩
    · rw [if_neg h0]
      rcases h with h | ⟨⟨h1, h2⟩, h3⟩
      · exact absurd h h0
      · obtain ⟨i1, i2⟩ := ih _ h3
        have ht := showText_len (r.extract 1 (1 + b0 r))
        have e1 : (r.extract 1 (1 + b0 r)).size = b0 r := by simp; omega
        have e2 : (r.extract (1 + b0 r) r.size).size = r.size - (1 + b0 r) := by simp
        rw [wlen_cons, List.length_cons]
        rw [e2] at i1 i2
        rw [e1] at ht
        exact ⟨by omega, by omega⟩

theorem ite_size {c : Prop} [Decidable c] {a b : ByteArray} (ha : a.size ≤ 30) (hb : b.size ≤ 30) : (if c then a else b).size ≤ 30 := by
  split
  · exact ha
  · exact hb

theorem showType_len (t : Int) : (showTypeS t).size ≤ 30 := by
  unfold showTypeS
  split
  · exact Nat.zero_le _
  · rename_i h
    split
    · have := decL_len20 (n := t.toNat) (by omega)
      have e : (decS t.toNat).size = (decL t.toNat).length := by show (decL _).toArray.size = _; simp
      have e4 : (⟨#[84, 89, 80, 69]⟩ : ByteArray).size = 4 := rfl
      rw [ByteArray.size_append]
      omega
    · unfold mnemS
      iterate 19 (refine ite_size (by decide) ?_)
      decide

theorem ty_wlen (l : List Int) : wlen (l.map showTypeS) ≤ 31 * l.length := by
  induction l with
  | nil => exact Nat.zero_le _
  | cons t l ih =>
    have := showType_len t
    rw [List.map_cons, wlen_cons, List.length_cons]
    omega

theorem tyWords_len (r : ByteArray) : wlen (tyWords r) ≤ 248 * r.size ∧ (tyWords r).length ≤ 8 * r.size := by
  have h1 := types_len (blocksS r)
  have h2 := blocksF_bits (r.size + 1) r
  have h3 : (mapL (mapS r) (typesOf (blocksS r))).length ≤ 8 * r.size := by
    unfold mapL
    split
    · rw [blocksS] at h1 ⊢; omega
    · simp
  have h4 := ty_wlen (mapL (mapS r) (typesOf (blocksS r)))
  unfold tyWords
  rw [List.length_map]
  exact ⟨by omega, h3⟩

theorem plain_len {d : ByteArray} (hd : d.size ≤ 65535) : wlen (plainWords d) ≤ 200000 ∧ (plainWords d).length ≤ 3 := by
  have h1 := decL_len20 (n := d.size) (by omega)
  have e1 : (decS d.size).size = (decL d.size).length := by show (decL _).toArray.size = _; simp
  have e2 : (⟨#[92, 35]⟩ : ByteArray).size = 2 := rfl
  have e3 : (⟨(byHex d.data.toList).toArray⟩ : ByteArray).size = 2 * d.size := by
    show (byHex d.data.toList).toArray.size = _
    rw [List.size_toArray, byHex_len]; simp
  unfold plainWords
  split
  · rw [wlen_cons, wlen_cons]
    exact ⟨by show _ + (_ + 0) ≤ _; omega, by simp⟩
  · rw [wlen_cons, wlen_cons, wlen_cons]
    exact ⟨by show _ + (_ + (_ + 0)) ≤ _; omega, by simp⟩

theorem data_len {S4 S6 : ByteArray → ByteArray × Int} (h4 : ∀ s, (S4 s).1.size ≤ 200) (h6 : ∀ s, (S6 s).1.size ≤ 200) {t : Int} {d : ByteArray} (hc : cutCode t d = 0) : (joinS (dataWords S4 S6 t d)).size ≤ 100000000 ∧ (dataWords S4 S6 t d).length ≤ 1000000 := by
  have hsp : (Dt.spans (Dt.implP t) 0 d).isSome = true ∧ d.size ≤ 65535 := by
    unfold cutCode at hc
    split at hc
    · cases hc
    · split at hc
      · cases hc
      · split at hc
        · exact ⟨by assumption, by omega⟩
        · cases hc
  obtain ⟨hsp, hd⟩ := hsp
  have hj := joinS_le (dataWords S4 S6 t d)
  unfold dataWords at hj ⊢
  cases hf : formOf t with
  | none =>
    simp only [hf] at hj
    obtain ⟨a, b⟩ := plain_len hd
    show (joinS (plainWords d)).size ≤ _ ∧ (plainWords d).length ≤ _
    exact ⟨by omega, by omega⟩
  | some F =>
    simp only [hf] at hj
    have hF : (t, F) ∈ formTab := by
      unfold formOf at hf
      cases hq : formTab.find? (fun x => x.1 == t) with
      | none => rw [hq] at hf; cases hf
      | some p =>
        rw [hq] at hf
        simp only [Option.map_some, Option.some.injEq] at hf
        have hm := List.mem_of_find?_eq_some hq
        have he := List.find?_some hq
        simp only [beq_iff_eq] at he
        rw [← he, ← hf]
        exact hm
    obtain ⟨k1, k2, k3⟩ := data_ok hF hsp
    rcases F with ks | b
    · have hall : (formTab.all fun x => match x.2 with | .inl ks => decide (ks.length ≤ 10) && ks.all (fun K => decide (K ≤ 12)) | .inr _ => true) = true := by decide
      have := List.all_eq_true.1 hall _ hF
      simp only [Bool.and_eq_true, decide_eq_true_eq, List.all_eq_true] at this
      obtain ⟨a, b⟩ := writeAll_len h4 h6 ks d this.2 hd
      simp only [formWords] at hj ⊢
      exact ⟨by omega, by omega⟩
    · cases b with
      | false =>
        obtain ⟨a, b⟩ := many_len _ _ (k2 rfl)
        simp only [formWords] at hj ⊢
        exact ⟨by omega, by omega⟩
      | true =>
        obtain ⟨k, hk⟩ := k3 rfl
        have hle := Dt.sz_le hk
        have hs := showS_len (d.extract 0 ((Dt.sz .nm d).getD 0))
        have e1 : (d.extract 0 ((Dt.sz .nm d).getD 0)).size ≤ d.size := by simp; omega
        obtain ⟨a, b⟩ := tyWords_len (d.extract ((Dt.sz .nm d).getD 0) d.size)
        have e2 : (d.extract ((Dt.sz .nm d).getD 0) d.size).size ≤ d.size := by simp
        simp only [formWords, wlen_cons, List.length_cons] at hj ⊢
        exact ⟨by omega, by omega⟩

theorem v4_len (s : ByteArray) : (showV4S s).1.size ≤ 200 := by
  unfold showV4S
  split
  · rename_i h
    simp only
    rw [v4Text_four h]
    have a := dec_small s[0].toNat_lt
    have b := dec_small s[1].toNat_lt
    have c := dec_small s[2].toNat_lt
    have e := dec_small s[3].toNat_lt
    have e1 : (⟨#[46]⟩ : ByteArray).size = 1 := rfl
    simp only [ByteArray.size_append]
    omega
  · exact Nat.zero_le _
theorem v6_len (s : ByteArray) : (showV6S s).1.size ≤ 200 := by
  unfold showV6S
  split
  · cases hf : spFind (zf s) with
    | none =>
      have := rowS_size s 0 8
      simp only
      omega
    | some r =>
      have a := rowS_size s 0 r.2
      have b := rowS_size s (r.2 + r.1) (8 - (r.2 + r.1))
      obtain ⟨n, i⟩ := r
      obtain ⟨_, _, hle⟩ := gap_some hf
      have e1 : (⟨#[58, 58]⟩ : ByteArray).size = 2 := rfl
      simp only [ByteArray.size_append] at a b ⊢
      omega
  · exact Nat.zero_le _
end Go.Proofs.YtechmpdfbpehiaaGreatDoor
/- Records as they come in: mathematics. -/
namespace Go.Proofs.YtechmpdfbpehiaaGreatDoor
open Go.RowKit
set_option linter.unusedVariables false

/-- A record: its owner, type, class, time and data. -/
structure Rr where
  own : ByteArray
  ty : Int
  cl : Int
  tt : Int
  da : ByteArray

def rvV (r : Rr) : List Value := [.string r.own, .int .i64 r.ty, .int .i64 r.cl, .int .i64 r.tt, .string r.da]
def rvVs (xs : List Rr) : List Value := xs.flatMap rvV
theorem rvVs_cons (x : Rr) (xs : List Rr) : rvVs (x :: xs) = rvV x ++ rvVs xs := by simp [rvVs]
theorem rvVs_app (a b : List Rr) : rvVs (a ++ b) = rvVs a ++ rvVs b := by simp [rvVs]
theorem rvVs_len (xs : List Rr) : (rvVs xs).length = xs.length * 5 := by
  induction xs with
  | nil => rfl
  | cons x xs ih =>
    have : (rvV x).length = 5 := rfl
    rw [rvVs_cons, List.length_append, ih, List.length_cons, this]; omega

theorem rvVs_at : ∀ (xs : List Rr) (k j : Nat) (x : Rr), xs[k]? = some x → j < 5 → (rvVs xs)[k * 5 + j]? = (rvV x)[j]? := by
  intro xs
  induction xs with
  | nil => intro k j x h; simp at h
  | cons y xs ih =>
    intro k j x h hj
    have hl : (rvV y).length = 5 := rfl
    cases k with
    | zero =>
      simp at h; subst h
      rw [rvVs_cons, Nat.zero_mul, Nat.zero_add, List.getElem?_append_left (by omega)]
    | succ k =>
      simp at h
      rw [rvVs_cons, List.getElem?_append_right (by omega), hl, show (k + 1) * 5 + j - 5 = k * 5 + j by omega]
      exact ih k j x h hj

theorem rv_cells {w : World} {xs : List Rr} {b off k : Nat} {x : Rr} (hc : ∀ (i : Nat) (y : Value), (rvVs xs)[i]? = some y → w.cell? ⟨b, off + i, none⟩ = some y) (h : xs[k]? = some x) :
    w.cell? ⟨b, off + k * 5, none⟩ = some (.string x.own) ∧ w.cell? ⟨b, off + k * 5 + 1, none⟩ = some (.int .i64 x.ty) ∧ w.cell? ⟨b, off + k * 5 + 2, none⟩ = some (.int .i64 x.cl) ∧ w.cell? ⟨b, off + k * 5 + 3, none⟩ = some (.int .i64 x.tt) ∧ w.cell? ⟨b, off + k * 5 + 4, none⟩ = some (.string x.da) :=
  ⟨hc (k * 5) _ ((rvVs_at xs k 0 x h (by decide)).trans rfl), hc (k * 5 + 1) _ ((rvVs_at xs k 1 x h (by decide)).trans rfl), hc (k * 5 + 2) _ ((rvVs_at xs k 2 x h (by decide)).trans rfl), hc (k * 5 + 3) _ ((rvVs_at xs k 3 x h (by decide)).trans rfl), hc (k * 5 + 4) _ ((rvVs_at xs k 4 x h (by decide)).trans rfl)⟩

/-- The bytes of records, as the laws count them. -/
def rsum : List Rr → Nat
  | [] => 0
  | x :: xs => x.own.size + x.da.size + rsum xs
theorem rsum_step : ∀ (xs : List Rr) (k : Nat) (x : Rr), xs[k]? = some x → rsum (xs.take (k + 1)) = rsum (xs.take k) + (x.own.size + x.da.size) := by
  intro xs
  induction xs with
  | nil => intro k x h; simp at h
  | cons y xs ih =>
    intro k x h
    cases k with
    | zero => simp at h; subst h; simp [rsum]
    | succ k =>
      simp at h
      have := ih k x h
      simp only [List.take_succ_cons, rsum]; omega
theorem rsum_take_le : ∀ (xs : List Rr) (k : Nat), rsum (xs.take k) ≤ rsum xs := by
  intro xs
  induction xs with
  | nil => intro k; simp [rsum]
  | cons y xs ih =>
    intro k
    cases k with
    | zero => simp [rsum]
    | succ k => have := ih k; simp only [List.take_succ_cons, rsum]; omega
theorem rsum_mem : ∀ (xs : List Rr) (x : Rr), x ∈ xs → x.own.size + x.da.size ≤ rsum xs := by
  intro xs
  induction xs with
  | nil => intro x h; simp at h
  | cons y xs ih =>
    intro x h
    rcases List.mem_cons.1 h with rfl | h
    · simp only [rsum]; omega
    · have := ih x h; simp only [rsum]; omega
def szRS (xs : List Rr) (L : Int) : Int := if (xs.length : Int) + (rsum xs : Int) ≤ L then L - xs.length - rsum xs else -1
end Go.Proofs.YtechmpdfbpehiaaGreatDoor
