import Derived.Test.YtephbegencpllaaGreatDoorJSdS
import Derived.Test.YtephbegencpllaaGreatDoorISd
import Derived.Test.YtephbegencpllaaGreatDoorJCutM
import Derived.Test.YtephbegencpllaaGreatDoorV6M
import Derived.Test.YtephbegencpllaaGreatDoorJSCheck
import Derived.Test.YtephbegencpllaaGreatDoorJTxtM
import Derived.Test.YtephbegencpllaaGreatDoorJSdG
/- How long the words of data are. -/
namespace Go.Proofs.YtephbegencpllaaGreatDoor
open Go.RowKit
set_option linter.unusedVariables false

/-- The bytes of words with a blank behind each. -/
def wlen (l : List ByteArray) : Nat := (l.map fun x => x.size + 1).sum
theorem wlen_cons (x : ByteArray) (l : List ByteArray) : wlen (x :: l) = x.size + 1 + wlen l := rfl
theorem tail_wlen : ∀ (r : List ByteArray), (Lib.joinTail [32] (r.map (·.data.toList))).length ≤ wlen r := by
  intro r
  induction r with
  | nil => simp [Lib.joinTail]
  | cons x r ih =>
    have hz : x.data.toList.length = x.size := by simp
    rw [wlen_cons]
    simp only [Lib.joinTail, List.map_cons, List.flatten_cons, List.length_append, List.length_cons, List.length_nil] at ih ⊢
    omega
theorem joinS_le (l : List ByteArray) : (joinS l).size ≤ wlen l := by
  show (Lib.join (l.map (·.data.toList)) [32]).toArray.size ≤ wlen l
  rw [List.size_toArray]
  cases l with
  | nil => simp [Lib.join_nil]
  | cons x r =>
    have ih := tail_wlen r
    have hz : x.data.toList.length = x.size := by simp
    rw [List.map_cons, Lib.join_cons, List.length_append, wlen_cons]
    omega

theorem showS_len (s : ByteArray) : (Nm.showS s).1.size ≤ 4 * s.size + 1 := by
  cases hs : Nm.split s with
  | none => rw [Nm.showS_none hs]; simp
  | some ls =>
    by_cases hn : ls = []
    · subst hn
      rw [Nm.showS_root hs]
      show 1 ≤ _
      omega
    · rw [Nm.showS_some hs hn]
      have h1 := Nm.showL_length ls
      have h2 := Nm.split_size hs
      show (Nm.showL ls).toArray.size ≤ _
      rw [List.size_toArray]
      omega

theorem dec_num {s : ByteArray} (h : s.size ≤ 6) : (decS (numL s.data.toList)).size ≤ 20 := by
  have h1 := numL_lt s.data.toList
  have h2 : s.data.toList.length ≤ 6 := by simpa using h
  have h3 : 256 ^ s.data.toList.length ≤ 256 ^ 6 := Nat.pow_le_pow_right (by decide) h2
  have := decL_len20 (n := numL s.data.toList) (by omega)
  show (decL _).toArray.size ≤ 20
  simpa using this

theorem wrT_len {S4 S6 : ByteArray → ByteArray × Int} (h4 : ∀ s, (S4 s).1.size ≤ 200) (h6 : ∀ s, (S6 s).1.size ≤ 200) {K : Nat} {d : ByteArray} (hK : K ≤ 12) (hd : d.size ≤ 65535) : (wrT S4 S6 K d).size ≤ 300000 := by
  match K with
  | 0 =>
    have := showS_len (d.extract 0 ((Dt.sz .nm d).getD 0))
    have h2 : (d.extract 0 ((Dt.sz .nm d).getD 0)).size ≤ d.size := by simp; omega
    simp only [wrT]; omega
  | 1 =>
    have := showText_len (d.extract 1 (1 + b0 d))
    have h2 : (d.extract 1 (1 + b0 d)).size ≤ d.size := by simp; omega
    simp only [wrT]; omega
  | 2 =>
    have h2 : (d.extract 1 (1 + b0 d)).size ≤ d.size := by simp; omega
    simp only [wrT]; omega
  | 3 =>
    have := showText_len d
    simp only [wrT]; omega
  | 4 => have := h4 (d.extract 0 4); simp only [wrT]; omega
  | 5 => have := h6 (d.extract 0 16); simp only [wrT]; omega
  | k + 6 =>
    have := dec_num (s := d.extract 0 k) (by simp; omega)
    simp only [wrT]; omega

theorem writeAll_len {S4 S6 : ByteArray → ByteArray × Int} (h4 : ∀ s, (S4 s).1.size ≤ 200) (h6 : ∀ s, (S6 s).1.size ≤ 200) : ∀ (ks : List Nat) (d : ByteArray), (∀ K ∈ ks, K ≤ 12) → d.size ≤ 65535 → wlen (writeAll S4 S6 ks d) ≤ 300001 * ks.length ∧ (writeAll S4 S6 ks d).length = ks.length := by
  intro ks
  induction ks with
  | nil => intro d _ _; exact ⟨Nat.zero_le _, rfl⟩
  | cons K ks ih =>
    intro d hK hd
    have h1 := wrT_len h4 h6 (hK K (by simp)) hd
    obtain ⟨h2, h3⟩ := ih (d.extract (wrN K d) d.size) (fun K h => hK K (by simp [h])) (by simp; omega)
    rw [writeAll, wlen_cons, List.length_cons, List.length_cons]
    exact ⟨by omega, by omega⟩

theorem many_len : ∀ (f : Nat) (r : ByteArray), okMany f r → wlen (manyT f r) ≤ 4 * r.size ∧ (manyT f r).length ≤ r.size := by
  intro f
  induction f with
  | zero => intro r _; exact ⟨Nat.zero_le _, Nat.zero_le _⟩
  | succ f ih =>
    intro r h
    rw [manyT]
    by_cases h0 : r.size = 0
    · rw [if_pos h0]; exact ⟨Nat.zero_le _, Nat.zero_le _⟩
    · rw [if_neg h0]
      rcases h with h | ⟨⟨h1, h2⟩, h3⟩
      · exact absurd h h0
      · obtain ⟨i1, i2⟩ := ih _ h3
        have ht := showText_len (r.extract 1 (1 + b0 r))
        have e1 : (r.extract 1 (1 + b0 r)).size = b0 r := by simp; omega
        have e2 : (r.extract (1 + b0 r) r.size).size = r.size - (1 + b0 r) := by simp
        rw [wlen_cons, List.length_cons]
        rw [e2] at i1 i2
        rw [e1] at ht
        exact ⟨by omega, by omega⟩

theorem ite_size {c : Prop} [Decidable c] {a b : ByteArray} (ha : a.size ≤ 30) (hb : b.size ≤ 30) : (if c then a else b).size ≤ 30 := by
  split
  · exact ha
  · exact hb

theorem showType_len (t : Int) : (showTypeS t).size ≤ 30 := by
  unfold showTypeS
  split
  · exact Nat.zero_le _
  · rename_i h
    split
    · have := decL_len20 (n := t.toNat) (by omega)
      have e : (decS t.toNat).size = (decL t.toNat).length := by show (decL _).toArray.size = _; simp
      have e4 : (⟨#[84, 89, 80, 69]⟩ : ByteArray).size = 4 := rfl
      rw [ByteArray.size_append]
      omega
    · unfold mnemS
      iterate 19 (refine ite_size (by decide) ?_)
      decide

theorem ty_wlen (l : List Int) : wlen (l.map showTypeS) ≤ 31 * l.length := by
  induction l with
  | nil => exact Nat.zero_le _
  | cons t l ih =>
    have := showType_len t
    rw [List.map_cons, wlen_cons, List.length_cons]
    omega

theorem tyWords_len (r : ByteArray) : wlen (tyWords r) ≤ 248 * r.size ∧ (tyWords r).length ≤ 8 * r.size := by
  have h1 := types_len (blocksS r)
  have h2 := blocksF_bits (r.size + 1) r
  have h3 : (mapL (mapS r) (typesOf (blocksS r))).length ≤ 8 * r.size := by
    unfold mapL
    split
    · rw [blocksS] at h1 ⊢; omega
    · simp
  have h4 := ty_wlen (mapL (mapS r) (typesOf (blocksS r)))
  unfold tyWords
  rw [List.length_map]
  exact ⟨by omega, h3⟩

theorem plain_len {d : ByteArray} (hd : d.size ≤ 65535) : wlen (plainWords d) ≤ 200000 ∧ (plainWords d).length ≤ 3 := by
  have h1 := decL_len20 (n := d.size) (by omega)
  have e1 : (decS d.size).size = (decL d.size).length := by show (decL _).toArray.size = _; simp
  have e2 : (⟨#[92, 35]⟩ : ByteArray).size = 2 := rfl
  have e3 : (⟨(byHex d.data.toList).toArray⟩ : ByteArray).size = 2 * d.size := by
    show (byHex d.data.toList).toArray.size = _
    rw [List.size_toArray, byHex_len]; simp
  unfold plainWords
  split
  · rw [wlen_cons, wlen_cons]
    exact ⟨by show _ + (_ + 0) ≤ _; omega, by simp⟩
  · rw [wlen_cons, wlen_cons, wlen_cons]
    exact ⟨by show _ + (_ + (_ + 0)) ≤ _; omega, by simp⟩

theorem data_len {S4 S6 : ByteArray → ByteArray × Int} (h4 : ∀ s, (S4 s).1.size ≤ 200) (h6 : ∀ s, (S6 s).1.size ≤ 200) {t : Int} {d : ByteArray} (hc : cutCode t d = 0) : (joinS (dataWords S4 S6 t d)).size ≤ 100000000 ∧ (dataWords S4 S6 t d).length ≤ 1000000 := by
  have hsp : (Dt.spans (Dt.implP t) 0 d).isSome = true ∧ d.size ≤ 65535 := by
    unfold cutCode at hc
    split at hc
    · cases hc
    · split at hc
      · cases hc
      · split at hc
        · exact ⟨by assumption, by omega⟩
        · cases hc
  obtain ⟨hsp, hd⟩ := hsp
  have hj := joinS_le (dataWords S4 S6 t d)
  unfold dataWords at hj ⊢
  cases hf : formOf t with
  | none =>
    simp only [hf] at hj
    obtain ⟨a, b⟩ := plain_len hd
    show (joinS (plainWords d)).size ≤ _ ∧ (plainWords d).length ≤ _
    exact ⟨by omega, by omega⟩
  | some F =>
    simp only [hf] at hj
    have hF : (t, F) ∈ formTab := by
      unfold formOf at hf
      cases hq : formTab.find? (fun x => x.1 == t) with
      | none => rw [hq] at hf; cases hf
      | some p =>
        rw [hq] at hf
        simp only [Option.map_some, Option.some.injEq] at hf
        have hm := List.mem_of_find?_eq_some hq
        have he := List.find?_some hq
        simp only [beq_iff_eq] at he
        rw [← he, ← hf]
        exact hm
    obtain ⟨k1, k2, k3⟩ := data_ok hF hsp
    rcases F with ks | b
    · have hall : (formTab.all fun x => match x.2 with | .inl ks => decide (ks.length ≤ 10) && ks.all (fun K => decide (K ≤ 12)) | .inr _ => true) = true := by decide
      have := List.all_eq_true.1 hall _ hF
      simp only [Bool.and_eq_true, decide_eq_true_eq, List.all_eq_true] at this
      obtain ⟨a, b⟩ := writeAll_len h4 h6 ks d this.2 hd
      simp only [formWords] at hj ⊢
      exact ⟨by omega, by omega⟩
    · cases b with
      | false =>
        obtain ⟨a, b⟩ := many_len _ _ (k2 rfl)
        simp only [formWords] at hj ⊢
        exact ⟨by omega, by omega⟩
      | true =>
        obtain ⟨k, hk⟩ := k3 rfl
        have hle := Dt.sz_le hk
        have hs := showS_len (d.extract 0 ((Dt.sz .nm d).getD 0))
        have e1 : (d.extract 0 ((Dt.sz .nm d).getD 0)).size ≤ d.size := by simp; omega
        obtain ⟨a, b⟩ := tyWords_len (d.extract ((Dt.sz .nm d).getD 0) d.size)
        have e2 : (d.extract ((Dt.sz .nm d).getD 0) d.size).size ≤ d.size := by simp
        simp only [formWords, wlen_cons, List.length_cons] at hj ⊢
        exact ⟨by omega, by omega⟩

theorem v4_len (s : ByteArray) : (showV4S s).1.size ≤ 200 := by
  unfold showV4S
  split
  · rename_i h
    simp only
    rw [v4Text_four h]
    have a := dec_small s[0].toNat_lt
    have b := dec_small s[1].toNat_lt
    have c := dec_small s[2].toNat_lt
    have e := dec_small s[3].toNat_lt
    have e1 : (⟨#[46]⟩ : ByteArray).size = 1 := rfl
    simp only [ByteArray.size_append]
    omega
  · exact Nat.zero_le _
theorem v6_len (s : ByteArray) : (showV6S s).1.size ≤ 200 := by
  unfold showV6S
  split
  · cases hf : spFind (zf s) with
    | none =>
      have := rowS_size s 0 8
      simp only
      omega
    | some r =>
      have a := rowS_size s 0 r.2
      have b := rowS_size s (r.2 + r.1) (8 - (r.2 + r.1))
      obtain ⟨n, i⟩ := r
      obtain ⟨_, _, hle⟩ := gap_some hf
      have e1 : (⟨#[58, 58]⟩ : ByteArray).size = 2 := rfl
      simp only [ByteArray.size_append] at a b ⊢
      omega
  · exact Nat.zero_le _
end Go.Proofs.YtephbegencpllaaGreatDoor
/- Noughts of an address: mathematics. -/
namespace Go.Proofs.YtephbegencpllaaGreatDoor
open Go.RowKit

def SpAt (z : Nat → Bool) (n i : Nat) : Prop := spFind z = (match spIn z n (9 - n - i) i with | some r => some r | none => spOut z (n - 1))
theorem sp_enter {z : Nat → Bool} {n : Nat} (h : spFind z = spOut z n) (hn : 2 ≤ n) : SpAt z n 0 := by
  obtain ⟨k, rfl⟩ : ∃ k, n = k + 2 := ⟨n - 2, by omega⟩
  rw [SpAt, h, spOut, Nat.sub_zero]
  rfl
theorem sp_hit {z : Nat → Bool} {n i : Nat} (h : SpAt z n i) (hi : i + n ≤ 8) (ha : allZ z i n = true) : spFind z = some (n, i) := by
  rw [SpAt, show 9 - n - i = (8 - n - i) + 1 by omega, spIn, if_pos ha] at h
  exact h
theorem sp_miss {z : Nat → Bool} {n i : Nat} (h : SpAt z n i) (hi : i + n ≤ 8) (ha : allZ z i n = false) : SpAt z n (i + 1) := by
  rw [SpAt, show 9 - n - i = (9 - n - (i + 1)) + 1 by omega, spIn, if_neg (by rw [ha]; simp)] at h
  exact h
theorem sp_exit {z : Nat → Bool} {n i : Nat} (h : SpAt z n i) (hi : 9 ≤ i + n) : spFind z = spOut z (n - 1) := by
  rw [SpAt, show 9 - n - i = 0 by omega, spIn] at h
  exact h
theorem sp_none {z : Nat → Bool} {n : Nat} (h : spFind z = spOut z n) (hn : n = 1) : spFind z = none := by rw [h, hn]; rfl

theorem grp_val {s : ByteArray} {j : Nat} (h : 2 * j + 1 < s.size) : grp s j = s[2 * j].toNat * 256 + s[2 * j + 1].toNat := by
  have e : (s.extract (2 * j) (2 * j + 2)).data.toList = [s[2 * j], s[2 * j + 1]] := by
    refine List.ext_getElem (by simp; omega) ?_
    intro i h1 h2
    have hi : i < 2 := by simpa using h2
    have e := ByteArray.getElem_extract (b := s) (start := 2 * j) (stop := 2 * j + 2) (i := i) (h := by simp; omega)
    have e2 : (s.extract (2 * j) (2 * j + 2)).data.toList[i] = s[2 * j + i]'(by omega) := e
    rw [e2]
    rcases i with _ | _ | i
    · rfl
    · rfl
    · omega
  rw [grp, e]
  simp [numL]
def zeros (m : Nat) : ByteArray := ⟨(List.replicate m 0).toArray⟩
theorem zeros_eq {s : ByteArray} {i n : Nat} (hs : s.size = 16) (h : i + n ≤ 8) : ((s.extract (2 * i) (2 * (i + n))).toList == (zeros (2 * n)).toList) = allZ (zf s) i n := by
  rw [Bool.eq_iff_iff, beq_iff_eq, allZ, List.all_eq_true, ByteArray.toList_eq, ByteArray.toList_eq]
  have hl : (s.extract (2 * i) (2 * (i + n))).data.toList.length = 2 * n := by simp; omega
  have hat : ∀ m (hm : m < 2 * n), (s.extract (2 * i) (2 * (i + n))).data.toList[m]'(by omega) = s[2 * i + m]'(by omega) := by
    intro m hm
    exact ByteArray.getElem_extract (b := s) (start := 2 * i) (stop := 2 * (i + n)) (i := m) (h := by simp; omega)
  constructor
  · intro e k hk
    have hk' : k < n := by simpa using hk
    have hz : ∀ m (hm : m < 2 * n), s[2 * i + m]'(by omega) = 0 := by
      intro m hm
      rw [← hat m hm]
      have := congrArg (fun l => l[m]?) e
      simp only [zeros] at this
      rw [List.getElem?_eq_getElem (by omega), List.getElem?_eq_getElem (by simp; omega)] at this
      simpa using this
    rw [zf_at s (i + k) (by omega), decide_eq_true_eq, grp_val (by omega)]
    have h0 := hz (2 * k) (by omega)
    have h1 := hz (2 * k + 1) (by omega)
    have e0 : s[2 * (i + k)]'(by omega) = 0 := by
      rw [← h0]; congr 1; omega
    have e1 : s[2 * (i + k) + 1]'(by omega) = 0 := by
      rw [← h1]; congr 1; omega
    rw [e0, e1]; rfl
  · intro hall
    refine List.ext_getElem (by rw [hl]; simp [zeros]) ?_
    intro m h1 h2
    have hm : m < 2 * n := by omega
    rw [hat m hm]
    simp only [zeros, List.getElem_replicate]
    have hk := hall (m / 2) (by simp; omega)
    rw [zf_at s (i + m / 2) (by omega), decide_eq_true_eq, grp_val (by omega)] at hk
    have a0 := (s[2 * (i + m / 2)]'(by omega)).toNat_lt
    have a1 := (s[2 * (i + m / 2) + 1]'(by omega)).toNat_lt
    rcases Nat.mod_two_eq_zero_or_one m with he | he
    · have e0 : s[2 * i + m]'(by omega) = s[2 * (i + m / 2)]'(by omega) := by congr 1; omega
      rw [e0]
      apply UInt8.toNat_inj.1
      simp; omega
    · have e0 : s[2 * i + m]'(by omega) = s[2 * (i + m / 2) + 1]'(by omega) := by congr 1; omega
      rw [e0]
      apply UInt8.toNat_inj.1
      simp; omega
theorem showV6_some {s : ByteArray} {n i : Nat} (h : s.size = 16) (hf : spFind (zf s) = some (n, i)) : showV6S s = (rowS s 0 i ++ ⟨#[58, 58]⟩ ++ rowS s (i + n) (8 - (i + n)), 0) := by rw [showV6S, if_pos h, hf]
theorem showV6_none {s : ByteArray} (h : s.size = 16) (hf : spFind (zf s) = none) : showV6S s = (rowS s 0 8, 0) := by rw [showV6S, if_pos h, hf]
theorem showV6_bad {s : ByteArray} (h : s.size ≠ 16) : showV6S s = (⟨#[]⟩, 7) := by rw [showV6S, if_neg h]
end Go.Proofs.YtephbegencpllaaGreatDoor
/- spec.l03Row by its contract. -/
namespace Go.Proofs.YtephbegencpllaaGreatDoor
open Go.RowKit

set_option maxRecDepth 100000 in
set_option maxHeartbeats 1600000 in
theorem l03Row_any (s : ByteArray) (a b : Nat) (w : World) (hs : s.size = 16) (hab : a ≤ b) (hb : b ≤ 8) :
    Calls Tryz.prog 27 #[.string s, .int .i64 (a : Int), .int .i64 (b : Int)] w fun e w' => e = .returned (.string (rowS s a (b - a))) ∧ ∃ m, w' = w.drewN m := by
  have hs' : (s.size : Int) = 16 := by omega
  obtain ⟨Z, HZ⟩ : ∃ Z, Hid (Z = rowS s a (b - a)) := ⟨_, rfl⟩
  rw [← HZ.out]
  go_enter Tryz.func27, Tryz.ntmps27
  go_wp2
  go_loopw [7, 8] (fun u v wr => ∃ k m : Nat, a + k ≤ b ∧ v = .int .i64 ((a : Int) + (k : Int)) ∧ u = .string (rowS s a k) ∧ wr = w.drewN m) (fun _ v _ => b - (intOf v).toNat)
  case atStart => exact ⟨0, 0, by omega, by go_num, rfl, rfl⟩
  case round =>
    obtain ⟨k, m, hk, rfl, rfl, rfl⟩ := hrel
    have hz := rowS_size s a k
    by_cases hlt : a + k < b
    · have hlt' : (a : Int) + (k : Int) < (b : Int) := by omega
      have hg := grp_lt s (a + k)
      have hx := hexS_size hg
      have hno := fun W => l02Num_any (s.extract (2 * (a + k)) (2 * (a + k) + 2)) W (by simp; omega)
      have hhx := fun W => l03HexOf_any (grp s (a + k)) W hg
      have e1 : numL (s.extract (2 * (a + k)) (2 * (a + k) + 2)).data.toList = grp s (a + k) := rfl
      rw [e1] at hno
      obtain ⟨E, HEE, hno⟩ : ∃ E, Hid (E = s.extract (2 * (a + k)) (2 * (a + k) + 2)) ∧ ∀ W, Calls Tryz.prog 13 #[.string E] W fun e w' => e = .returned (.int .i64 ((grp s (a + k) : Nat) : Int)) ∧ w' = W := ⟨_, rfl, hno⟩
      have hcut : s.extract (2 * ((a : Int) + (k : Int))).toNat (2 * ((a : Int) + (k : Int)) + 2).toNat = E := by
        rw [HEE.out]; congr 1
      by_cases h0 : 0 < k
      · have h0' : (a : Int) < (a : Int) + (k : Int) := by omega
        have HR : Hid (rowS s a (k + 1) = rowS s a k ++ ⟨#[58]⟩ ++ hexS (grp s (a + k))) := by show _ = _; rw [rowS, if_pos h0]
        clear e1
        generalize hexS (grp s (a + k)) = X at *
        generalize grp s (a + k) = G at *
        generalize rowS s a k = Y at *
        go_wp2_with (first | (go_at_call 13; refine (hno _).mono ?_; rintro e w1 ⟨rfl, hw⟩; obtain rfl : w.drewN m = w1 := hw.symm; clear hw) | (go_at_call 16; refine (hhx _).mono ?_; rintro e w1 ⟨rfl, m2, rfl⟩))
        go_roundw
        case rel => exact ⟨k + 1, m + m2, by omega, by go_num, by rw [HR.out], rfl⟩
        case measure => simp [intOf]; omega
      · have h0' : (a : Int) + (k : Int) ≤ (a : Int) := by omega
        have HR : Hid (rowS s a (k + 1) = rowS s a k ++ hexS (grp s (a + k))) := by show _ = _; rw [rowS, if_neg h0]
        clear e1
        generalize hexS (grp s (a + k)) = X at *
        generalize grp s (a + k) = G at *
        generalize rowS s a k = Y at *
        go_wp2_with (first | (go_at_call 13; refine (hno _).mono ?_; rintro e w1 ⟨rfl, hw⟩; obtain rfl : w.drewN m = w1 := hw.symm; clear hw) | (go_at_call 16; refine (hhx _).mono ?_; rintro e w1 ⟨rfl, m2, rfl⟩))
        go_roundw
        case rel => exact ⟨k + 1, m + m2, by omega, by go_num, by rw [HR.out], rfl⟩
        case measure => simp [intOf]; omega
    · have hlt' : (b : Int) ≤ (a : Int) + (k : Int) := by omega
      have e : b - a = k := by omega
      have HN : Hid (Z = rowS s a k) := by show _ = _; rw [HZ.out, e]
      clear e
      go_wp2
      go_ret
      rw [HN.out]
      exact ⟨rfl, _, rfl⟩
end Go.Proofs.YtephbegencpllaaGreatDoor
