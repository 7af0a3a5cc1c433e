import Derived.Test.YtephbegencpllaaGreatDoorSdF
import Derived.Test.YtephbegencpllaaGreatDoorJSCheck
import Derived.Test.YtephbegencpllaaGreatDoorJTxtM
/- The model's words, type by type. -/
namespace Go.Proofs.YtephbegencpllaaGreatDoor
open Go.RowKit
set_option linter.unusedVariables false

/-- The script fits the kinds of words. -/
def scB (ks : List Nat) (sc : List UInt8) : Bool := (List.range ks.length).all fun j => match ks[j]? with
  | none => true
  | some K => if K < 7 then true else match sc[j]? with
    | none => false
    | some c => widthOf c == K - 6

theorem scB_ok {ks : List Nat} {sc : ByteArray} (h : scB ks sc.data.toList = true) : ∀ j K, ks[j]? = some K → 7 ≤ K → ∃ c, sc.data.toList[([] : List ByteArray).length + j]? = some c ∧ widthOf c = K - 6 := by
  intro j K h1 h2
  have hj : j < ks.length := (List.getElem?_eq_some_iff.1 h1).1
  have := List.all_eq_true.1 h j (List.mem_range.2 hj)
  simp only [h1, if_neg (show ¬ K < 7 by omega)] at this
  cases hc : sc.data.toList[j]? with
  | none => rw [hc] at this; cases this
  | some c =>
    rw [hc] at this
    exact ⟨c, by simpa using hc, by simpa using this⟩

theorem ext_all (d : ByteArray) : d.extract 0 d.size = d := by simp

theorem kinds_rest {S4 S6 : ByteArray → ByteArray × Int} {t : Int} {d : ByteArray} {ps : List ByteArray} (ks : List Nat) (hd : d.size ≤ 65535) (hps : Dt.parts (Dt.specP t) d = some ps) (hfm : (Dt.formS t).data.toList = (ks.map lets).flatten) (hsc : scB ks (scriptS t).data.toList = true) (hK : ∀ K ∈ ks, K = 0 ∨ K = 1 ∨ (7 ≤ K ∧ K ≤ 10)) (hl : ks.length ≤ 30) (hf : formOf t = some (.inl ks)) :
    ∃ R, Rest (Dt.formS t) (scriptS t) d ps R 30 0 0 [] ∧ joinS R = joinS (dataWords S4 S6 t d) ∧ R.length ≤ (dataWords S4 S6 t d).length + 1 := by
  have e : dataWords S4 S6 t d = writeAll S4 S6 ks d := by rw [dataWords, hf]; rfl
  rw [e]
  refine ⟨writeAll S4 S6 ks d, ?_, rfl, by omega⟩
  rw [Dt.specP, hfm] at hps
  refine rest_kinds (S4 := S4) (S6 := S6) hd ks 30 0 0 [] hK (Nat.zero_le _) (by simpa using hfm) (scB_ok hsc) ?_ hl (Nat.zero_le _) ?_
  · rw [ext_all]; simpa using hps
  · rw [ext_all]; rfl

theorem parts_nil {d : ByteArray} {l : List ByteArray} (h : Dt.parts [] d = some l) : d.size = 0 ∧ l = [] := by
  rw [Dt.parts] at h
  split at h
  · rename_i hz
    simp at h
    exact ⟨hz, h⟩
  · cases h

theorem sd16_rest {S4 S6 : ByteArray → ByteArray × Int} {d : ByteArray} {ps : List ByteArray} (hd : d.size ≤ 65535) (hps : Dt.parts (Dt.specP 16) d = some ps) :
    ∃ R, Rest (Dt.formS 16) (scriptS 16) d ps R 30 0 0 [] ∧ joinS R = joinS (dataWords S4 S6 16 d) ∧ R.length ≤ (dataWords S4 S6 16 d).length + 1 := by
  have e : dataWords S4 S6 16 d = manyT d.size d := by rw [dataWords, show formOf 16 = some (.inr false) from rfl]; rfl
  rw [e]
  rw [show Dt.specP 16 = [.txs] from by simp [Dt.specP, Dt.formS, Dt.letP]] at hps
  obtain ⟨n, l, h1, h2, rfl⟩ := parts_cons hps
  obtain ⟨h3, rfl⟩ := parts_nil h2
  have hn := Dt.sz_le h1
  have hnn : n = d.size := by simp at h3; omega
  subst hnn
  have hok : okMany d.size d := by
    simp only [Dt.sz] at h1
    split at h1
    · cases h1
    · simp at h1
      exact txs_many _ _ (Nat.le_refl _) h1
  refine ⟨[joinS (manyT d.size d)], ?_, joinS_one _, by simp⟩
  refine rest_sh 115 d (joinS (manyT d.size d)) (by decide) (by rw [ext_all]; rfl) ⟨hd, .inr (.inr (.inl ⟨rfl, hok, rfl⟩))⟩ ?_
  exact rest_end (by decide) rfl

theorem nsec_rest {S4 S6 : ByteArray → ByteArray × Int} {d : ByteArray} {ps : List ByteArray} (hd : d.size ≤ 65535) (hps : Dt.parts (Dt.specP 47) d = some ps) :
    ∃ R, Rest (Dt.formS 47) (scriptS 47) d ps R 30 0 0 [] ∧ joinS R = joinS (dataWords S4 S6 47 d) ∧ R.length ≤ (dataWords S4 S6 47 d).length + 1 := by
  rw [show Dt.specP 47 = [.nm, .mp] from by simp [Dt.specP, Dt.formS, Dt.letP]] at hps
  obtain ⟨n, l, h1, h2, rfl⟩ := parts_cons hps
  obtain ⟨n2, l2, h3, h4, rfl⟩ := parts_cons h2
  obtain ⟨h5, rfl⟩ := parts_nil h4
  have hn := Dt.sz_le h1
  have hn2 := Dt.sz_le h3
  have hs2 : (d.extract n d.size).size = d.size - n := by simp
  have hnn : n2 = (d.extract n d.size).size := by simp at h5; omega
  subst hnn
  have e : dataWords S4 S6 47 d = (Nm.showS (d.extract 0 n)).1 :: tyWords (d.extract n d.size) := by
    rw [dataWords, show formOf 47 = some (.inr true) from rfl]
    simp only [formWords, h1, Option.getD_some]
  rw [e]
  refine ⟨_, ?_, rfl, Nat.le_succ _⟩
  have hz1 : (d.extract 0 n).size = n := by simp; omega
  refine rest_sh 110 (d.extract 0 n) (Nm.showS (d.extract 0 n)).1 (by decide) rfl ⟨by omega, .inl ⟨rfl, rfl⟩⟩ ?_
  refine rest_mp (d.extract n d.size) (by decide) (by rw [ext_all]; rfl) (by omega) ?_
  exact rest_end (by decide) rfl

theorem caa_rest {S4 S6 : ByteArray → ByteArray × Int} {d : ByteArray} {ps : List ByteArray} (hd : d.size ≤ 65535) (hps : Dt.parts (Dt.specP 257) d = some ps) :
    ∃ R, Rest (Dt.formS 257) (scriptS 257) d ps R 30 0 0 [] ∧ joinS R = joinS (dataWords S4 S6 257 d) ∧ R.length ≤ (dataWords S4 S6 257 d).length + 1 := by
  rw [show Dt.specP 257 = [.bs 1, .tagr] from by simp [Dt.specP, Dt.formS, Dt.letP]] at hps
  obtain ⟨n, l, h1, h2, rfl⟩ := parts_cons hps
  obtain ⟨hn, rfl⟩ := sz_bs h1
  obtain ⟨n2, l2, h3, h4, rfl⟩ := parts_cons h2
  obtain ⟨h5, rfl⟩ := parts_nil h4
  have hn2 := Dt.sz_le h3
  have hs2 : (d.extract 1 d.size).size = d.size - 1 := by simp
  have hnn : n2 = (d.extract 1 d.size).size := by simp at h5; omega
  subst hnn
  have htg : (0 < (d.extract 1 d.size).size ∧ 1 + b0 (d.extract 1 d.size) ≤ (d.extract 1 d.size).size) := by
    have : Dt.tagB (d.extract 1 d.size) = true := by
      simp only [Dt.sz] at h3
      split at h3
      · assumption
      · cases h3
    exact (sz_tag (n := (Dt.txtS (d.extract 1 d.size)).size) (by simp only [Dt.sz, this, if_true])).1
  have e : dataWords S4 S6 257 d = [decS (numL (d.extract 0 1).data.toList), (d.extract 1 d.size).extract 1 (1 + b0 (d.extract 1 d.size)), showTextS ((d.extract 1 d.size).extract (1 + b0 (d.extract 1 d.size)) (d.extract 1 d.size).size)] := by
    rw [dataWords, show formOf 257 = some (.inl [7, 2, 3]) from rfl]
    rfl
  rw [e]
  refine ⟨[decS (numL (d.extract 0 1).data.toList)] ++ [(d.extract 1 d.size).extract 1 (1 + b0 (d.extract 1 d.size)) ++ ⟨#[32]⟩ ++ showTextS ((d.extract 1 d.size).extract (1 + b0 (d.extract 1 d.size)) (d.extract 1 d.size).size)], ?_, joinS_more _ _ _, by simp⟩
  refine rest_num 49 1 (by decide) (by decide) (by decide) (by omega) (by decide) ?_
  refine rest_sh 99 (d.extract 1 d.size) _ (by decide) (by rw [ext_all]; rfl) ⟨by omega, .inr (.inr (.inr ⟨rfl, htg.1, htg.2, rfl⟩))⟩ ?_
  exact rest_end (by decide) rfl

theorem plain_rest {S4 S6 : ByteArray → ByteArray × Int} {t : Int} {d : ByteArray} {ps : List ByteArray} (hd : d.size ≤ 65535) (hps : Dt.parts (Dt.specP t) d = some ps) (hf : Dt.formS t = ⟨#[42]⟩) (hn : formOf t = none) :
    ∃ R, Rest (Dt.formS t) (scriptS t) d ps R 30 0 0 [] ∧ joinS R = joinS (dataWords S4 S6 t d) ∧ R.length ≤ (dataWords S4 S6 t d).length + 1 := by
  have e : dataWords S4 S6 t d = plainWords d := by rw [dataWords, hn]
  rw [e]
  rw [Dt.specP, hf, show ((⟨#[42]⟩ : ByteArray).data.toList.map Dt.letP) = [.rs] from by simp [Dt.letP]] at hps
  obtain ⟨n, l, h1, h2, rfl⟩ := parts_cons hps
  obtain ⟨h3, rfl⟩ := parts_nil h2
  have hn : n = d.size := by simp only [Dt.sz] at h1; simp at h1; exact h1.symm
  subst hn
  refine ⟨plainWords d, ?_, rfl, Nat.le_succ _⟩
  rw [hf]
  refine rest_st d (by decide) (by rw [ext_all]; rfl) hd ?_
  exact rest_end (by decide) rfl

theorem data_rest {S4 S6 : ByteArray → ByteArray × Int} {t : Int} {d : ByteArray} {ps : List ByteArray} (h1 : t ≠ 1) (h28 : t ≠ 28) (hd : d.size ≤ 65535) (hps : Dt.parts (Dt.specP t) d = some ps) :
    ∃ R, Rest (Dt.formS t) (scriptS t) d ps R 30 0 0 [] ∧ joinS R = joinS (dataWords S4 S6 t d) ∧ R.length ≤ (dataWords S4 S6 t d).length + 1 := by
  by_cases h : t = 2 ∨ t = 5 ∨ t = 12 ∨ t = 39 ∨ t = 15 ∨ t = 6 ∨ t = 33 ∨ t = 13 ∨ t = 35
  · rcases h with rfl | rfl | rfl | rfl | rfl | rfl | rfl | rfl | rfl
    · exact kinds_rest [0] hd hps (by decide) (by decide) (by decide) (by decide) rfl
    · exact kinds_rest [0] hd hps (by decide) (by decide) (by decide) (by decide) rfl
    · exact kinds_rest [0] hd hps (by decide) (by decide) (by decide) (by decide) rfl
    · exact kinds_rest [0] hd hps (by decide) (by decide) (by decide) (by decide) rfl
    · exact kinds_rest [8, 0] hd hps (by decide) (by decide) (by decide) (by decide) rfl
    · exact kinds_rest [0, 0, 10, 10, 10, 10, 10] hd hps (by decide) (by decide) (by decide) (by decide) rfl
    · exact kinds_rest [8, 8, 8, 0] hd hps (by decide) (by decide) (by decide) (by decide) rfl
    · exact kinds_rest [1, 1] hd hps (by decide) (by decide) (by decide) (by decide) rfl
    · exact kinds_rest [8, 8, 1, 1, 1, 0] hd hps (by decide) (by decide) (by decide) (by decide) rfl
  · by_cases h16 : t = 16
    · subst h16; exact sd16_rest hd hps
    by_cases h47 : t = 47
    · subst h47; exact nsec_rest hd hps
    by_cases h257 : t = 257
    · subst h257; exact caa_rest hd hps
    refine plain_rest hd hps ?_ ?_
    · have h2 : ¬ (t = 2 ∨ t = 5 ∨ t = 12 ∨ t = 39) := by omega
      unfold Dt.formS
      rw [if_neg h1, if_neg h2, if_neg (by omega), if_neg (by omega), if_neg (by omega), if_neg h16, if_neg h28, if_neg (by omega), if_neg (by omega), if_neg h47, if_neg h257]
    · refine formOf_none ?_
      have hall : ∀ x ∈ insTab, x.2 = 1 ∨ x.2 = 28 ∨ x.2 = 2 ∨ x.2 = 5 ∨ x.2 = 12 ∨ x.2 = 39 ∨ x.2 = 15 ∨ x.2 = 6 ∨ x.2 = 33 ∨ x.2 = 16 ∨ x.2 = 13 ∨ x.2 = 35 ∨ x.2 = 257 ∨ x.2 = 47 := by decide
      intro x hx e
      have := hall x hx
      omega
end Go.Proofs.YtephbegencpllaaGreatDoor
/- The groups of an address: mathematics. -/
namespace Go.Proofs.YtephbegencpllaaGreatDoor
open Go.RowKit

/-- Group i of an address. -/
def grp (s : ByteArray) (i : Nat) : Nat := numL (s.extract (2 * i) (2 * i + 2)).data.toList
theorem grp_lt (s : ByteArray) (i : Nat) : grp s i < 65536 := by
  have h1 := numL_lt (s.extract (2 * i) (2 * i + 2)).data.toList
  have h2 : (s.extract (2 * i) (2 * i + 2)).data.toList.length ≤ 2 := by simp; omega
  have h3 : 256 ^ (s.extract (2 * i) (2 * i + 2)).data.toList.length ≤ 256 ^ 2 := Nat.pow_le_pow_right (by decide) h2
  have h4 : (256 : Nat) ^ 2 = 65536 := by decide
  unfold grp
  omega

/-- k groups from a on, a colon between each two. -/
def rowS (s : ByteArray) (a : Nat) : Nat → ByteArray
  | 0 => ⟨#[]⟩
  | k + 1 => (if 0 < k then rowS s a k ++ ⟨#[58]⟩ else rowS s a k) ++ hexS (grp s (a + k))
theorem rowS_size (s : ByteArray) (a : Nat) : ∀ k, (rowS s a k).size ≤ 5 * k := by
  intro k
  induction k with
  | zero => exact Nat.le_refl _
  | succ k ih =>
    have h := hexS_size (grp_lt s (a + k))
    rw [rowS]
    split
    · rw [ByteArray.size_append, ByteArray.size_append]
      have : (⟨#[58]⟩ : ByteArray).size = 1 := rfl
      omega
    · rw [ByteArray.size_append]; omega

end Go.Proofs.YtephbegencpllaaGreatDoor
