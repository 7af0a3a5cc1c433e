import Derived.Test.YtechmpdfbpehiaaGreatDoorJMsI
import Derived.Test.YtechmpdfbpehiaaGreatDoorJV6M
import Derived.Test.YtechmpdfbpehiaaGreatDoorJSCheck
import Derived.Test.YtechmpdfbpehiaaGreatDoorJNumM
import Derived.Test.YtechmpdfbpehiaaGreatDoorJICheck
/- The model's words, form by form: where Rest leads. -/
namespace Go.Proofs.YtechmpdfbpehiaaGreatDoor
open Go.RowKit
set_option linter.unusedVariables false

theorem get_list {s : ByteArray} {i : Nat} {c : UInt8} (h : s.data.toList[i]? = some c) : ∃ hi : i < s.size, s[i] = c := by
  have hi : i < s.size := by
    have := (List.getElem?_eq_some_iff.1 h).1
    simpa using this
  exact ⟨hi, Option.some.inj ((Nm.get_data hi).symm.trans h)⟩

theorem rest_num {fm sc d : ByteArray} {ps R : List ByteArray} {f i q : Nat} {out : List ByteArray} (c : UInt8) (w : Nat) (hi : fm.data.toList[i]? = some 98) (hc : sc.data.toList[out.length]? = some c) (hw : widthOf c = w) (hq : q + w ≤ d.size) (hf : i + w ≤ fm.size) (h : Rest fm sc d ps R f (i + w) (q + w) (out ++ [decS (numL (d.extract q (q + w)).data.toList)])) : Rest fm sc d ps R (f + 1) i q out := by
  obtain ⟨h1, e1⟩ := get_list hi
  obtain ⟨h2, e2⟩ := get_list hc
  subst hw
  refine .inr ⟨h1, .inl ⟨e1, h2, ?_⟩⟩
  rw [e2]
  exact ⟨hq, hf, h⟩

theorem rest_sh {fm sc d : ByteArray} {ps R : List ByteArray} {f i q : Nat} {out : List ByteArray} (c : UInt8) (p X : ByteArray) (hi : fm.data.toList[i]? = some c) (hp : ps[i]? = some p) (hs : Sh c p X) (h : Rest fm sc d ps R f (i + 1) (q + p.size) (out ++ [X])) : Rest fm sc d ps R (f + 1) i q out := by
  obtain ⟨h1, e1⟩ := get_list hi
  exact .inr ⟨h1, .inr ⟨p, hp, hs.1, .inr (.inr ⟨X, by rw [e1]; exact hs, h⟩)⟩⟩

theorem rest_mp {fm sc d : ByteArray} {ps R : List ByteArray} {f i q : Nat} {out : List ByteArray} (p : ByteArray) (hi : fm.data.toList[i]? = some 109) (hp : ps[i]? = some p) (hs : p.size ≤ 65535) (h : Rest fm sc d ps R f (i + 1) (q + p.size) (out ++ tyWords p)) : Rest fm sc d ps R (f + 1) i q out := by
  obtain ⟨h1, e1⟩ := get_list hi
  exact .inr ⟨h1, .inr ⟨p, hp, hs, .inl ⟨e1, h⟩⟩⟩

theorem rest_st {fm sc d : ByteArray} {ps R : List ByteArray} {f i q : Nat} {out : List ByteArray} (p : ByteArray) (hi : fm.data.toList[i]? = some 42) (hp : ps[i]? = some p) (hs : p.size ≤ 65535) (h : Rest fm sc d ps R f (i + 1) (q + p.size) (out ++ plainWords d)) : Rest fm sc d ps R (f + 1) i q out := by
  obtain ⟨h1, e1⟩ := get_list hi
  exact .inr ⟨h1, .inr ⟨p, hp, hs, .inr (.inl ⟨e1, h⟩)⟩⟩

theorem rest_end {fm sc d : ByteArray} {ps R : List ByteArray} {f i q : Nat} {out : List ByteArray} (hi : i = fm.size) (h : out = R) : Rest fm sc d ps R f i q out := by
  cases f with
  | zero => exact ⟨hi, h⟩
  | succ f => exact .inl ⟨hi, h⟩

theorem parts_cons {p : Dt.Pc} {r : List Dt.Pc} {d : ByteArray} {ps : List ByteArray} (h : Dt.parts (p :: r) d = some ps) : ∃ n l, Dt.sz p d = some n ∧ Dt.parts r (d.extract n d.size) = some l ∧ ps = d.extract 0 n :: l := by
  rw [Dt.parts] at h
  cases hz : Dt.sz p d with
  | none => rw [hz] at h; cases h
  | some n =>
    rw [hz] at h
    simp only [Option.map_eq_some_iff] at h
    obtain ⟨l, h1, h2⟩ := h
    exact ⟨n, l, rfl, h1, h2.symm⟩

theorem parts_bs : ∀ (k : Nat) (r : List Dt.Pc) (x : ByteArray) (l : List ByteArray), Dt.parts (List.replicate k (.bs 1) ++ r) x = some l → k ≤ x.size ∧ Dt.parts r (x.extract k x.size) = some (l.drop k) := by
  intro k
  induction k with
  | zero =>
    intro r x l h
    refine ⟨Nat.zero_le _, ?_⟩
    have e : x.extract 0 x.size = x := by simp
    rw [e]
    simpa using h
  | succ k ih =>
    intro r x l h
    rw [List.replicate_succ, List.cons_append] at h
    obtain ⟨n, l', h1, h2, rfl⟩ := parts_cons h
    obtain ⟨h3, rfl⟩ := sz_bs h1
    obtain ⟨h4, h5⟩ := ih r _ l' h2
    have e : (x.extract 1 x.size).size = x.size - 1 := by simp
    rw [e] at h4
    rw [Dt.ext_ext (by omega) (Nat.le_refl _), Nat.add_comm] at h5
    exact ⟨by omega, by simpa using h5⟩

/-- The form's letters of a kind of words. -/
def lets : Nat → List UInt8
  | 0 => [110]
  | 1 => [116]
  | k + 6 => List.replicate k 98
  | _ => []

theorem drop_cons {α : Type} {l r : List α} {i : Nat} {x : α} (h : l.drop i = x :: r) : l[i]? = some x ∧ l.drop (i + 1) = r := by
  refine ⟨?_, ?_⟩
  · have := congrArg (fun y => y[0]?) h
    simpa using this
  · have := congrArg (fun y => y.drop 1) h
    simpa using this

theorem let_nm : Dt.letP 110 = .nm := by simp [Dt.letP]
theorem let_tx : Dt.letP 116 = .tx := by simp [Dt.letP]
theorem let_bs : Dt.letP 98 = .bs 1 := by simp [Dt.letP]

set_option maxHeartbeats 1000000 in
theorem rest_kinds {S4 S6 : ByteArray → ByteArray × Int} {fm sc d : ByteArray} {ps R : List ByteArray} (hd : d.size ≤ 65535) : ∀ (ks : List Nat) (f i q : Nat) (out : List ByteArray), (∀ K ∈ ks, K = 0 ∨ K = 1 ∨ (7 ≤ K ∧ K ≤ 10)) → i ≤ fm.size → fm.data.toList.drop i = (ks.map lets).flatten → (∀ j K, ks[j]? = some K → 7 ≤ K → ∃ c, sc.data.toList[out.length + j]? = some c ∧ widthOf c = K - 6) → Dt.parts (((ks.map lets).flatten).map Dt.letP) (d.extract q d.size) = some (ps.drop i) → ks.length ≤ f → q ≤ d.size → R = out ++ writeAll S4 S6 ks (d.extract q d.size) → Rest fm sc d ps R f i q out := by
  intro ks
  induction ks with
  | nil =>
    intro f i q out _ hi hfm _ _ _ _ hR
    refine rest_end ?_ ?_
    · have := congrArg List.length hfm
      simp at this
      omega
    · rw [hR]; simp [writeAll]
  | cons K ks ih =>
    intro f i q out hK hi hfm hsc hps hf hq hR
    obtain ⟨f, rfl⟩ : ∃ g, f = g + 1 := ⟨f - 1, by simp at hf; omega⟩
    have hK' : ∀ K ∈ ks, K = 0 ∨ K = 1 ∨ (7 ≤ K ∧ K ≤ 10) := fun K h => hK K (by simp [h])
    have hfl : ks.length ≤ f := by simp at hf; omega
    have hsc' : ∀ j K, ks[j]? = some K → 7 ≤ K → ∃ c, sc.data.toList[out.length + 1 + j]? = some c ∧ widthOf c = K - 6 := by
      intro j K' h1 h2
      have := hsc (j + 1) K' (by simpa using h1) h2
      rwa [show out.length + (j + 1) = out.length + 1 + j by omega] at this
    have hxs : (d.extract q d.size).size = d.size - q := by simp
    rw [List.map_cons, List.flatten_cons] at hfm hps
    rcases hK K (by simp) with rfl | rfl | ⟨h7, h10⟩
    · obtain ⟨g1, g2⟩ := drop_cons (show fm.data.toList.drop i = 110 :: (ks.map lets).flatten from hfm)
      rw [show lets 0 = [110] from rfl, List.cons_append, List.map_cons, let_nm, List.nil_append] at hps
      obtain ⟨n, l, z1, z2, z3⟩ := parts_cons hps
      obtain ⟨p1, p2⟩ := drop_cons z3
      have hn := Dt.sz_le z1
      rw [hxs] at hn
      rw [Dt.ext_ext (by omega) (Nat.le_refl _), ← p2] at z2
      have hpz : ((d.extract q d.size).extract 0 n).size = n := by simp; omega
      refine rest_sh 110 _ _ g1 p1 ⟨by omega, .inl ⟨rfl, rfl⟩⟩ ?_
      rw [hpz]
      have hi1 : i + 1 ≤ fm.size := by
        obtain ⟨hh, _⟩ := get_list g1
        omega
      refine ih f (i + 1) (q + n) _ hK' hi1 g2 ?_ z2 hfl (by omega) ?_
      · simpa using hsc'
      · rw [hR, writeAll, List.append_assoc]
        simp only [wrT, wrN, z1, Option.getD_some, List.singleton_append]
        rw [Dt.ext_ext (by omega) (Nat.le_refl _)]
    · obtain ⟨g1, g2⟩ := drop_cons (show fm.data.toList.drop i = 116 :: (ks.map lets).flatten from hfm)
      rw [show lets 1 = [116] from rfl, List.cons_append, List.map_cons, let_tx, List.nil_append] at hps
      obtain ⟨n, l, z1, z2, z3⟩ := parts_cons hps
      obtain ⟨p1, p2⟩ := drop_cons z3
      have hn := Dt.sz_le z1
      rw [hxs] at hn
      obtain ⟨⟨y1, y2⟩, y3⟩ := sz_tx z1
      rw [Dt.ext_ext (by omega) (Nat.le_refl _), ← p2] at z2
      have hpz : ((d.extract q d.size).extract 0 n).size = n := by simp; omega
      refine rest_sh 116 _ _ g1 p1 ⟨by omega, .inr (.inl ⟨rfl, by omega, rfl⟩)⟩ ?_
      rw [hpz]
      have hi1 : i + 1 ≤ fm.size := by
        obtain ⟨hh, _⟩ := get_list g1
        omega
      refine ih f (i + 1) (q + n) _ hK' hi1 g2 ?_ z2 hfl (by omega) ?_
      · simpa using hsc'
      · rw [hR, writeAll, List.append_assoc]
        simp only [wrT, wrN, List.singleton_append]
        have e : ((d.extract q d.size).extract 0 n).extract 1 n = (d.extract q d.size).extract 1 (1 + b0 (d.extract q d.size)) := by
          rw [ByteArray.extract_extract]
          congr 1
          omega
        rw [← y3] at e ⊢
        rw [e, Dt.ext_ext (by omega) (Nat.le_refl _)]
    · obtain ⟨k, rfl⟩ : ∃ k, K = k + 6 := ⟨K - 6, by omega⟩
      have hl : lets (k + 6) = List.replicate k 98 := rfl
      rw [hl] at hfm hps
      rw [List.map_append, List.map_replicate, let_bs] at hps
      obtain ⟨hks, z2⟩ := parts_bs _ _ _ _ hps
      rw [hxs] at hks
      rw [Dt.ext_ext (by omega) (Nat.le_refl _), List.drop_drop] at z2
      obtain ⟨c, c1, c2⟩ := hsc 0 (k + 6) rfl h7
      have hg1 : fm.data.toList[i]? = some 98 := by
        obtain ⟨k', rfl⟩ : ∃ k', k = k' + 1 := ⟨k - 1, by omega⟩
        rw [List.replicate_succ, List.cons_append] at hfm
        exact (drop_cons hfm).1
      have hlen : i + k ≤ fm.size := by
        have := congrArg List.length hfm
        simp at this
        omega
      refine rest_num c k hg1 (by simpa using c1) (by simpa using c2) (by omega) hlen ?_
      refine ih f (i + k) (q + k) _ hK' hlen ?_ ?_ z2 hfl (by omega) ?_
      · have := congrArg (fun y => y.drop k) hfm
        simpa using this
      · simpa using hsc'
      · rw [hR, writeAll, List.append_assoc]
        simp only [wrT, wrN, List.singleton_append]
        have e : (d.extract q d.size).extract 0 k = d.extract q (q + k) := by
          rw [ByteArray.extract_extract]
          congr 1
          omega
        rw [e, Dt.ext_ext (by omega) (Nat.le_refl _)]
end Go.Proofs.YtechmpdfbpehiaaGreatDoor
/- The model's words, type by type. -/
namespace Go.Proofs.YtechmpdfbpehiaaGreatDoor
open Go.RowKit
set_option linter.unusedVariables false

/-- The script fits the kinds of words. -/
def scB (ks : List Nat) (sc : List UInt8) : Bool := (List.range ks.length).all fun j => match ks[j]? with
  | none => true
  | some K => if K < 7 then true else match sc[j]? with
    | none => false
    | some c => widthOf c == K - 6

theorem scB_ok {ks : List Nat} {sc : ByteArray} (h : scB ks sc.data.toList = true) : ∀ j K, ks[j]? = some K → 7 ≤ K → ∃ c, sc.data.toList[([] : List ByteArray).length + j]? = some c ∧ widthOf c = K - 6 := by
  intro j K h1 h2
  have hj : j < ks.length := (List.getElem?_eq_some_iff.1 h1).1
  have := List.all_eq_true.1 h j (List.mem_range.2 hj)
  simp only [h1, if_neg (show ¬ K < 7 by omega)] at this
  cases hc : sc.data.toList[j]? with
  | none => rw [hc] at this; cases this
  | some c =>
    rw [hc] at this
    exact ⟨c, by simpa using hc, by simpa using this⟩

theorem ext_all (d : ByteArray) : d.extract 0 d.size = d := by simp

theorem kinds_rest {S4 S6 : ByteArray → ByteArray × Int} {t : Int} {d : ByteArray} {ps : List ByteArray} (ks : List Nat) (hd : d.size ≤ 65535) (hps : Dt.parts (Dt.specP t) d = some ps) (hfm : (Dt.formS t).data.toList = (ks.map lets).flatten) (hsc : scB ks (scriptS t).data.toList = true) (hK : ∀ K ∈ ks, K = 0 ∨ K = 1 ∨ (7 ≤ K ∧ K ≤ 10)) (hl : ks.length ≤ 30) (hf : formOf t = some (.inl ks)) :
    ∃ R, Rest (Dt.formS t) (scriptS t) d ps R 30 0 0 [] ∧ joinS R = joinS (dataWords S4 S6 t d) ∧ R.length ≤ (dataWords S4 S6 t d).length + 1 := by
  have e : dataWords S4 S6 t d = writeAll S4 S6 ks d := by rw [dataWords, hf]; rfl
  rw [e]
  refine ⟨writeAll S4 S6 ks d, ?_, rfl, by omega⟩
  rw [Dt.specP, hfm] at hps
  refine rest_kinds (S4 := S4) (S6 := S6) hd ks 30 0 0 [] hK (Nat.zero_le _) (by simpa using hfm) (scB_ok hsc) ?_ hl (Nat.zero_le _) ?_
  · rw [ext_all]; simpa using hps
  · rw [ext_all]; rfl

theorem parts_nil {d : ByteArray} {l : List ByteArray} (h : Dt.parts [] d = some l) : d.size = 0 ∧ l = [] := by
  rw [Dt.parts] at h
  split at h
  · rename_i hz
    simp at h
    exact ⟨hz, h⟩
  · cases h

theorem sd16_rest {S4 S6 : ByteArray → ByteArray × Int} {d : ByteArray} {ps : List ByteArray} (hd : d.size ≤ 65535) (hps : Dt.parts (Dt.specP 16) d = some ps) :
    ∃ R, Rest (Dt.formS 16) (scriptS 16) d ps R 30 0 0 [] ∧ joinS R = joinS (dataWords S4 S6 16 d) ∧ R.length ≤ (dataWords S4 S6 16 d).length + 1 := by
  have e : dataWords S4 S6 16 d = manyT d.size d := by rw [dataWords, show formOf 16 = some (.inr false) from rfl]; rfl
  rw [e]
  rw [show Dt.specP 16 = [.txs] from by simp [Dt.specP, Dt.formS, Dt.letP]] at hps
  obtain ⟨n, l, h1, h2, rfl⟩ := parts_cons hps
  obtain ⟨h3, rfl⟩ := parts_nil h2
  have hn := Dt.sz_le h1
  have hnn : n = d.size := by simp at h3; omega
  subst hnn
  have hok : okMany d.size d := by
    simp only [Dt.sz] at h1
    split at h1
    · cases h1
    · simp at h1
      exact txs_many _ _ (Nat.le_refl _) h1
  refine ⟨[joinS (manyT d.size d)], ?_, joinS_one _, by simp⟩
  refine rest_sh 115 d (joinS (manyT d.size d)) (by decide) (by rw [ext_all]; rfl) ⟨hd, .inr (.inr (.inl ⟨rfl, hok, rfl⟩))⟩ ?_
  exact rest_end (by decide) rfl

theorem nsec_rest {S4 S6 : ByteArray → ByteArray × Int} {d : ByteArray} {ps : List ByteArray} (hd : d.size ≤ 65535) (hps : Dt.parts (Dt.specP 47) d = some ps) :
    ∃ R, Rest (Dt.formS 47) (scriptS 47) d ps R 30 0 0 [] ∧ joinS R = joinS (dataWords S4 S6 47 d) ∧ R.length ≤ (dataWords S4 S6 47 d).length + 1 := by
  rw [show Dt.specP 47 = [.nm, .mp] from by simp [Dt.specP, Dt.formS, Dt.letP]] at hps
  obtain ⟨n, l, h1, h2, rfl⟩ := parts_cons hps
  obtain ⟨n2, l2, h3, h4, rfl⟩ := parts_cons h2
  obtain ⟨h5, rfl⟩ := parts_nil h4
  have hn := Dt.sz_le h1
  have hn2 := Dt.sz_le h3
  have hs2 : (d.extract n d.size).size = d.size - n := by simp
  have hnn : n2 = (d.extract n d.size).size := by simp at h5; omega
  subst hnn
  have e : dataWords S4 S6 47 d = (Nm.showS (d.extract 0 n)).1 :: tyWords (d.extract n d.size) := by
    rw [dataWords, show formOf 47 = some (.inr true) from rfl]
    simp only [formWords, h1, Option.getD_some]
  rw [e]
  refine ⟨_, ?_, rfl, Nat.le_succ _⟩
  have hz1 : (d.extract 0 n).size = n := by simp; omega
  refine rest_sh 110 (d.extract 0 n) (Nm.showS (d.extract 0 n)).1 (by decide) rfl ⟨by omega, .inl ⟨rfl, rfl⟩⟩ ?_
  refine rest_mp (d.extract n d.size) (by decide) (by rw [ext_all]; rfl) (by omega) ?_
  exact rest_end (by decide) rfl

theorem caa_rest {S4 S6 : ByteArray → ByteArray × Int} {d : ByteArray} {ps : List ByteArray} (hd : d.size ≤ 65535) (hps : Dt.parts (Dt.specP 257) d = some ps) :
    ∃ R, Rest (Dt.formS 257) (scriptS 257) d ps R 30 0 0 [] ∧ joinS R = joinS (dataWords S4 S6 257 d) ∧ R.length ≤ (dataWords S4 S6 257 d).length + 1 := by
  rw [show Dt.specP 257 = [.bs 1, .tagr] from by simp [Dt.specP, Dt.formS, Dt.letP]] at hps
  obtain ⟨n, l, h1, h2, rfl⟩ := parts_cons hps
  obtain ⟨hn, rfl⟩ := sz_bs h1
  obtain ⟨n2, l2, h3, h4, rfl⟩ := parts_cons h2
  obtain ⟨h5, rfl⟩ := parts_nil h4
  have hn2 := Dt.sz_le h3
  have hs2 : (d.extract 1 d.size).size = d.size - 1 := by simp
  have hnn : n2 = (d.extract 1 d.size).size := by simp at h5; omega
  subst hnn
  have htg : (0 < (d.extract 1 d.size).size ∧ 1 + b0 (d.extract 1 d.size) ≤ (d.extract 1 d.size).size) := by
    have : Dt.tagB (d.extract 1 d.size) = true := by
      simp only [Dt.sz] at h3
      split at h3
      · assumption
      · cases h3
    exact (sz_tag (n := (Dt.txtS (d.extract 1 d.size)).size) (by simp only [Dt.sz, this, if_true])).1
  have e : dataWords S4 S6 257 d = [decS (numL (d.extract 0 1).data.toList), (d.extract 1 d.size).extract 1 (1 + b0 (d.extract 1 d.size)), showTextS ((d.extract 1 d.size).extract (1 + b0 (d.extract 1 d.size)) (d.extract 1 d.size).size)] := by
    rw [dataWords, show formOf 257 = some (.inl [7, 2, 3]) from rfl]
    rfl
  rw [e]
  refine ⟨[decS (numL (d.extract 0 1).data.toList)] ++ [(d.extract 1 d.size).extract 1 (1 + b0 (d.extract 1 d.size)) ++ ⟨#[32]⟩ ++ showTextS ((d.extract 1 d.size).extract (1 + b0 (d.extract 1 d.size)) (d.extract 1 d.size).size)], ?_, joinS_more _ _ _, by simp⟩
  refine rest_num 49 1 (by decide) (by decide) (by decide) (by omega) (by decide) ?_
  refine rest_sh 99 (d.extract 1 d.size) _ (by decide) (by rw [ext_all]; rfl) ⟨by omega, .inr (.inr (.inr ⟨rfl, htg.1, htg.2, rfl⟩))⟩ ?_
  exact rest_end (by decide) rfl

theorem plain_rest {S4 S6 : ByteArray → ByteArray × Int} {t : Int} {d : ByteArray} {ps : List ByteArray} (hd : d.size ≤ 65535) (hps : Dt.parts (Dt.specP t) d = some ps) (hf : Dt.formS t = ⟨#[42]⟩) (hn : formOf t = none) :
    ∃ R, Rest (Dt.formS t) (scriptS t) d ps R 30 0 0 [] ∧ joinS R = joinS (dataWords S4 S6 t d) ∧ R.length ≤ (dataWords S4 S6 t d).length + 1 := by
  have e : dataWords S4 S6 t d = plainWords d := by rw [dataWords, hn]
  rw [e]
  rw [Dt.specP, hf, show ((⟨#[42]⟩ : ByteArray).data.toList.map Dt.letP) = [.rs] from by simp [Dt.letP]] at hps
  obtain ⟨n, l, h1, h2, rfl⟩ := parts_cons hps
  obtain ⟨h3, rfl⟩ := parts_nil h2
  have hn : n = d.size := by simp only [Dt.sz] at h1; simp at h1; exact h1.symm
  subst hn
  refine ⟨plainWords d, ?_, rfl, Nat.le_succ _⟩
  rw [hf]
  refine rest_st d (by decide) (by rw [ext_all]; rfl) hd ?_
  exact rest_end (by decide) rfl

theorem data_rest {S4 S6 : ByteArray → ByteArray × Int} {t : Int} {d : ByteArray} {ps : List ByteArray} (h1 : t ≠ 1) (h28 : t ≠ 28) (hd : d.size ≤ 65535) (hps : Dt.parts (Dt.specP t) d = some ps) :
    ∃ R, Rest (Dt.formS t) (scriptS t) d ps R 30 0 0 [] ∧ joinS R = joinS (dataWords S4 S6 t d) ∧ R.length ≤ (dataWords S4 S6 t d).length + 1 := by
  by_cases h : t = 2 ∨ t = 5 ∨ t = 12 ∨ t = 39 ∨ t = 15 ∨ t = 6 ∨ t = 33 ∨ t = 13 ∨ t = 35
  · rcases h with rfl | rfl | rfl | rfl | rfl | rfl | rfl | rfl | rfl
    · exact kinds_rest [0] hd hps (by decide) (by decide) (by decide) (by decide) rfl
    · exact kinds_rest [0] hd hps (by decide) (by decide) (by decide) (by decide) rfl
    · exact kinds_rest [0] hd hps (by decide) (by decide) (by decide) (by decide) rfl
    · exact kinds_rest [0] hd hps (by decide) (by decide) (by decide) (by decide) rfl
    · exact kinds_rest [8, 0] hd hps (by decide) (by decide) (by decide) (by decide) rfl
    · exact kinds_rest [0, 0, 10, 10, 10, 10, 10] hd hps (by decide) (by decide) (by decide) (by decide) rfl
    · exact kinds_rest [8, 8, 8, 0] hd hps (by decide) (by decide) (by decide) (by decide) rfl
    · exact kinds_rest [1, 1] hd hps (by decide) (by decide) (by decide) (by decide) rfl
    · exact kinds_rest [8, 8, 1, 1, 1, 0] hd hps (by decide) (by decide) (by decide) (by decide) rfl
  · by_cases h16 : t = 16
    · subst h16; exact sd16_rest hd hps
    by_cases h47 : t = 47
    · subst h47; exact nsec_rest hd hps
    by_cases h257 : t = 257
    · subst h257; exact caa_rest hd hps
    refine plain_rest hd hps ?_ ?_
    · have h2 : ¬ (t = 2 ∨ t = 5 ∨ t = 12 ∨ t = 39) := by omega
      unfold Dt.formS
      rw [if_neg h1, if_neg h2, if_neg (by omega), if_neg (by omega), if_neg (by omega), if_neg h16, if_neg h28, if_neg (by omega), if_neg (by omega), if_neg h47, if_neg h257]
    · refine formOf_none ?_
      have hall : ∀ x ∈ insTab, x.2 = 1 ∨ x.2 = 28 ∨ x.2 = 2 ∨ x.2 = 5 ∨ x.2 = 12 ∨ x.2 = 39 ∨ x.2 = 15 ∨ x.2 = 6 ∨ x.2 = 33 ∨ x.2 = 16 ∨ x.2 = 13 ∨ x.2 = 35 ∨ x.2 = 257 ∨ x.2 = 47 := by decide
      intro x hx e
      have := hall x hx
      omega
end Go.Proofs.YtechmpdfbpehiaaGreatDoor
/- Noughts of an address: mathematics. -/
namespace Go.Proofs.YtechmpdfbpehiaaGreatDoor
open Go.RowKit

def SpAt (z : Nat → Bool) (n i : Nat) : Prop := spFind z = (match spIn z n (9 - n - i) i with | some r => some r | none => spOut z (n - 1))
theorem sp_enter {z : Nat → Bool} {n : Nat} (h : spFind z = spOut z n) (hn : 2 ≤ n) : SpAt z n 0 := by
  obtain ⟨k, rfl⟩ : ∃ k, n = k + 2 := ⟨n - 2, by omega⟩
  rw [SpAt, h, spOut, Nat.sub_zero]
  rfl
theorem sp_hit {z : Nat → Bool} {n i : Nat} (h : SpAt z n i) (hi : i + n ≤ 8) (ha : allZ z i n = true) : spFind z = some (n, i) := by
  rw [SpAt, show 9 - n - i = (8 - n - i) + 1 by omega, spIn, if_pos ha] at h
  exact h
theorem sp_miss {z : Nat → Bool} {n i : Nat} (h : SpAt z n i) (hi : i + n ≤ 8) (ha : allZ z i n = false) : SpAt z n (i + 1) := by
  rw [SpAt, show 9 - n - i = (9 - n - (i + 1)) + 1 by omega, spIn, if_neg (by rw [ha]; simp)] at h
  exact h
theorem sp_exit {z : Nat → Bool} {n i : Nat} (h : SpAt z n i) (hi : 9 ≤ i + n) : spFind z = spOut z (n - 1) := by
  rw [SpAt, show 9 - n - i = 0 by omega, spIn] at h
  exact h
theorem sp_none {z : Nat → Bool} {n : Nat} (h : spFind z = spOut z n) (hn : n = 1) : spFind z = none := by rw [h, hn]; rfl

theorem grp_val {s : ByteArray} {j : Nat} (h : 2 * j + 1 < s.size) : grp s j = s[2 * j].toNat * 256 + s[2 * j + 1].toNat := by
  have e : (s.extract (2 * j) (2 * j + 2)).data.toList = [s[2 * j], s[2 * j + 1]] := by
    refine List.ext_getElem (by simp; omega) ?_
    intro i h1 h2
    have hi : i < 2 := by simpa using h2
    have e := ByteArray.getElem_extract (b := s) (start := 2 * j) (stop := 2 * j + 2) (i := i) (h := by simp; omega)
    have e2 : (s.extract (2 * j) (2 * j + 2)).data.toList[i] = s[2 * j + i]'(by omega) := e
    rw [e2]
    rcases i with _ | _ | i
    · rfl
    · rfl
    · omega
  rw [grp, e]
  simp [numL]
def zeros (m : Nat) : ByteArray := ⟨(List.replicate m 0).toArray⟩
theorem zeros_eq {s : ByteArray} {i n : Nat} (hs : s.size = 16) (h : i + n ≤ 8) : ((s.extract (2 * i) (2 * (i + n))).toList == (zeros (2 * n)).toList) = allZ (zf s) i n := by
  rw [Bool.eq_iff_iff, beq_iff_eq, allZ, List.all_eq_true, ByteArray.toList_eq, ByteArray.toList_eq]
  have hl : (s.extract (2 * i) (2 * (i + n))).data.toList.length = 2 * n := by simp; omega
  have hat : ∀ m (hm : m < 2 * n), (s.extract (2 * i) (2 * (i + n))).data.toList[m]'(by omega) = s[2 * i + m]'(by omega) := by
    intro m hm
    exact ByteArray.getElem_extract (b := s) (start := 2 * i) (stop := 2 * (i + n)) (i := m) (h := by simp; omega)
  constructor
  · intro e k hk
    have hk' : k < n := by simpa using hk
    have hz : ∀ m (hm : m < 2 * n), s[2 * i + m]'(by omega) = 0 := by
      intro m hm
      rw [← hat m hm]
      have := congrArg (fun l => l[m]?) e
      simp only [zeros] at this
      rw [List.getElem?_eq_getElem (by omega), List.getElem?_eq_getElem (by simp; omega)] at this
      simpa using this
    rw [zf_at s (i + k) (by omega), decide_eq_true_eq, grp_val (by omega)]
    have h0 := hz (2 * k) (by omega)
    have h1 := hz (2 * k + 1) (by omega)
    have e0 : s[2 * (i + k)]'(by omega) = 0 := by
      rw [← h0]; congr 1; omega
    have e1 : s[2 * (i + k) + 1]'(by omega) = 0 := by
      rw [← h1]; congr 1; omega
    rw [e0, e1]; rfl
  · intro hall
    refine List.ext_getElem (by rw [hl]; simp [zeros]) ?_
    intro m h1 h2
    have hm : m < 2 * n := by omega
    rw [hat m hm]
    simp only [zeros, List.getElem_replicate]
    have hk := hall (m / 2) (by simp; omega)
    rw [zf_at s (i + m / 2) (by omega), decide_eq_true_eq, grp_val (by omega)] at hk
    have a0 := (s[2 * (i + m / 2)]'(by omega)).toNat_lt
    have a1 := (s[2 * (i + m / 2) + 1]'(by omega)).toNat_lt
    rcases Nat.mod_two_eq_zero_or_one m with he | he
    · have e0 : s[2 * i + m]'(by omega) = s[2 * (i + m / 2)]'(by omega) := by congr 1; omega
      rw [e0]
      apply UInt8.toNat_inj.1
      simp; omega
    · have e0 : s[2 * i + m]'(by omega) = s[2 * (i + m / 2) + 1]'(by omega) := by congr 1; omega
      rw [e0]
      apply UInt8.toNat_inj.1
      simp; omega
theorem showV6_some {s : ByteArray} {n i : Nat} (h : s.size = 16) (hf : spFind (zf s) = some (n, i)) : showV6S s = (rowS s 0 i ++ ⟨#[58, 58]⟩ ++ rowS s (i + n) (8 - (i + n)), 0) := by rw [showV6S, if_pos h, hf]
theorem showV6_none {s : ByteArray} (h : s.size = 16) (hf : spFind (zf s) = none) : showV6S s = (rowS s 0 8, 0) := by rw [showV6S, if_pos h, hf]
theorem showV6_bad {s : ByteArray} (h : s.size ≠ 16) : showV6S s = (⟨#[]⟩, 7) := by rw [showV6S, if_neg h]
end Go.Proofs.YtechmpdfbpehiaaGreatDoor
/- spec.l03Row by its contract. -/
namespace Go.Proofs.YtechmpdfbpehiaaGreatDoor
open Go.RowKit

set_option maxRecDepth 100000 in
set_option maxHeartbeats 1600000 in
theorem l03Row_any (s : ByteArray) (a b : Nat) (w : World) (hs : s.size = 16) (hab : a ≤ b) (hb : b ≤ 8) :
    Calls Tryz.prog 51 #[.string s, .int .i64 (a : Int), .int .i64 (b : Int)] w fun e w' => e = .returned (.string (rowS s a (b - a))) ∧ ∃ m, w' = w.drewN m := by
  have hs' : (s.size : Int) = 16 := by omega
  obtain ⟨Z, HZ⟩ : ∃ Z, Hid (Z = rowS s a (b - a)) := ⟨_, rfl⟩
  rw [← HZ.out]
  go_enter Tryz.func51, Tryz.ntmps51
  go_wp2
  go_loopw [7, 8] (fun u v wr => ∃ k m : Nat, a + k ≤ b ∧ v = .int .i64 ((a : Int) + (k : Int)) ∧ u = .string (rowS s a k) ∧ wr = w.drewN m) (fun _ v _ => b - (intOf v).toNat)
  case atStart => exact ⟨0, 0, by omega, by go_num, rfl, rfl⟩
  case round =>
    obtain ⟨k, m, hk, rfl, rfl, rfl⟩ := hrel
    have hz := rowS_size s a k
    by_cases hlt : a + k < b
    · have hlt' : (a : Int) + (k : Int) < (b : Int) := by omega
      have hg := grp_lt s (a + k)
      have hx := hexS_size hg
      have hno := fun W => l02Num_any (s.extract (2 * (a + k)) (2 * (a + k) + 2)) W (by simp; omega)
      have hhx := fun W => l03HexOf_any (grp s (a + k)) W hg
      have e1 : numL (s.extract (2 * (a + k)) (2 * (a + k) + 2)).data.toList = grp s (a + k) := rfl
      rw [e1] at hno
      obtain ⟨E, HEE, hno⟩ : ∃ E, Hid (E = s.extract (2 * (a + k)) (2 * (a + k) + 2)) ∧ ∀ W, Calls Tryz.prog 32 #[.string E] W fun e w' => e = .returned (.int .i64 ((grp s (a + k) : Nat) : Int)) ∧ w' = W := ⟨_, rfl, hno⟩
      have hcut : s.extract (2 * ((a : Int) + (k : Int))).toNat (2 * ((a : Int) + (k : Int)) + 2).toNat = E := by
        rw [HEE.out]; congr 1
      by_cases h0 : 0 < k
      · have h0' : (a : Int) < (a : Int) + (k : Int) := by omega
        have HR : Hid (rowS s a (k + 1) = rowS s a k ++ ⟨#[58]⟩ ++ hexS (grp s (a + k))) := by show _ = _; rw [rowS, if_pos h0]
        clear e1
        generalize hexS (grp s (a + k)) = X at *
        generalize grp s (a + k) = G at *
        generalize rowS s a k = Y at *
        go_wp2_with (first | (go_at_call 32; refine (hno _).mono ?_; rintro e w1 ⟨rfl, hw⟩; obtain rfl : w.drewN m = w1 := hw.symm; clear hw) | (go_at_call 34; refine (hhx _).mono ?_; rintro e w1 ⟨rfl, m2, rfl⟩))
        go_roundw
        case rel => exact ⟨k + 1, m + m2, by omega, by go_num, by rw [HR.out], rfl⟩
        case measure => simp [intOf]; omega
      · have h0' : (a : Int) + (k : Int) ≤ (a : Int) := by omega
        have HR : Hid (rowS s a (k + 1) = rowS s a k ++ hexS (grp s (a + k))) := by show _ = _; rw [rowS, if_neg h0]
        clear e1
        generalize hexS (grp s (a + k)) = X at *
        generalize grp s (a + k) = G at *
        generalize rowS s a k = Y at *
        go_wp2_with (first | (go_at_call 32; refine (hno _).mono ?_; rintro e w1 ⟨rfl, hw⟩; obtain rfl : w.drewN m = w1 := hw.symm; clear hw) | (go_at_call 34; refine (hhx _).mono ?_; rintro e w1 ⟨rfl, m2, rfl⟩))
        go_roundw
        case rel => exact ⟨k + 1, m + m2, by omega, by go_num, by rw [HR.out], rfl⟩
        case measure => simp [intOf]; omega
    · have hlt' : (b : Int) ≤ (a : Int) + (k : Int) := by omega
      have e : b - a = k := by omega
      have HN : Hid (Z = rowS s a k) := by show _ = _; rw [HZ.out, e]
      clear e
      go_wp2
      go_ret
      rw [HN.out]
      exact ⟨rfl, _, rfl⟩
end Go.Proofs.YtechmpdfbpehiaaGreatDoor
