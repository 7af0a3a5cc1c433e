import Derived.Test.YtephbegencpllaaGreatDoorJSdR
/- The model's words, form by form: where Rest leads. -/
namespace Go.Proofs.YtephbegencpllaaGreatDoor
open Go.RowKit
set_option linter.unusedVariables false

theorem get_list {s : ByteArray} {i : Nat} {c : UInt8} (h : s.data.toList[i]? = some c) : ∃ hi : i < s.size, s[i] = c := by
  have hi : i < s.size := by
    have := (List.getElem?_eq_some_iff.1 h).1
    simpa using this
  exact ⟨hi, Option.some.inj ((Nm.get_data hi).symm.trans h)⟩

theorem rest_num {fm sc d : ByteArray} {ps R : List ByteArray} {f i q : Nat} {out : List ByteArray} (c : UInt8) (w : Nat) (hi : fm.data.toList[i]? = some 98) (hc : sc.data.toList[out.length]? = some c) (hw : widthOf c = w) (hq : q + w ≤ d.size) (hf : i + w ≤ fm.size) (h : Rest fm sc d ps R f (i + w) (q + w) (out ++ [decS (numL (d.extract q (q + w)).data.toList)])) : Rest fm sc d ps R (f + 1) i q out := by
  obtain ⟨h1, e1⟩ := get_list hi
  obtain ⟨h2, e2⟩ := get_list hc
  subst hw
  refine .inr ⟨h1, .inl ⟨e1, h2, ?_⟩⟩
  rw [e2]
  exact ⟨hq, hf, h⟩

theorem rest_sh {fm sc d : ByteArray} {ps R : List ByteArray} {f i q : Nat} {out : List ByteArray} (c : UInt8) (p X : ByteArray) (hi : fm.data.toList[i]? = some c) (hp : ps[i]? = some p) (hs : Sh c p X) (h : Rest fm sc d ps R f (i + 1) (q + p.size) (out ++ [X])) : Rest fm sc d ps R (f + 1) i q out := by
  obtain ⟨h1, e1⟩ := get_list hi
  exact .inr ⟨h1, .inr ⟨p, hp, hs.1, .inr (.inr ⟨X, by rw [e1]; exact hs, h⟩)⟩⟩

theorem rest_mp {fm sc d : ByteArray} {ps R : List ByteArray} {f i q : Nat} {out : List ByteArray} (p : ByteArray) (hi : fm.data.toList[i]? = some 109) (hp : ps[i]? = some p) (hs : p.size ≤ 65535) (h : Rest fm sc d ps R f (i + 1) (q + p.size) (out ++ tyWords p)) : Rest fm sc d ps R (f + 1) i q out := by
  obtain ⟨h1, e1⟩ := get_list hi
  exact .inr ⟨h1, .inr ⟨p, hp, hs, .inl ⟨e1, h⟩⟩⟩

theorem rest_st {fm sc d : ByteArray} {ps R : List ByteArray} {f i q : Nat} {out : List ByteArray} (p : ByteArray) (hi : fm.data.toList[i]? = some 42) (hp : ps[i]? = some p) (hs : p.size ≤ 65535) (h : Rest fm sc d ps R f (i + 1) (q + p.size) (out ++ plainWords d)) : Rest fm sc d ps R (f + 1) i q out := by
  obtain ⟨h1, e1⟩ := get_list hi
  exact .inr ⟨h1, .inr ⟨p, hp, hs, .inr (.inl ⟨e1, h⟩)⟩⟩

theorem rest_end {fm sc d : ByteArray} {ps R : List ByteArray} {f i q : Nat} {out : List ByteArray} (hi : i = fm.size) (h : out = R) : Rest fm sc d ps R f i q out := by
  cases f with
  | zero => exact ⟨hi, h⟩
  | succ f => exact .inl ⟨hi, h⟩

theorem parts_cons {p : Dt.Pc} {r : List Dt.Pc} {d : ByteArray} {ps : List ByteArray} (h : Dt.parts (p :: r) d = some ps) : ∃ n l, Dt.sz p d = some n ∧ Dt.parts r (d.extract n d.size) = some l ∧ ps = d.extract 0 n :: l := by
  rw [Dt.parts] at h
  cases hz : Dt.sz p d with
  | none => rw [hz] at h; cases h
  | some n =>
    rw [hz] at h
    simp only [Option.map_eq_some_iff] at h
    obtain ⟨l, h1, h2⟩ := h
    exact ⟨n, l, rfl, h1, h2.symm⟩

theorem parts_bs : ∀ (k : Nat) (r : List Dt.Pc) (x : ByteArray) (l : List ByteArray), Dt.parts (List.replicate k (.bs 1) ++ r) x = some l → k ≤ x.size ∧ Dt.parts r (x.extract k x.size) = some (l.drop k) := by
  intro k
  induction k with
  | zero =>
    intro r x l h
    refine ⟨Nat.zero_le _, ?_⟩
    have e : x.extract 0 x.size = x := by simp
    rw [e]
    simpa using h
  | succ k ih =>
    intro r x l h
    rw [List.replicate_succ, List.cons_append] at h
    obtain ⟨n, l', h1, h2, rfl⟩ := parts_cons h
    obtain ⟨h3, rfl⟩ := sz_bs h1
    obtain ⟨h4, h5⟩ := ih r _ l' h2
    have e : (x.extract 1 x.size).size = x.size - 1 := by simp
    rw [e] at h4
    rw [Dt.ext_ext (by omega) (Nat.le_refl _), Nat.add_comm] at h5
    exact ⟨by omega, by simpa using h5⟩

/-- The form's letters of a kind of words. -/
def lets : Nat → List UInt8
  | 0 => [110]
  | 1 => [116]
  | k + 6 => List.replicate k 98
  | _ => []

theorem drop_cons {α : Type} {l r : List α} {i : Nat} {x : α} (h : l.drop i = x :: r) : l[i]? = some x ∧ l.drop (i + 1) = r := by
  refine ⟨?_, ?_⟩
  · have := congrArg (fun y => y[0]?) h
    simpa using this
  · have := congrArg (fun y => y.drop 1) h
    simpa using this

theorem let_nm : Dt.letP 110 = .nm := by simp [Dt.letP]
theorem let_tx : Dt.letP 116 = .tx := by simp [Dt.letP]
theorem let_bs : Dt.letP 98 = .bs 1 := by simp [Dt.letP]

set_option maxHeartbeats 1000000 in
theorem rest_kinds {S4 S6 : ByteArray → ByteArray × Int} {fm sc d : ByteArray} {ps R : List ByteArray} (hd : d.size ≤ 65535) : ∀ (ks : List Nat) (f i q : Nat) (out : List ByteArray), (∀ K ∈ ks, K = 0 ∨ K = 1 ∨ (7 ≤ K ∧ K ≤ 10)) → i ≤ fm.size → fm.data.toList.drop i = (ks.map lets).flatten → (∀ j K, ks[j]? = some K → 7 ≤ K → ∃ c, sc.data.toList[out.length + j]? = some c ∧ widthOf c = K - 6) → Dt.parts (((ks.map lets).flatten).map Dt.letP) (d.extract q d.size) = some (ps.drop i) → ks.length ≤ f → q ≤ d.size → R = out ++ writeAll S4 S6 ks (d.extract q d.size) → Rest fm sc d ps R f i q out := by
  intro ks
  induction ks with
  | nil =>
    intro f i q out _ hi hfm _ _ _ _ hR
    refine rest_end ?_ ?_
    · have := congrArg List.length hfm
      simp at this
      omega
    · rw [hR]; simp [writeAll]
  | cons K ks ih =>
    intro f i q out hK hi hfm hsc hps hf hq hR
    obtain ⟨f, rfl⟩ : ∃ g, f = g + 1 := ⟨f - 1, by simp at hf; omega⟩
    have hK' : ∀ K ∈ ks, K = 0 ∨ K = 1 ∨ (7 ≤ K ∧ K ≤ 10) := fun K h => hK K (by simp [h])
    have hfl : ks.length ≤ f := by simp at hf; omega
    have hsc' : ∀ j K, ks[j]? = some K → 7 ≤ K → ∃ c, sc.data.toList[out.length + 1 + j]? = some c ∧ widthOf c = K - 6 := by
      intro j K' h1 h2
      have := hsc (j + 1) K' (by simpa using h1) h2
      rwa [show out.length + (j + 1) = out.length + 1 + j by omega] at this
    have hxs : (d.extract q d.size).size = d.size - q := by simp
    rw [List.map_cons, List.flatten_cons] at hfm hps
    rcases hK K (by simp) with rfl | rfl | ⟨h7, h10⟩
    · obtain ⟨g1, g2⟩ := drop_cons (show fm.data.toList.drop i = 110 :: (ks.map lets).flatten from hfm)
      rw [show lets 0 = [110] from rfl, List.cons_append, List.map_cons, let_nm, List.nil_append] at hps
      obtain ⟨n, l, z1, z2, z3⟩ := parts_cons hps
      obtain ⟨p1, p2⟩ := drop_cons z3
      have hn := Dt.sz_le z1
      rw [hxs] at hn
      rw [Dt.ext_ext (by omega) (Nat.le_refl _), ← p2] at z2
      have hpz : ((d.extract q d.size).extract 0 n).size = n := by simp; omega
      refine rest_sh 110 _ _ g1 p1 ⟨by omega, .inl ⟨rfl, rfl⟩⟩ ?_
      rw [hpz]
      have hi1 : i + 1 ≤ fm.size := by
        obtain ⟨hh, _⟩ := get_list g1
        omega
      refine ih f (i + 1) (q + n) _ hK' hi1 g2 ?_ z2 hfl (by omega) ?_
      · simpa using hsc'
      · rw [hR, writeAll, List.append_assoc]
        simp only [wrT, wrN, z1, Option.getD_some, List.singleton_append]
        rw [Dt.ext_ext (by omega) (Nat.le_refl _)]
    · obtain ⟨g1, g2⟩ := drop_cons (show fm.data.toList.drop i = 116 :: (ks.map lets).flatten from hfm)
      rw [show lets 1 = [116] from rfl, List.cons_append, List.map_cons, let_tx, List.nil_append] at hps
      obtain ⟨n, l, z1, z2, z3⟩ := parts_cons hps
      obtain ⟨p1, p2⟩ := drop_cons z3
      have hn := Dt.sz_le z1
      rw [hxs] at hn
      obtain ⟨⟨y1, y2⟩, y3⟩ := sz_tx z1
      rw [Dt.ext_ext (by omega) (Nat.le_refl _), ← p2] at z2
      have hpz : ((d.extract q d.size).extract 0 n).size = n := by simp; omega
      refine rest_sh 116 _ _ g1 p1 ⟨by omega, .inr (.inl ⟨rfl, by omega, rfl⟩)⟩ ?_
      rw [hpz]
      have hi1 : i + 1 ≤ fm.size := by
        obtain ⟨hh, _⟩ := get_list g1
        omega
      refine ih f (i + 1) (q + n) _ hK' hi1 g2 ?_ z2 hfl (by omega) ?_
      · simpa using hsc'
      · rw [hR, writeAll, List.append_assoc]
        simp only [wrT, wrN, List.singleton_append]
        have e : ((d.extract q d.size).extract 0 n).extract 1 n = (d.extract q d.size).extract 1 (1 + b0 (d.extract q d.size)) := by
          rw [ByteArray.extract_extract]
          congr 1
          omega
        rw [← y3] at e ⊢
        rw [e, Dt.ext_ext (by omega) (Nat.le_refl _)]
    · obtain ⟨k, rfl⟩ : ∃ k, K = k + 6 := ⟨K - 6, by omega⟩
      have hl : lets (k + 6) = List.replicate k 98 := rfl
      rw [hl] at hfm hps
      rw [List.map_append, List.map_replicate, let_bs] at hps
      obtain ⟨hks, z2⟩ := parts_bs _ _ _ _ hps
      rw [hxs] at hks
      rw [Dt.ext_ext (by omega) (Nat.le_refl _), List.drop_drop] at z2
      obtain ⟨c, c1, c2⟩ := hsc 0 (k + 6) rfl h7
      have hg1 : fm.data.toList[i]? = some 98 := by
        obtain ⟨k', rfl⟩ : ∃ k', k = k' + 1 := ⟨k - 1, by omega⟩
        rw [List.replicate_succ, List.cons_append] at hfm
        exact (drop_cons hfm).1
      have hlen : i + k ≤ fm.size := by
        have := congrArg List.length hfm
        simp at this
        omega
      refine rest_num c k hg1 (by simpa using c1) (by simpa using c2) (by omega) hlen ?_
      refine ih f (i + k) (q + k) _ hK' hlen ?_ ?_ z2 hfl (by omega) ?_
      · have := congrArg (fun y => y.drop k) hfm
        simpa using this
      · simpa using hsc'
      · rw [hR, writeAll, List.append_assoc]
        simp only [wrT, wrN, List.singleton_append]
        have e : (d.extract q d.size).extract 0 k = d.extract q (q + k) := by
          rw [ByteArray.extract_extract]
          congr 1
          omega
        rw [e, Dt.ext_ext (by omega) (Nat.le_refl _)]
end Go.Proofs.YtephbegencpllaaGreatDoor
