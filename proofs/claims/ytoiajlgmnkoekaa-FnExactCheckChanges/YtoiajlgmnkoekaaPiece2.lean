import Derived.Test.YtoiajlgmnkoekaaPiece
/- Names at the beginning of a text are names; data folded, by its parts and by its places. -/
namespace Go.Proofs.Ytoiajlgmnkoekaa.Dt
open Go.RowKit
set_option linter.unusedVariables false

theorem ext_get {s : ByteArray} {i e : Nat} (h : i < e) (he : e ≤ s.size) : (s.extract i e)[0]'(by simp; omega) = s[i] := by
  rw [ByteArray.getElem_extract]
  simp

theorem ext_ext {s : ByteArray} {i e n : Nat} (h : i + n ≤ e) (he : e ≤ s.size) : (s.extract i e).extract n (s.extract i e).size = s.extract (i + n) e := by
  rw [ByteArray.extract_extract]
  congr 1
  simp
  omega

theorem nameF_name : ∀ (f : Nat) (s : ByteArray) (i : Nat), (nameF f s i).size ≠ 0 →
    ∃ e, i < e ∧ e ≤ 255 ∧ e ≤ s.size ∧ nameF f s i = s.extract 0 e ∧ ∀ g, e - i < g → (Nm.splitF g (s.extract i e)).isSome = true := by
  intro f
  induction f with
  | zero => intro s i h; simp [nameF] at h
  | succ f ih =>
    intro s i h
    rw [nameF] at h ⊢
    by_cases h1 : i < s.size ∧ i < 255
    · rw [dif_pos h1] at h ⊢
      by_cases h2 : s[i].toNat = 0
      · rw [if_pos h2]
        refine ⟨i + 1, by omega, by omega, by omega, rfl, ?_⟩
        intro g hg
        obtain ⟨g, rfl⟩ : ∃ k, g = k + 1 := ⟨g - 1, by omega⟩
        rw [Nm.splitF_end g _ (by simp; omega) (by rw [ext_get (by omega) (by omega)]; exact h2) (by simp; omega)]
        rfl
      · rw [if_neg h2] at h ⊢
        by_cases h3 : 63 < s[i].toNat
        · rw [if_pos h3] at h; simp at h
        · rw [if_neg h3] at h ⊢
          obtain ⟨e, e1, e2, e3, e4, e5⟩ := ih s _ h
          refine ⟨e, by omega, e2, e3, e4, ?_⟩
          intro g hg
          obtain ⟨g, rfl⟩ : ∃ k, g = k + 1 := ⟨g - 1, by omega⟩
          have hp : 0 < (s.extract i e).size := by simp; omega
          have h0 : (s.extract i e)[0] = s[i] := ext_get (by omega) e3
          rw [Nm.splitF_step g _ hp (by rw [h0]; exact h2) (by rw [h0]; omega) (by rw [h0]; simp; omega), h0, ext_ext (by omega) e3]
          have := e5 g (by omega)
          rw [show i + (s[i].toNat + 1) = i + s[i].toNat + 1 by omega]
          simpa using this
    · rw [dif_neg h1] at h; simp at h

theorem nameAt_name {s : ByteArray} (h : (nameAtS s).size ≠ 0) : (Nm.split (nameAtS s)).isSome = true := by
  obtain ⟨e, e1, e2, e3, e4, e5⟩ := nameF_name 256 s 0 h
  have e6 : nameAtS s = s.extract 0 e := e4
  rw [e6, Nm.split_short _ (by simp; omega)]
  exact e5 256 (by omega)

theorem ext_all (s : ByteArray) : s.extract 0 s.size = s := by simp

theorem splitF_nameF : ∀ (g : Nat) (f : Nat) (s : ByteArray) (i : Nat), s.size ≤ 255 → 255 < f + i → i ≤ s.size → (Nm.splitF g (s.extract i s.size)).isSome = true → nameF f s i = s := by
  intro g
  induction g with
  | zero => intro f s i _ _ _ h; simp [Nm.splitF] at h
  | succ g ih =>
    intro f s i hs hf hi h
    by_cases hp : i < s.size
    · obtain ⟨f, rfl⟩ : ∃ k, f = k + 1 := ⟨f - 1, by omega⟩
      have hz : (s.extract i s.size).size = s.size - i := by simp
      have hq : 0 < (s.extract i s.size).size := by omega
      have h0 : (s.extract i s.size)[0] = s[i] := ext_get hp (Nat.le_refl _)
      rw [nameF, dif_pos ⟨hp, by omega⟩]
      by_cases h2 : s[i].toNat = 0
      · rw [if_pos h2]
        by_cases h3 : (s.extract i s.size).size = 1
        · rw [show i + 1 = s.size by omega]; exact ext_all s
        · rw [Nm.splitF_zero g _ hq (by rw [h0]; exact h2) h3] at h; simp at h
      · rw [if_neg h2]
        by_cases h3 : 63 < s[i].toNat ∨ s.size - i < s[i].toNat + 1
        · rw [Nm.splitF_bad g _ hq (by rw [h0]; exact h2) (by rw [h0, hz]; exact h3)] at h; simp at h
        · rw [if_neg (by omega)]
          rw [Nm.splitF_step g _ hq (by rw [h0]; exact h2) (by rw [h0]; omega) (by rw [h0, hz]; omega), h0, ext_ext (by omega) (Nat.le_refl _)] at h
          refine ih f s _ hs (by omega) (by omega) ?_
          rw [show i + (s[i].toNat + 1) = i + s[i].toNat + 1 by omega] at h
          simpa using h
    · rw [Nm.splitF_empty _ _ (by simp; omega)] at h; simp at h

theorem name_iff (s : ByteArray) : (Nm.split s).isSome = true ↔ (nameAtS s).size ≠ 0 ∧ (nameAtS s).size = s.size := by
  constructor
  · intro h
    by_cases hl : s.size ≤ 255
    · rw [Nm.split_short s hl] at h
      have e : nameAtS s = s := splitF_nameF 256 256 s 0 hl (by omega) (by omega) (by simpa using h)
      rw [e]
      refine ⟨?_, rfl⟩
      intro h0
      rw [Nm.splitF_empty _ _ h0] at h; simp at h
    · rw [Nm.split_long s (by omega)] at h; simp at h
  · rintro ⟨h0, h⟩
    obtain ⟨e, e1, e2, e3, e4, e5⟩ := nameF_name 256 s 0 h0
    have e6 : nameAtS s = s.extract 0 e := e4
    have e7 : e = s.size := by rw [e6] at h; simp at h; omega
    have e8 : nameAtS s = s := by rw [e6, e7]; exact ext_all s
    have := nameAt_name h0
    rwa [e8] at this

/-! Folding. -/

def catL (ps : List ByteArray) : List UInt8 := (ps.map (fun x => x.data.toList)).flatten

def foldL : List Pc → List ByteArray → List UInt8
  | p :: r, x :: xs => (if p.isN then Nm.smallL x.data.toList else x.data.toList) ++ foldL r xs
  | _, _ => []

theorem ext_cat (d : ByteArray) (n : Nat) (h : n ≤ d.size) : (d.extract 0 n).data.toList ++ (d.extract n d.size).data.toList = d.data.toList := by
  have e1 : (d.extract 0 n).data.toList = d.data.toList.take n := by simp
  have e2 : (d.extract n d.size).data.toList = d.data.toList.drop n := by
    simp only [ByteArray.data_extract, Array.toList_extract]
    rw [List.extract_eq_take_drop, List.take_of_length_le (by simp)]
  rw [e1, e2, List.take_append_drop]

theorem parts_cat : ∀ (fs : List Pc) (d : ByteArray) (ps : List ByteArray), parts fs d = some ps → fs.length = ps.length ∧ catL ps = d.data.toList ∧
    ∀ (i : Nat) (p : Pc) (x : ByteArray), fs[i]? = some p → ps[i]? = some x → p.isN = true → (Nm.split x).isSome = true := by
  intro fs
  induction fs with
  | nil =>
    intro d ps h
    rw [parts] at h
    split at h
    · rename_i h0
      simp at h
      subst h
      refine ⟨rfl, ?_, ?_⟩
      · have : d.data.toList.length = 0 := by simpa using h0
        rw [List.length_eq_zero_iff.1 this]; rfl
      · intro i p x h; simp at h
    · simp at h
  | cons p r ih =>
    intro d ps h
    rw [parts] at h
    cases hs : sz p d with
    | none => rw [hs] at h; simp at h
    | some n =>
      rw [hs] at h
      have hn := sz_le hs
      cases hr : parts r (d.extract n d.size) with
      | none => simp [hr] at h
      | some l =>
        simp [hr] at h
        obtain ⟨i1, i2, i3⟩ := ih _ _ hr
        subst h
        refine ⟨by simp [i1], ?_, ?_⟩
        · have : catL (d.extract 0 n :: l) = (d.extract 0 n).data.toList ++ catL l := by simp [catL]
          rw [this, i2, ext_cat d n hn]
        · intro i q x hq hx hN
          cases i with
          | zero =>
            simp at hq hx
            subst hq
            subst hx
            cases p using Pc.elim <;> simp [Pc.isN] at hN
            simp only [sz] at hs
            split at hs
            · simp at hs
            · rename_i h0
              simp at hs
              obtain ⟨e, e1, e2, e3, e4, e5⟩ := nameF_name 256 d 0 h0
              have e6 : nameAtS d = d.extract 0 e := e4
              have e7 : e = n := by rw [e6] at hs; simp at hs; omega
              rw [← e7, ← e6]
              exact nameAt_name h0
          | succ i =>
            simp at hq hx
            exact i3 i q x hq hx hN

def lowIn (s : Nat × Nat) (l : List UInt8) : List UInt8 := l.take s.1 ++ (Nm.smallL ((l.drop s.1).take (s.2 - s.1)) ++ l.drop s.2)
def lowAll (sp : List (Nat × Nat)) (l : List UInt8) : List UInt8 := sp.foldl (fun l s => lowIn s l) l

theorem lowAll_parts : ∀ (fs : List Pc) (ps : List ByteArray) (pre : List UInt8), fs.length = ps.length → lowAll (spansOf fs ps pre.length) (pre ++ catL ps) = pre ++ foldL fs ps := by
  intro fs
  induction fs with
  | nil =>
    intro ps pre h
    have : ps = [] := List.length_eq_zero_iff.1 (by simpa using h.symm)
    subst this
    simp [spansOf, lowAll, foldL, catL]
  | cons p r ih =>
    intro ps pre h
    cases ps with
    | nil => simp at h
    | cons x xs =>
      have hl : r.length = xs.length := by simpa using h
      have hx : x.data.toList.length = x.size := by simp
      have hc : catL (x :: xs) = x.data.toList ++ catL xs := by simp [catL]
      rw [spansOf, hc, foldL]
      cases hN : p.isN with
      | true =>
        simp only [if_true]
        have e1 : lowIn (pre.length, pre.length + x.size) (pre ++ (x.data.toList ++ catL xs)) = (pre ++ Nm.smallL x.data.toList) ++ catL xs := by
          have k1 : (pre ++ (x.data.toList ++ catL xs)).take pre.length = pre := List.take_left' rfl
          have k2 : (pre ++ (x.data.toList ++ catL xs)).drop pre.length = x.data.toList ++ catL xs := List.drop_left' rfl
          have k3 : (x.data.toList ++ catL xs).take x.size = x.data.toList := List.take_left' hx
          have k4 : (pre ++ (x.data.toList ++ catL xs)).drop (pre.length + x.size) = catL xs := by
            rw [← List.append_assoc]
            exact List.drop_left' (by rw [List.length_append, hx])
          simp only [lowIn]
          rw [k1, k2, Nat.add_sub_cancel_left, k3, k4, List.append_assoc]
        have e2 : lowAll ((pre.length, pre.length + x.size) :: spansOf r xs (pre.length + x.size)) (pre ++ (x.data.toList ++ catL xs)) = lowAll (spansOf r xs (pre.length + x.size)) ((pre ++ Nm.smallL x.data.toList) ++ catL xs) := by
          rw [← e1]; rfl
        have e3 : pre.length + x.size = (pre ++ Nm.smallL x.data.toList).length := by simp [Nm.smallL]
        rw [e2, e3, ih xs _ hl]
        simp
      | false =>
        simp only [if_false, Bool.false_eq_true]
        have e3 : pre.length + x.size = (pre ++ x.data.toList).length := by simp
        rw [e3, ← List.append_assoc, ih xs _ hl]
        simp

/-- Data folded; nothing where it is not of its form. -/
def foldDS (t : Int) (d : ByteArray) : ByteArray :=
  match spans (implP t) 0 d with
  | none => ByteArray.empty
  | some sp => ⟨(lowAll sp d.data.toList).toArray⟩

theorem foldDS_none {t : Int} {d : ByteArray} (h : parts (specP t) d = none) : foldDS t d = ByteArray.empty := by
  rw [foldDS, ← forms_agree, spans_of_parts, h]; rfl

theorem foldDS_some {t : Int} {d : ByteArray} {ps : List ByteArray} (h : parts (specP t) d = some ps) : foldDS t d = ⟨(foldL (specP t) ps).toArray⟩ := by
  obtain ⟨h1, h2, h3⟩ := parts_cat _ _ _ h
  rw [foldDS, ← forms_agree, spans_of_parts, h]
  have := lowAll_parts (specP t) ps [] h1
  simp only [List.length_nil, List.nil_append] at this
  rw [h2] at this
  simp only [Option.map_some, this]
end Go.Proofs.Ytoiajlgmnkoekaa.Dt
