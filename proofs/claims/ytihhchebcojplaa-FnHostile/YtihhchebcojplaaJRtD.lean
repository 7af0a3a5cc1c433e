import Derived.Test.YtihhchebcojplaaJRtN
import Derived.Test.YtihhchebcojplaaJMpS
import Derived.Test.YtihhchebcojplaaJDataM
import Derived.Test.YtihhchebcojplaaJIwG
/- Records that were written are read again: mathematics. -/
namespace Go.Proofs.Ytihhchebcojplaa
open Go.RowKit
set_option linter.unusedVariables false

def toPc : Option Nat → Dt.Pc
  | none => .nm
  | some n => .bs n
theorem implP_pieces {t : Nat} (h : pointed t) : Dt.implP t = (piecesOf t).map toPc := by
  rcases h with rfl | rfl | rfl | rfl | rfl <;> rfl

/-- The parts are as the pieces say. -/
def PcOK : List (Option Nat) → List ByteArray → Prop
  | [], [] => True
  | none :: ps, x :: xs => (Nm.split x).isSome = true ∧ PcOK ps xs
  | some n :: ps, x :: xs => x.size = n ∧ PcOK ps xs
  | _, _ => False

theorem parts_ok : ∀ (ps : List (Option Nat)) (d : ByteArray) (xs : List ByteArray), Dt.parts (ps.map toPc) d = some xs → PcOK ps xs := by
  intro ps
  induction ps with
  | nil =>
    intro d xs h
    rw [List.map_nil, Dt.parts] at h
    split at h
    · simp at h; subst h; exact trivial
    · cases h
  | cons p ps ih =>
    intro d xs h
    rw [List.map_cons, Dt.parts] at h
    cases hs : Dt.sz (toPc p) d with
    | none => rw [hs] at h; cases h
    | some n =>
      rw [hs] at h
      have hn := Dt.sz_le hs
      cases hr : Dt.parts (ps.map toPc) (d.extract n d.size) with
      | none => simp [hr] at h
      | some l =>
        simp [hr] at h
        subst h
        have hi := ih _ _ hr
        cases p with
        | none =>
          refine ⟨?_, hi⟩
          simp only [toPc, Dt.sz] at hs
          split at hs
          · cases hs
          · rename_i h0
            simp at hs
            rw [← hs, Dt.name_ext d h0]
            exact Dt.nameAt_name h0
        | some k =>
          refine ⟨?_, hi⟩
          simp only [toPc, Dt.sz] at hs
          split at hs
          · simp at hs
            subst hs
            simp
            omega
          · cases hs

theorem daP_adds : ∀ (fs : List Dt.Pc) (xs : List ByteArray) (s : Wst), ∃ ys, (daP fs xs s).1 = s.1 ++ ys := by
  intro fs
  induction fs with
  | nil => intro xs s; exact ⟨[], by simp [daP]⟩
  | cons p fs ih =>
    intro xs s
    cases xs with
    | nil => exact ⟨[], by simp [daP]⟩
    | cons x xs =>
      rw [daP]
      obtain ⟨ys, hy⟩ := ih xs (if p.isN then nmX x s else (s.1 ++ x.data.toList, s.2))
      cases hN : p.isN with
      | true =>
        rw [hN] at hy
        simp only [if_true] at hy ⊢
        obtain ⟨zs, hz⟩ := nmW_adds ((Nm.split x).getD []) s.1 s.2
        exact ⟨zs ++ ys, by rw [hy, nmX, hz]; simp⟩
      | false =>
        rw [hN] at hy
        simp only [Bool.false_eq_true, if_false] at hy ⊢
        exact ⟨x.data.toList ++ ys, by rw [hy]; simp⟩

theorem daP_more : ∀ (ps : List (Option Nat)) (xs : List ByteArray) (s : Wst), PcOK ps xs → none ∈ ps → s.1.length < (daP (ps.map toPc) xs s).1.length := by
  intro ps
  induction ps with
  | nil => intro xs s h hn; cases hn
  | cons p ps ih =>
    intro xs s h hn
    cases xs with
    | nil => cases p <;> exact absurd h (by simp [PcOK])
    | cons x xs =>
      cases p with
      | none =>
        have e : daP ((none :: ps).map toPc) (x :: xs) s = daP (ps.map toPc) xs (nmX x s) := rfl
        obtain ⟨ys, hy⟩ := daP_adds (ps.map toPc) xs (nmX x s)
        have := nmX_len h.1 s
        rw [e, hy, List.length_append]
        omega
      | some n =>
        have e : daP ((some n :: ps).map toPc) (x :: xs) s = daP (ps.map toPc) xs (s.1 ++ x.data.toList, s.2) := rfl
        have := ih xs (s.1 ++ x.data.toList, s.2) h.2 (by simpa using hn)
        rw [e]
        simp at this
        omega
theorem pieces_name {t : Nat} (h : pointed t) : none ∈ piecesOf t := by
  rcases h with rfl | rfl | rfl | rfl | rfl <;> decide

theorem StD.text {L : List UInt8} {s : Wst} (h : StD L s) (xs : List UInt8) : StD L (s.1 ++ xs, s.2) := ⟨h.ok.mono (by simp), h.pl, fun p hp => by have := h.lt p hp; simp; omega⟩

theorem dtP_dec {L : List UInt8} : ∀ (ps : List (Option Nat)) (xs : List ByteArray) (s : Wst) (acc : List UInt8), PcOK ps xs → StD L s → Has L s.1.length ((daP (ps.map toPc) xs s).1.drop s.1.length) →
    dtP L (daP (ps.map toPc) xs s).1.length ps s.1.length acc = .ok (acc ++ Dt.catL xs) (daP (ps.map toPc) xs s).1.length ∧ StD L (daP (ps.map toPc) xs s) := by
  intro ps
  induction ps with
  | nil =>
    intro xs s acc hp hs hag
    cases xs with
    | nil => exact ⟨by simp [daP, dtP, Dt.catL], hs⟩
    | cons x xs => exact absurd hp (by simp [PcOK])
  | cons p ps ih =>
    intro xs s acc hp hs hag
    cases xs with
    | nil => cases p <;> exact absurd hp (by simp [PcOK])
    | cons x xs =>
      have hcat : Dt.catL (x :: xs) = x.data.toList ++ Dt.catL xs := by simp [Dt.catL]
      cases p with
      | none =>
        obtain ⟨h1, h2⟩ := hp
        have e : daP ((none :: ps).map toPc) (x :: xs) s = daP (ps.map toPc) xs (nmX x s) := rfl
        rw [e] at hag ⊢
        obtain ⟨ys, hy⟩ := daP_adds (ps.map toPc) xs (nmX x s)
        obtain ⟨zs, hz⟩ := nmW_adds ((Nm.split x).getD []) s.1 s.2
        have hz' : (nmX x s).1 = s.1 ++ zs := hz
        rw [hy, hz', List.append_assoc, List.drop_left' rfl] at hag
        have g1 : Has L s.1.length ((nmX x s).1.drop s.1.length) := by rw [hz', List.drop_left' rfl]; exact hag.left
        obtain ⟨d1, d2, d3⟩ := nmX_dec h1 hs.ok hs.pl hs.lt g1
        have hs2 : StD L (nmX x s) := ⟨nmX_ok x s hs.ok, d2, d3⟩
        have g2 : Has L (nmX x s).1.length ((daP (ps.map toPc) xs (nmX x s)).1.drop (nmX x s).1.length) := by
          rw [hy, List.drop_left' rfl]
          have := hag.right
          rwa [show s.1.length + zs.length = (nmX x s).1.length by rw [hz']; simp] at this
        have hle : (nmX x s).1.length ≤ (daP (ps.map toPc) xs (nmX x s)).1.length := by rw [hy]; simp
        obtain ⟨i1, i2⟩ := ih xs (nmX x s) (acc ++ x.data.toList) h2 hs2 g2
        refine ⟨?_, i2⟩
        rw [dtP, d1]
        simp only
        rw [if_pos hle, i1, hcat, List.append_assoc]
      | some n =>
        obtain ⟨h1, h2⟩ := hp
        have e : daP ((some n :: ps).map toPc) (x :: xs) s = daP (ps.map toPc) xs (s.1 ++ x.data.toList, s.2) := rfl
        rw [e] at hag ⊢
        obtain ⟨ys, hy⟩ := daP_adds (ps.map toPc) xs (s.1 ++ x.data.toList, s.2)
        have hxl : x.data.toList.length = n := by rw [← h1]; simp
        simp only at hy
        rw [hy, List.append_assoc, List.drop_left' rfl] at hag
        have hs2 := hs.text x.data.toList
        have g2 : Has L (s.1 ++ x.data.toList).length ((daP (ps.map toPc) xs (s.1 ++ x.data.toList, s.2)).1.drop (s.1 ++ x.data.toList).length) := by
          rw [hy, List.drop_left' rfl, List.length_append]
          exact hag.right
        have hl2 : (s.1 ++ x.data.toList).length = s.1.length + n := by rw [List.length_append, hxl]
        have hle : s.1.length + n ≤ (daP (ps.map toPc) xs (s.1 ++ x.data.toList, s.2)).1.length := by rw [hy]; simp; omega
        have hcut : cutL L s.1.length n = x.data.toList := by rw [cutL, ← hxl]; exact hag.left.cut
        obtain ⟨i1, i2⟩ := ih xs (s.1 ++ x.data.toList, s.2) (acc ++ x.data.toList) h2 hs2 g2
        refine ⟨?_, i2⟩
        simp only [hl2] at i1
        rw [dtP, if_pos hle, hcut, i1, hcat, List.append_assoc]

/-- Data as it is written where names may have pointers. -/
theorem daW_impl {t : Nat} {d : ByteArray} (hp : pointed t) (hd : d.size ≠ 0) (hc : cutCode t d = 0) (s : Wst) : ∃ xs, Dt.parts (Dt.implP t) d = some xs ∧ daW t d s = daP (Dt.implP t) xs s := by
  obtain ⟨h1, _⟩ := (daS_daW (.inr hc) s).1 hp
  obtain ⟨sp, hsp⟩ := code_zero.1 hc
  obtain ⟨ps, g1, g2, g3⟩ := good_parts hc
  have e : Dt.spans (Dt.specP t) 0 d = some (Dt.spansOf (Dt.specP t) ps 0) := by rw [Dt.spans_of_parts, g1]; rfl
  rw [Dt.forms_agree, Dt.spans_of_parts] at e
  cases hq : Dt.parts (Dt.implP t) d with
  | none => rw [hq] at e; cases e
  | some xs =>
    refine ⟨xs, rfl, ?_⟩
    rw [hq] at e
    simp at e
    obtain ⟨p1, p2, p3⟩ := Dt.parts_cat _ _ _ hq
    rw [← h1, g2, Option.getD_some, ← e, daS_parts _ _ _ _ _ _ p1 (Nat.le_refl _) (Nat.zero_le _) (by simpa using p2)]
    have : (d.extract 0 0).data.toList = [] := by rw [ex_list]; simp
    rw [this, List.append_nil]

theorem dataS_dec {L : List UInt8} {t : Nat} {d : ByteArray} {s : Wst} (h : d.size = 0 ∨ cutCode t d = 0) (hs : StD L s) (hag : Has L s.1.length ((daW t d s).1.drop s.1.length)) :
    dataS L t s.1.length (daW t d s).1.length = .ok d.data.toList (daW t d s).1.length ∧ StD L (daW t d s) := by
  by_cases hd : d.size = 0
  · have e : daW t d s = (s.1 ++ d.data.toList, s.2) := by rw [daW, if_pos (.inl hd)]
    have hnil : d.data.toList = [] := List.eq_nil_of_length_eq_zero (by simpa using hd)
    rw [e, hnil, List.append_nil]
    exact ⟨by rw [dataS, if_pos rfl], hs⟩
  · have hc := h.resolve_left hd
    by_cases hp : pointed t
    · obtain ⟨xs, hx, e⟩ := daW_impl hp hd hc s
      rw [e] at hag ⊢
      rw [implP_pieces hp] at hag hx ⊢
      obtain ⟨c1, c2, _⟩ := Dt.parts_cat _ _ _ hx
      obtain ⟨i1, i2⟩ := dtP_dec (piecesOf t) xs s [] (parts_ok _ _ _ hx) hs hag
      refine ⟨?_, i2⟩
      have hne : s.1.length ≠ (daP ((piecesOf t).map toPc) xs s).1.length := by
        have := daP_more (piecesOf t) xs s (parts_ok _ _ _ hx) (pieces_name hp)
        omega
      rw [dataS, if_neg hne, if_pos hp, i1, c2]
      simp
    · have e : daW t d s = (s.1 ++ d.data.toList, s.2) := by rw [daW, if_pos (.inr hp)]
      rw [e] at hag ⊢
      rw [List.drop_left' rfl] at hag
      have hl : (s.1 ++ d.data.toList).length = s.1.length + d.size := by simp
      have hcut : cutL L s.1.length d.size = d.data.toList := by
        have := hag.cut
        rwa [show d.data.toList.length = d.size by simp] at this
      refine ⟨?_, hs.text _⟩
      simp only [hl]
      rw [dataS, if_neg (by omega), if_neg hp, show s.1.length + d.size - s.1.length = d.size by omega, hcut]
      have : (⟨d.data.toList.toArray⟩ : ByteArray) = d := by apply Nm.ba_ext; simp
      rw [this, if_pos hc]

theorem daW_adds (t : Nat) (d : ByteArray) (s : Wst) : ∃ ys, (daW t d s).1 = s.1 ++ ys := by
  rw [daW]
  split
  · exact ⟨_, rfl⟩
  · exact daP_adds _ _ _

theorem set_two (P ys : List UInt8) (a b : UInt8) : ((P ++ [0, 0] ++ ys).set P.length a).set (P.length + 1) b = P ++ [a, b] ++ ys := by
  have e1 : P ++ [0, 0] ++ ys = P ++ (0 :: 0 :: ys) := by simp
  have e2 : P ++ [a, b] ++ ys = P ++ (a :: b :: ys) := by simp
  rw [e1, e2, List.set_append_right _ _ (Nat.le_refl _), Nat.sub_self, List.set_cons_zero, List.set_append_right _ _ (by omega), Nat.add_sub_cancel_left]
  rfl

theorem rrFin_eq {A D : Wst} {P ys : List UInt8} (hA : A.1 = P ++ [0, 0]) (hD : D.1 = A.1 ++ ys) : (rrFin A.1.length D).1 = P ++ put2 ys.length ++ ys := by
  have hl : A.1.length = P.length + 2 := by rw [hA]; simp
  have hn : D.1.length - A.1.length = ys.length := by rw [hD]; simp
  rw [rrFin, hn, hl, show P.length + 2 - 2 = P.length by omega, show P.length + 2 - 1 = P.length + 1 by omega, hD, hA]
  exact set_two P ys _ _

theorem rrS_dec {L : List UInt8} {r : Rr} {s : Wst} (h : rcOK r = true) (hs : StD L s) (hpre : (rrW r s).1 <+: L) : rrS L s.1.length = .ok (rmOf r) (rrW r s).1.length ∧ StD L (rrW r s) := by
  obtain ⟨h1, ⟨t, ht, htl⟩, ⟨c, hc, hcl⟩, h4, h5, h6, h7⟩ := rc_parts h
  rw [ht] at h6
  obtain ⟨ls, hls⟩ := Option.isSome_iff_exists.1 h1
  obtain ⟨xs, hxs⟩ := nmW_adds ls s.1 s.2
  rw [← nmX_of hls s] at hxs
  have hN := nmX_len h1 s
  generalize hNm : nmX r.own s = N at *
  have hA : (rrA r.own t c r.tt s).1 = (N.1 ++ (put2 t ++ put2 c ++ put4 r.tt)) ++ [0, 0] := by simp [rrA, hNm]
  have hA2 : (rrA r.own t c r.tt s).2 = N.2 := by simp [rrA, hNm]
  have hAl : (rrA r.own t c r.tt s).1.length = N.1.length + 10 := by rw [hA]; simp [put2, put4]
  obtain ⟨ys, hys⟩ := daW_adds t r.da (rrA r.own t c r.tt s)
  have hdl := daW_len h6 (rrA r.own t c r.tt s)
  have hyl : ys.length < 65536 := by rw [hys, List.length_append] at hdl; omega
  have hW : (rrW r s).1 = (N.1 ++ (put2 t ++ put2 c ++ put4 r.tt)) ++ put2 ys.length ++ ys := by
    have := rrFin_eq hA hys
    rw [rrW, ht, hc]
    simp only [Int.toNat_natCast]
    exact this
  have hW2 : (rrW r s).2 = (daW t r.da (rrA r.own t c r.tt s)).2 := by rw [rrW, ht, hc]; rfl
  rw [hW] at hpre
  have hag : Has L s.1.length (N.1.drop s.1.length) := by
    rw [hxs, List.drop_left' rfl]
    exact Has.of_pre hpre (ys := s.1) (zs := (put2 t ++ put2 c ++ put4 r.tt) ++ put2 ys.length ++ ys) (by rw [hxs]; simp) rfl
  obtain ⟨d1, d2, d3⟩ := nmX_dec h1 hs.ok hs.pl hs.lt (by rw [hNm]; exact hag)
  rw [hNm] at d1 d2 d3
  have hNk : PlOK N.2 N.1.length := by rw [← hNm]; exact nmX_ok r.own s hs.ok
  have g1 : Has L N.1.length (put2 t) := Has.of_pre hpre (ys := N.1) (zs := put2 c ++ put4 r.tt ++ put2 ys.length ++ ys) (by simp) rfl
  have g2 : Has L (N.1.length + 2) (put2 c) := Has.of_pre hpre (ys := N.1 ++ put2 t) (zs := put4 r.tt ++ put2 ys.length ++ ys) (by simp) (by simp [put2])
  have g3 : Has L (N.1.length + 4) (put4 r.tt) := Has.of_pre hpre (ys := N.1 ++ put2 t ++ put2 c) (zs := put2 ys.length ++ ys) (by simp) (by simp [put2])
  have g4 : Has L (N.1.length + 8) (put2 ys.length) := Has.of_pre hpre (ys := N.1 ++ put2 t ++ put2 c ++ put4 r.tt) (zs := ys) (by simp) (by simp [put2, put4])
  have g5 : Has L (N.1.length + 10) ys := Has.of_pre hpre (ys := N.1 ++ put2 t ++ put2 c ++ put4 r.tt ++ put2 ys.length) (zs := []) (by simp) (by simp [put2, put4])
  have hle : N.1.length + 10 + ys.length ≤ L.length := by
    obtain ⟨z, rfl⟩ := hpre
    simp [put2, put4]
    omega
  have hsA : StD L (rrA r.own t c r.tt s) := by
    refine ⟨rrA_ok _ _ _ _ _ hs.ok, by rw [hA2]; exact d2, fun p hp => ?_⟩
    rw [hA2] at hp
    have := d3 p hp
    rw [hAl]
    omega
  have hagD : Has L (rrA r.own t c r.tt s).1.length ((daW t r.da (rrA r.own t c r.tt s)).1.drop (rrA r.own t c r.tt s).1.length) := by
    rw [hys, List.drop_left' rfl, hAl]
    exact g5
  obtain ⟨e1, e2⟩ := dataS_dec h6 hsA hagD
  have hDl : (daW t r.da (rrA r.own t c r.tt s)).1.length = N.1.length + 10 + ys.length := by rw [hys, List.length_append, hAl]
  rw [hAl, hDl] at e1
  have hRl : (rrW r s).1.length = N.1.length + 10 + ys.length := by rw [hW]; simp [put2, put4]; omega
  refine ⟨?_, ⟨rrW_ok r s hs.ok, by rw [hW2]; exact e2.pl, fun p hp => ?_⟩⟩
  · have q3 := n32_has g3 h4 h5
    rw [rrS, d1]
    simp only
    rw [n16_has g4 hyl, if_pos (by omega), if_pos hle, n16_has g1 htl, n16_has g2 hcl, e1, hRl]
    simp only
    rw [rmOf, ht, hc]
    simp only [Int.toNat_natCast]
    rw [show n32 L (N.1.length + 4) = r.tt.toNat by omega]
  · rw [hW2] at hp
    have := e2.lt p hp
    rw [hDl] at this
    rw [hRl]
    exact this
end Go.Proofs.Ytihhchebcojplaa
/- A message that was written is read again: mathematics. -/
namespace Go.Proofs.Ytihhchebcojplaa
open Go.RowKit
set_option linter.unusedVariables false

theorem nmX_pre (x : ByteArray) (s : Wst) : s.1 <+: (nmX x s).1 := by
  obtain ⟨xs, h⟩ := nmW_adds ((Nm.split x).getD []) s.1 s.2
  exact ⟨xs, h.symm⟩
theorem qqW_pre (q : Qr) (s : Wst) : s.1 <+: (qqW q s).1 := (nmX_pre q.nm s).trans ⟨_, rfl⟩
theorem qqWs_pre : ∀ (l : List Qr) (s : Wst), s.1 <+: (qqWs l s).1 := by
  intro l
  induction l with
  | nil => intro s; exact List.prefix_refl _
  | cons q l ih => intro s; rw [qqWs_cons]; exact (qqW_pre q s).trans (ih _)
theorem rrW_pre {r : Rr} (h : rcOK r = true) (s : Wst) : s.1 <+: (rrW r s).1 := by
  obtain ⟨h1, ⟨t, ht, htl⟩, ⟨c, hc, hcl⟩, _⟩ := rc_parts h
  have hA : (rrA r.own t c r.tt s).1 = ((nmX r.own s).1 ++ (put2 t ++ put2 c ++ put4 r.tt)) ++ [0, 0] := by simp [rrA]
  obtain ⟨ys, hys⟩ := daW_adds t r.da (rrA r.own t c r.tt s)
  have hW : (rrW r s).1 = ((nmX r.own s).1 ++ (put2 t ++ put2 c ++ put4 r.tt)) ++ put2 ys.length ++ ys := by
    have := rrFin_eq hA hys
    rw [rrW, ht, hc]
    simp only [Int.toNat_natCast]
    exact this
  rw [hW, List.append_assoc, List.append_assoc]
  exact (nmX_pre r.own s).trans ⟨_, rfl⟩
theorem rrWs_pre : ∀ (l : List Rr) (s : Wst), l.all rcOK = true → s.1 <+: (rrWs l s).1 := by
  intro l
  induction l with
  | nil => intro s h; exact List.prefix_refl _
  | cons r l ih =>
    intro s h
    simp only [List.all_cons, Bool.and_eq_true] at h
    rw [rrWs_cons]
    exact (rrW_pre h.1 s).trans (ih _ h.2)

theorem manyQ_dec {L : List UInt8} : ∀ (l : List Qr) (s : Wst) (acc : List Qm), l.all quOK = true → StD L s → (qqWs l s).1 <+: L → manyS (quS L) l.length s.1.length acc = .ok (acc ++ l.map qmOf) (qqWs l s).1.length ∧ StD L (qqWs l s) := by
  intro l
  induction l with
  | nil => intro s acc h hs hp; exact ⟨by simp [manyS, qqWs], hs⟩
  | cons q l ih =>
    intro s acc h hs hp
    simp only [List.all_cons, Bool.and_eq_true] at h
    rw [qqWs_cons] at hp ⊢
    obtain ⟨d1, d2⟩ := quS_dec h.1 hs ((qqWs_pre l _).trans hp)
    obtain ⟨i1, i2⟩ := ih (qqW q s) (acc ++ [qmOf q]) h.2 d2 hp
    refine ⟨?_, i2⟩
    rw [List.length_cons, manyS, d1]
    simp only
    rw [i1]
    simp
theorem manyR_dec {L : List UInt8} : ∀ (l : List Rr) (s : Wst) (acc : List Rm), l.all rcOK = true → StD L s → (rrWs l s).1 <+: L → manyS (rrS L) l.length s.1.length acc = .ok (acc ++ l.map rmOf) (rrWs l s).1.length ∧ StD L (rrWs l s) := by
  intro l
  induction l with
  | nil => intro s acc h hs hp; exact ⟨by simp [manyS, rrWs], hs⟩
  | cons r l ih =>
    intro s acc h hs hp
    simp only [List.all_cons, Bool.and_eq_true] at h
    rw [rrWs_cons] at hp ⊢
    obtain ⟨d1, d2⟩ := rrS_dec h.1 hs ((rrWs_pre l _ h.2).trans hp)
    obtain ⟨i1, i2⟩ := ih (rrW r s) (acc ++ [rmOf r]) h.2 d2 hp
    refine ⟨?_, i2⟩
    rw [List.length_cons, manyS, d1]
    simp only
    rw [i1]
    simp

def mmOf (m : Mg) : Mm := ⟨m.qs.map qmOf, m.an.map rmOf, m.au.map rmOf, m.ex.map rmOf⟩
def flOf (h : Hr) : Nat := flagsS h.qr h.op.toNat h.aa h.tc h.rd h.ra h.z h.ad h.cd h.code.toNat

theorem msgS_dec {m : Mg} (h : mgOK m = true) (hl : (msgW m).1.length ≤ 65535) :
    msgS (msgW m).1 = .ok (mmOf m) (msgW m).1.length ∧ n16 (msgW m).1 0 = m.hd.id.toNat ∧ n16 (msgW m).1 2 = flOf m.hd := by
  simp only [mgOK, Bool.and_eq_true, decide_eq_true_eq] at h
  obtain ⟨⟨⟨⟨⟨hsm, hhd⟩, hqs⟩, han⟩, hau⟩, hex⟩ := h
  obtain ⟨⟨id, hid, hidl⟩, ⟨op, hop, hopl⟩, ⟨code, hco, hcol⟩⟩ := hd_parts hhd
  have hfl : flOf m.hd < 65536 := by rw [flOf, hop, hco]; exact flagsS_lt _ _ _ _ _ _ _ _ _ _ hopl hcol
  have hlen := hdW_len m
  have p1 : (hdW m, ([] : List (ByteArray × Nat))).1 <+: (qqWs m.qs (hdW m, [])).1 := qqWs_pre _ _
  have p2 := rrWs_pre m.an (qqWs m.qs (hdW m, [])) han
  have p3 := rrWs_pre m.au (rrWs m.an (qqWs m.qs (hdW m, []))) hau
  have p4 := rrWs_pre m.ex (rrWs m.au (rrWs m.an (qqWs m.qs (hdW m, [])))) hex
  have hs0 : StD (msgW m).1 (hdW m, []) := ⟨PlOK_nil _, PlD.nil _, fun p hp => by cases hp⟩
  obtain ⟨q1, q2⟩ := manyQ_dec m.qs (hdW m, []) [] hqs hs0 (p2.trans (p3.trans p4))
  obtain ⟨a1, a2⟩ := manyR_dec m.an _ [] han q2 (p3.trans p4)
  obtain ⟨u1, u2⟩ := manyR_dec m.au _ [] hau a2 p4
  obtain ⟨x1, x2⟩ := manyR_dec m.ex _ [] hex u2 (List.prefix_refl _)
  have hp : hdW m <+: (msgW m).1 := p1.trans (p2.trans (p3.trans p4))
  have hle := hp.length_le
  have hW : hdW m = put2 id ++ put2 (flOf m.hd) ++ (put2 m.qs.length ++ (put2 m.an.length ++ (put2 m.au.length ++ put2 m.ex.length))) := by
    rw [hdW, headL, ← flOf, hid]
    simp
  have g0 : Has (msgW m).1 0 (put2 id) := Has.of_pre hp (ys := []) (zs := put2 (flOf m.hd) ++ (put2 m.qs.length ++ (put2 m.an.length ++ (put2 m.au.length ++ put2 m.ex.length)))) (by rw [hW]; simp) rfl
  have g2 : Has (msgW m).1 2 (put2 (flOf m.hd)) := Has.of_pre hp (ys := put2 id) (zs := put2 m.qs.length ++ (put2 m.an.length ++ (put2 m.au.length ++ put2 m.ex.length))) (by rw [hW]) rfl
  have g4 : Has (msgW m).1 4 (put2 m.qs.length) := Has.of_pre hp (ys := put2 id ++ put2 (flOf m.hd)) (zs := put2 m.an.length ++ (put2 m.au.length ++ put2 m.ex.length)) (by rw [hW]; simp) rfl
  have g6 : Has (msgW m).1 6 (put2 m.an.length) := Has.of_pre hp (ys := put2 id ++ put2 (flOf m.hd) ++ put2 m.qs.length) (zs := put2 m.au.length ++ put2 m.ex.length) (by rw [hW]; simp) rfl
  have g8 : Has (msgW m).1 8 (put2 m.au.length) := Has.of_pre hp (ys := put2 id ++ put2 (flOf m.hd) ++ put2 m.qs.length ++ put2 m.an.length) (zs := put2 m.ex.length) (by rw [hW]; simp) rfl
  have g10 : Has (msgW m).1 10 (put2 m.ex.length) := Has.of_pre hp (ys := put2 id ++ put2 (flOf m.hd) ++ put2 m.qs.length ++ put2 m.an.length ++ put2 m.au.length) (zs := []) (by rw [hW]; simp) rfl
  have n0 := n16_has g0 hidl
  have n2 := n16_has g2 hfl
  have n4 := n16_has g4 (by omega)
  have n6 := n16_has g6 (by omega)
  have n8 := n16_has g8 (by omega)
  have n10 := n16_has g10 (by omega)
  refine ⟨?_, by rw [n0, hid]; simp, n2⟩
  simp only [hlen] at q1
  have hend : (rrWs m.ex (rrWs m.au (rrWs m.an (qqWs m.qs (hdW m, []))))).1.length = (msgW m).1.length := rfl
  rw [msgS, if_neg (by omega), if_neg (by omega), n4, n6, n8, n10, if_neg (by omega), listsS, n4, q1]
  simp only
  rw [n6, a1]
  simp only
  rw [n8, u1]
  simp only
  rw [n10, x1]
  simp only
  rw [hend, if_neg (by omega)]
  rfl

/-- The head's bits are its fields. -/
theorem hd_bits {h : Hr} (k : hdOK h = true) : hdA h.id.toNat (flOf h) = (hrV h).toArray := by
  obtain ⟨⟨id, hid, hidl⟩, ⟨op, hop, hopl⟩, ⟨code, hco, hcol⟩⟩ := hd_parts k
  obtain ⟨i0, b1, i2, b3, b4, b5, b6, b7, b8, b9, i10⟩ := h
  simp only at hid hop hco
  subst hid hop hco
  have t1 := tn_le b1
  have t3 := tn_le b3
  have t4 := tn_le b4
  have t5 := tn_le b5
  have t6 := tn_le b6
  have t7 := tn_le b7
  have t8 := tn_le b8
  have t9 := tn_le b9
  have hb : ∀ (f i : Nat) (b : Bool), f / 2 ^ i % 2 = b.toNat → f.testBit i = b := by
    intro f i b e
    rw [Nat.testBit_eq_decide_div_mod_eq, e]
    cases b <;> rfl
  have hF : flOf ⟨(id : Int), b1, (op : Int), b3, b4, b5, b6, b7, b8, b9, (code : Int)⟩ = 32768 * b1.toNat + op * 2048 + 1024 * b3.toNat + 512 * b4.toNat + 256 * b5.toNat + 128 * b6.toNat + 64 * b7.toNat + 32 * b8.toNat + 16 * b9.toNat + code := by
    simp only [flOf, flagsS, flS_c, Int.toNat_natCast]
  rw [hF]
  simp only [hdA, hrV, Int.toNat_natCast]
  rw [hb _ 15 b1 (by omega), hb _ 10 b3 (by omega), hb _ 9 b4 (by omega), hb _ 8 b5 (by omega), hb _ 7 b6 (by omega), hb _ 6 b7 (by omega), hb _ 5 b8 (by omega), hb _ 4 b9 (by omega)]
  have e1 : (32768 * b1.toNat + op * 2048 + 1024 * b3.toNat + 512 * b4.toNat + 256 * b5.toNat + 128 * b6.toNat + 64 * b7.toNat + 32 * b8.toNat + 16 * b9.toNat + code) / 2048 % 16 = op := by omega
  have e2 : (32768 * b1.toNat + op * 2048 + 1024 * b3.toNat + 512 * b4.toNat + 256 * b5.toNat + 128 * b6.toNat + 64 * b7.toNat + 32 * b8.toNat + 16 * b9.toNat + code) % 16 = code := by omega
  rw [e1, e2]
end Go.Proofs.Ytihhchebcojplaa
