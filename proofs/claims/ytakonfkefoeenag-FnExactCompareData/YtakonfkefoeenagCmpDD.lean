/- CompareData, the program's and the model's, by their contracts; the law's walk. -/
import Derived.Test.YtakonfkefoeenagFoldD
import Derived.Test.YtakonfkefoeenagCmpD
import Derived.Test.YtakonfkefoeenagOrd
namespace Go.Proofs.Ytakonfkefoeenag
open Go.RowKit
set_option linter.unusedVariables false

def cmpR (t : Int) (a b : ByteArray) : Int := if cutCode t a = 0 ∧ cutCode t b = 0 then Nm.ordL (foldR t a).data.toList (foldR t b).data.toList else 0

theorem cmpR_good {t : Int} {a b : ByteArray} (h : cutCode t a = 0) (h' : cutCode t b = 0) : cmpR t a b = Nm.ordL (foldR t a).data.toList (foldR t b).data.toList := by rw [cmpR, if_pos ⟨h, h'⟩]
theorem cmpR_bad {t : Int} {a b : ByteArray} (h : ¬ (cutCode t a = 0 ∧ cutCode t b = 0)) : cmpR t a b = 0 := by rw [cmpR, if_neg h]

set_option maxRecDepth 100000 in
set_option maxHeartbeats 800000 in
theorem specCompareData_any (t : Int) (a b : ByteArray) (w : World) :
    Calls Try.prog 15 #[.int .i64 t, .string a, .string b] w fun e w' => e = .returned (.int .i64 (cmpR t a b)) ∧ Below w.heap.size w w' := by
  have hca := fun w => specCheckData_any t a w
  have hcb := fun w => specCheckData_any t b w
  by_cases ha : cutCode t a = 0
  · rw [ha] at hca
    by_cases hb : cutCode t b = 0
    · have HR := Nm.hide (cmpR_good ha hb)
      rw [hb] at hcb
      have hfa := fun w => specFoldData_any t a w
      have hfb := fun w => specFoldData_any t b w
      have hor := l01Order_any (foldR t a) (foldR t b)
      rw [ByteArray.toList_eq, ByteArray.toList_eq] at hor
      generalize foldR t a = fa at *
      generalize foldR t b = fb at *
      generalize Nm.ordL fa.data.toList fb.data.toList = r at *
      clear ha hb
      go_enter Try.func15, Try.ntmps15
      go_wp2_with fail
      refine (hca _).mono ?_
      rintro e w1 ⟨rfl, hb1⟩
      go_wp2_with fail
      refine (hcb _).mono ?_
      rintro e w2 ⟨rfl, hb2⟩
      go_wp2_with fail
      refine (hfa _).mono ?_
      rintro e w3 ⟨rfl, hb3⟩
      go_wp2_with fail
      refine (hfb _).mono ?_
      rintro e w4 ⟨rfl, hb4⟩
      go_wp2_with fail
      refine (hor _).mono ?_
      rintro e w5 ⟨rfl, hw⟩
      obtain rfl : w4 = w5 := hw.symm
      go_wp2
      go_ret
      rw [HR.out]
      exact ⟨rfl, Nm.below_two (Nm.below_two (Nm.below_two hb1 hb2) hb3) hb4⟩
    · have HR := Nm.hide (cmpR_bad (t := t) (a := a) (b := b) (fun h => hb h.2))
      have hbb : (cutCode t b != 0) = true := by rw [bne_iff_ne]; exact hb
      generalize cutCode t b = c at *
      clear ha hb
      go_enter Try.func15, Try.ntmps15
      go_wp2_with fail
      refine (hca _).mono ?_
      rintro e w1 ⟨rfl, hb1⟩
      go_wp2_with fail
      refine (hcb _).mono ?_
      rintro e w2 ⟨rfl, hb2⟩
      go_wp2
      go_ret
      rw [HR.out]
      exact ⟨rfl, Nm.below_two hb1 hb2⟩
  · have HR := Nm.hide (cmpR_bad (t := t) (a := a) (b := b) (fun h => ha h.1))
    have hab : (cutCode t a != 0) = true := by rw [bne_iff_ne]; exact ha
    generalize cutCode t a = c at *
    clear ha
    go_enter Try.func15, Try.ntmps15
    go_wp2_with fail
    refine (hca _).mono ?_
    rintro e w1 ⟨rfl, hb1⟩
    go_wp2
    go_ret
    rw [HR.out]
    exact ⟨rfl, hb1⟩

theorem cut_facts {t : Int} {d : ByteArray} (h : cutCode t d = 0) : ∃ sp, cutS t d = some sp ∧ (∀ s ∈ sp, s.1 ≤ s.2 ∧ s.2 ≤ d.size) ∧ sp.length ≤ 1000000 ∧ foldR t d = ⟨(Dt.lowAll sp d.data.toList).toArray⟩ := by
  obtain ⟨sp, hsp⟩ := code_zero.1 h
  refine ⟨sp, hsp, ?_, ?_, foldR_good hsp⟩
  · intro s hs
    have := spans_in _ _ _ _ (cut_spans hsp).1 s hs
    omega
  · have h1 := cut_few t d
    rw [hsp] at h1
    simp at h1; omega
theorem cut_row {t : Int} {d : ByteArray} {sp : List (Nat × Nat)} (hd : d.size ≤ 2000000) (h : cutCode t d = 0) (hsp : cutS t d = some sp) (w : World) :
    Calls Try.prog 30 #[.int .i64 t, .string d] w fun e w' => ∃ v, e = .returned (.tuple #[v, .int .i64 0]) ∧ CRow w' v sp.length 2 (spanCells sp) ∧ Below w.heap.size w w' := by
  have hcall := cutData_any t d w hd
  rw [h] at hcall
  refine hcall.mono ?_
  rintro e w' ⟨v, rfl, h1, _, h2⟩
  exact ⟨v, rfl, CRow.of_owns (h1 sp hsp), h2⟩

theorem cut_any {t : Int} {d : ByteArray} {w : World} (hd : d.size ≤ 2000000) :
    Calls Try.prog 30 #[.int .i64 t, .string d] w fun e w' => ∃ v, e = .returned (.tuple #[v, .int .i64 (cutCode t d)]) ∧ Below w.heap.size w w' := by
  refine (cutData_any t d w hd).mono ?_
  rintro e w' ⟨v, rfl, _, _, h2⟩
  exact ⟨v, rfl, h2⟩

set_option maxRecDepth 100000 in
set_option maxHeartbeats 800000 in
theorem implCompareData_any (t : Int) (a b : ByteArray) (w : World) (hza : a.size ≤ 2000000) (hzb : b.size ≤ 2000000) :
    Calls Try.prog 16 #[.int .i64 t, .string a, .string b] w fun e w' => e = .returned (.int .i64 (cmpR t a b)) ∧ Below w.heap.size w w' := by
  by_cases ha : cutCode t a = 0
  · by_cases hb : cutCode t b = 0
    · have HR := Nm.hide (cmpR_good ha hb)
      obtain ⟨sa, hsa, hia, hla, hfa⟩ := cut_facts ha
      obtain ⟨sb, hsb, hib, hlb, hfb⟩ := cut_facts hb
      have hca := fun w => cut_row hza ha hsa w
      have hcb := fun w => cut_row hzb hb hsb w
      have hna := fun v w hr => foldNames_any a v sa w hr hia (by omega) hla
      have hnb := fun v w hr => foldNames_any b v sb w hr hib (by omega) hlb
      rw [← hfa] at hna
      rw [← hfb] at hnb
      generalize foldR t a = fa at *
      generalize foldR t b = fb at *
      have hor := compare_any' fa fb
      generalize Nm.ordL fa.data.toList fb.data.toList = r at *
      clear ha hb hfa hfb hsa hsb
      go_enter Try.func16, Try.ntmps16
      go_wp2_with fail
      refine (hca _).mono ?_
      rintro e w1 ⟨v1, rfl, hr1, hb1⟩
      go_wp2_with fail
      refine (hcb _).mono ?_
      rintro e w2 ⟨v2, rfl, hr2, hb2⟩
      have hr1' := hr1.below hb2
      go_wp2_with fail
      refine (hna v1 _ hr1').mono ?_
      rintro e w3 ⟨rfl, hb3⟩
      have hr2' := hr2.below hb3
      go_wp2_with fail
      refine (hnb v2 _ hr2').mono ?_
      rintro e w4 ⟨rfl, hb4⟩
      go_wp2_with fail
      refine (hor _).mono ?_
      rintro e w5 ⟨rfl, hw⟩
      obtain rfl : w4 = w5 := hw.symm
      go_wp2
      go_ret
      rw [HR.out]
      exact ⟨rfl, Nm.below_two (Nm.below_two (Nm.below_two hb1 hb2) hb3) hb4⟩
    · have HR := Nm.hide (cmpR_bad (t := t) (a := a) (b := b) (fun h => hb h.2))
      have hca := fun w => cut_any (t := t) (d := a) (w := w) hza
      have hcb := fun w => cut_any (t := t) (d := b) (w := w) hzb
      rw [ha] at hca
      have hbb : (cutCode t b != 0) = true := by rw [bne_iff_ne]; exact hb
      generalize cutCode t b = c at *
      clear ha hb
      go_enter Try.func16, Try.ntmps16
      go_wp2_with fail
      refine (hca _).mono ?_
      rintro e w1 ⟨v1, rfl, hb1⟩
      go_wp2_with fail
      refine (hcb _).mono ?_
      rintro e w2 ⟨v2, rfl, hb2⟩
      go_wp2
      go_ret
      rw [HR.out]
      exact ⟨rfl, Nm.below_two hb1 hb2⟩
  · have HR := Nm.hide (cmpR_bad (t := t) (a := a) (b := b) (fun h => ha h.1))
    have hca := fun w => cut_any (t := t) (d := a) (w := w) hza
    have hcb := fun w => cut_any (t := t) (d := b) (w := w) hzb
    have hab : (cutCode t a != 0) = true := by rw [bne_iff_ne]; exact ha
    generalize cutCode t a = c at *
    generalize cutCode t b = c' at *
    clear ha
    go_enter Try.func16, Try.ntmps16
    go_wp2_with fail
    refine (hca _).mono ?_
    rintro e w1 ⟨v1, rfl, hb1⟩
    go_wp2_with fail
    refine (hcb _).mono ?_
    rintro e w2 ⟨v2, rfl, hb2⟩
    go_wp2
    go_ret
    rw [HR.out]
    exact ⟨rfl, Nm.below_two hb1 hb2⟩

theorem cd_same (n : Int) : (n != n) = false := by simp

set_option maxRecDepth 100000 in
set_option maxHeartbeats 400000 in
theorem fnExactCompareData_walk (a0 : Int) (w0 : (Lit.int .i64 a0).wf = true) (a1 : ByteArray) (w1 : a1.size ≤ maxLen) (a2 : ByteArray) (w2 : a2.size ≤ maxLen) (w : World) :
    Calls Try.prog 5 #[.int .i64 a0, .string a1, .string a2] w fun e w' => e = .returned (.bool true) ∧ Below w.heap.size w w' := by
  by_cases hl : 1048576 < a1.size
  · have hl' : (1048576 : Int) < (a1.size : Int) := by omega
    go_enter Try.func5, Try.ntmps5
    go_wp2
    go_ret
    exact ⟨rfl, Below.refl _ _⟩
  by_cases hm : 1048576 < a2.size
  · have hl' : (a1.size : Int) ≤ 1048576 := by omega
    have hm' : (1048576 : Int) < (a2.size : Int) := by omega
    go_enter Try.func5, Try.ntmps5
    go_wp2
    go_ret
    exact ⟨rfl, Below.refl _ _⟩
  · have hl' : (a1.size : Int) ≤ 1048576 := by omega
    have hm' : (a2.size : Int) ≤ 1048576 := by omega
    have hsp := fun W => specCompareData_any a0 a1 a2 W
    have him := fun W => implCompareData_any a0 a1 a2 W (by omega) (by omega)
    have h1 := cd_same (cmpR a0 a1 a2)
    generalize cmpR a0 a1 a2 = c at *
    have Hs := hsp w
    go_enter Try.func5, Try.ntmps5
    go_wp2_with fail
    refine Hs.mono ?_
    rintro e w1 ⟨rfl, hb1⟩
    go_wp2_with fail
    refine (him _).mono ?_
    rintro e w2 ⟨rfl, hb2⟩
    go_wp2
    go_ret
    exact ⟨rfl, Nm.below_two hb1 hb2⟩
end Go.Proofs.Ytakonfkefoeenag
