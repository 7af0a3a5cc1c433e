/- DataNames, the program's and the model's, by their contracts. -/
import Derived.Test.YtakonfkefoeenafGoodM
import Derived.Test.YtakonfkefoeenafSCheck
import Derived.Test.YtakonfkefoeenafCut
import Derived.Test.YtakonfkefoeenafCRow
namespace Go.Proofs.Ytakonfkefoeenaf
open Go.RowKit

/-- Where the telling of names stands. -/
def SAt (fs : List Dt.Pc) (ps : List ByteArray) (sp : List (Nat × Nat)) (k a : Nat) : Prop :=
  Dt.spansOf fs ps 0 = sp ++ Dt.spansOf (fs.drop k) (ps.drop k) a

theorem sat_start (fs : List Dt.Pc) (ps : List ByteArray) : SAt fs ps [] 0 0 := by simp [SAt]
theorem sat_step {fs : List Dt.Pc} {ps : List ByteArray} {sp : List (Nat × Nat)} {k a : Nat} {p : Dt.Pc} {x : ByteArray} (h : SAt fs ps sp k a) (hp : fs[k]? = some p) (hx : ps[k]? = some x) :
    SAt fs ps (sp ++ if p.isN then [(a, a + x.size)] else []) (k + 1) (a + x.size) := by
  obtain ⟨h1, e1⟩ := List.getElem?_eq_some_iff.1 hp
  obtain ⟨h2, e2⟩ := List.getElem?_eq_some_iff.1 hx
  rw [SAt, h, List.drop_eq_getElem_cons h1, List.drop_eq_getElem_cons h2, e1, e2, Dt.spansOf]
  cases p.isN <;> simp
theorem sat_end {fs : List Dt.Pc} {ps : List ByteArray} {sp : List (Nat × Nat)} {k a : Nat} (h : SAt fs ps sp k a) (hk : ps.length ≤ k) : Dt.spansOf fs ps 0 = sp := by
  rw [h, List.drop_eq_nil_of_le hk]
  cases fs.drop k <;> simp [Dt.spansOf]

set_option maxRecDepth 100000 in
set_option maxHeartbeats 1600000 in
theorem specDataNames_any (t : Int) (d : ByteArray) (w : World) :
    Calls Try.prog 16 #[.int .i64 t, .string d] w fun e w' => ∃ v, e = .returned v ∧ w'.ownsRow w.heap.size 66 2 v ((cutS t d).getD []).length (spanCells ((cutS t d).getD [])) ∧ Below w.heap.size w w' := by
  obtain ⟨i0, hi, hz0, hz1, hz2⟩ := info_parts Try.infoSpan
  have hcall := fun w => specCheckData_any t d w
  by_cases hq : cutCode t d = 0
  · obtain ⟨ps, hps, hcs, hds⟩ := good_parts hq
    obtain ⟨hfl, hcat, _⟩ := Dt.parts_cat _ _ _ hps
    have hparts := fun w => l02Parts_any (Dt.formS t) d w (form_ok t) hds
    have hform := l02Form_any t
    have hokf := form_ok t
    have hple : ∀ x ∈ ps, x.size ≤ 65535 := by
      intro x hx
      have h1 := part_le ps x hx
      rw [hcat] at h1
      simp at h1
      omega
    have hpl : ps.length ≤ 100 := by
      have h1 := hokf.1
      rw [← hfl, Dt.specP]
      simpa using h1
    have hplf : ps.length ≤ (Dt.formS t).size := by
      rw [← hfl, Dt.specP]
      simp
    have hst := sat_start (Dt.specP t) ps
    have hend : ∀ (sp : List (Nat × Nat)) (k a : Nat), SAt (Dt.specP t) ps sp k a → ps.length ≤ k → (cutS t d).getD [] = sp := by
      intro sp k a h1 h2
      rw [hcs, Option.getD_some, sat_end h1 h2]
    have hstep : ∀ (sp : List (Nat × Nat)) (k a : Nat) (x : ByteArray), SAt (Dt.specP t) ps sp k a → (hk : k < (Dt.formS t).size) → ps[k]? = some x → SAt (Dt.specP t) ps (sp ++ if decide ((Dt.formS t)[k].toNat = 110) then [(a, a + x.size)] else []) (k + 1) (a + x.size) := by
      intro sp k a x h1 hk hx
      have := sat_step h1 (p := Dt.letP (Dt.formS t)[k]) (by rw [Dt.specP, List.getElem?_map, Nm.get_data hk]; rfl) hx
      rwa [isN_let] at this
    rw [Dt.specP] at hps
    rw [hq] at hcall
    generalize Dt.formS t = f at *
    have hparts : ∀ w : World, Calls Try.prog 42 #[.string f, .string d] w fun e w' => ∃ v, e = .returned (.tuple #[v, .bool true]) ∧ w'.ownsRow w.heap.size 9 1 v ps.length (ps.map Value.string) ∧ Below w.heap.size w w' := by
      intro w
      refine (hparts w).mono ?_
      rintro e w' ⟨v, rfl, h1, h2⟩
      exact ⟨v, by rw [hps]; rfl, h1 _ hps, h2⟩
    have HE := Nm.hide hend
    have HS := Nm.hide hstep
    clear hps hcs hfl hcat hq hend hstep hokf
    generalize (cutS t d).getD [] = SP at *
    go_enter Try.func16, Try.ntmps16
    go_wp2_with (first | (go_at_call 26; refine (hcall _).mono ?_; rintro e w1 ⟨rfl, hb1⟩) | (go_at_call 41; refine (hform _).mono ?_; rintro e w2 ⟨rfl, hw⟩; obtain rfl : w1 = w2 := hw.symm; clear hw) | (go_at_call 42; refine (hparts _).mono ?_; rintro e w3 ⟨vp, rfl, hownp, hb3⟩))
    have hb03 : Below w.heap.size w w3 := Nm.below_two ((Below.refl _ _).alloc (Nat.le_refl _) _ |>.trans (hb1.mono (by simp))) hb3
    have hown3 : w3.ownsRow w.heap.size 66 2 (.slice (some ⟨w.heap.size, 0, none⟩) 0 0) 0 [] := own_below (own_below (World.ownsRow_made w #[] 0 (Nat.le_refl _) (by decide) rfl) hb1) hb3
    obtain ⟨_, ap, capp, rfl, hcapp, hmxp, _⟩ := CRow.of_owns hownp
    clear hcall hparts hform hb1 hb3
    go_loopw [5, 9, 10] (fun v a i wr => ∃ (k a' n : Nat) (sp : List (Nat × Nat)), k ≤ ps.length ∧ i = .int .i64 k ∧ a = .int .i64 a' ∧ a' ≤ k * 65535 ∧ n ≤ k ∧ Hid (sp.length = n) ∧ Hid (SAt (Dt.specP t) ps sp k a') ∧ wr.ownsRow w1.heap.size 9 1 (.slice ap ps.length capp) ps.length (ps.map Value.string) ∧ wr.ownsRow w.heap.size 66 2 v n (spanCells sp) ∧ Below w.heap.size w wr)
      (fun _ _ i _ => ps.length - (intOf i).toNat)
    case atStart => exact ⟨0, 0, 0, [], Nat.zero_le _, rfl, rfl, by omega, Nat.le_refl _, rfl, hst, hownp, hown3, hb03⟩
    case round =>
      obtain ⟨k, a, n, sp, hk, rfl, rfl, ha, hnk, HL, HA, hownr, hown, hbel⟩ := hrel
      clear hownp hown3 hst hb03
      have hsz := hbel.size
      by_cases hlt : k < ps.length
      · have hlt' : (k : Int) < (ps.length : Int) := by omega
        obtain ⟨x, hx⟩ : ∃ x, ps[k]? = some x := ⟨_, List.getElem?_eq_getElem hlt⟩
        have hxs := hple x (List.mem_of_getElem? hx)
        have hkf : k < f.size := by omega
        have hkf' : (k : Int) < (f.size : Int) := by omega
        have HX := Nm.hide (HS.out sp k a x HA.out hkf hx)
        obtain ⟨_, a2, cap2, e2, _, _, hc2⟩ := CRow.of_owns hownr
        cases e2
        obtain ⟨b, off, rfl, hcell⟩ := hc2 (by omega)
        have hcx := hcell k (.string x) (by simp [hx])
        clear hc2 hcell hx
        by_cases hN : f[k].toNat = 110
        · have q1 : ((f[k].toNat : Int) == 110) = true := by rw [beq_iff_eq]; omega
          simp only [hN, decide_true, if_true] at HX
          have HL2 : Hid ((sp ++ [(a, a + x.size)]).length = n + 1) := by
            show _ = _
            rw [List.length_append, HL.out]; rfl
          clear hN HL HA
          go_wp2_with (at_builtin; refine wpList_append_own _ rfl (.tmp 43) (.tmp 47) 33 rfl w.heap.size 66 i0 (.agg #[.int .i64 0, .int .i64 0]) 2 16 Try.underlying33 hi hz0 hz1 hz2 rfl (by decide) _ _ _ rfl (hown.alloc _) ⟨wr.heap.size, 0, none⟩ 1 1 [.int .i64 (a : Int), .int .i64 ((a : Int) + (x.size : Int))] rfl rfl (cell_new2 _ _ _ _) (two_cells _ _ rfl rfl) (by unfold maxLen; omega) (by omega) (by simp; omega) ?_)
          intro v' w6 hown' hgrow _
          have R := cut_step hsz hown hbel _ hown' hgrow
          have R2 := own_apart (hownr.alloc _) (hown.alloc _) (by decide) hgrow
          clear hown' hgrow hown hbel hownr
          go_wp2
          go_roundw
          case rel => exact ⟨k + 1, a + x.size, n + 1, _, by omega, by go_num, by go_num, by omega, by omega, HL2, HX, R2, R.1, R.2⟩
          case measure => simp [intOf]; omega
        · have q1 : ((f[k].toNat : Int) == 110) = false := by rw [beq_eq_false_iff_ne]; omega
          simp only [hN, decide_false, Bool.false_eq_true, if_false, List.append_nil] at HX
          clear hN HA
          go_wp2
          go_roundw
          case rel => exact ⟨k + 1, a + x.size, n, sp, by omega, by go_num, by go_num, by omega, by omega, HL, HX, hownr, hown, hbel⟩
          case measure => simp [intOf]; omega
      · have hlt' : (ps.length : Int) ≤ (k : Int) := by omega
        have HR := Nm.hide (HE.out sp k a HA.out (by omega))
        clear hownr
        go_wp2
        go_ret
        rw [HR.out, HL.out]
        exact ⟨_, rfl, hown, hbel⟩
  · have hno : (cutS t d).getD [] = [] := by
      cases h : cutS t d with
      | none => rfl
      | some sp => exact absurd (code_zero.2 ⟨sp, h⟩) hq
    have HN := Nm.hide hno
    have hb : (cutCode t d != 0) = true := by rw [bne_iff_ne]; exact hq
    generalize cutCode t d = c at *
    clear hq hno
    have hown := World.ownsRow_made (base := w.heap.size) (e := 66) (size := 2) w #[] 0 (Nat.le_refl _) (by decide) rfl
    go_enter Try.func16, Try.ntmps16
    go_wp2_with (go_at_call 26; refine (hcall _).mono ?_; rintro e w1 ⟨rfl, hb1⟩)
    go_ret
    rw [HN.out]
    exact ⟨_, rfl, own_below hown hb1, Nm.below_two ((Below.refl _ _).alloc (Nat.le_refl _) _) hb1⟩

set_option maxRecDepth 100000 in
set_option maxHeartbeats 400000 in
theorem implDataNames_any (t : Int) (d : ByteArray) (w : World) (hd : d.size ≤ 2000000) :
    Calls Try.prog 17 #[.int .i64 t, .string d] w fun e w' => ∃ v, e = .returned v ∧ w'.ownsRow w.heap.size 66 2 v ((cutS t d).getD []).length (spanCells ((cutS t d).getD [])) ∧ Below w.heap.size w w' := by
  have hcall := cutData_any t d w hd
  go_enter Try.func17, Try.ntmps17
  go_wp2_with (go_at_call 43; refine hcall.mono ?_; rintro e w2 ⟨v, rfl, h1, h2, hbel⟩)
  go_ret
  refine ⟨_, rfl, ?_, hbel⟩
  cases h : cutS t d with
  | none => rw [h2 h]; exact World.ownsRow_nil _ _ _ _
  | some sp => exact h1 sp h
end Go.Proofs.Ytakonfkefoeenaf
