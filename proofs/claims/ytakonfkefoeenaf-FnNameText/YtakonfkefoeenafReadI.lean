/- impl.ReadName by its contract. -/
import Derived.Test.YtakonfkefoeenafReadN
import Derived.Test.YtakonfkefoeenafRead
import Derived.Test.YtakonfkefoeenafJoinL
import Derived.Test.YtakonfkefoeenafClone
namespace Go.Proofs.Ytakonfkefoeenaf
open Go.RowKit

set_option maxRecDepth 100000 in
set_option maxHeartbeats 1600000 in
theorem implReadName_any (t o : ByteArray) (w : World) (ho : o.size ≤ maxLen) :
    Calls Try.prog 15 #[.string t, .string o] w fun e w' => e = .returned (.tuple #[.string (readS t o).1, .int .i64 (readS t o).2]) ∧ Below w.heap.size w w' := by
  have hsp := splitName_any o w ho
  by_cases hform : o.size ≠ 0 ∧ Nm.split o = none
  · have HA := Nm.hide (read_form (t := t) hform)
    have hoe := Nm.tl_not_empty (r := o) (by omega)
    rw [hform.2] at hsp
    clear hform
    go_enter Try.func15, Try.ntmps15
    go_wp2_with fail
    refine hsp.mono ?_
    rintro e w1 ⟨v, rfl, hown, hbel⟩
    go_wp2
    go_ret2
    rw [HA.out]
    exact ⟨rfl, hbel⟩
  · have hgu : (o.toList.isEmpty = true) ∨ (o.toList.isEmpty = false ∧ (Nm.split o).isSome = true) := by
      by_cases h0 : o.size = 0
      · exact .inl (Nm.tl_empty h0)
      · refine .inr ⟨Nm.tl_not_empty (by omega), ?_⟩
        cases hq : Nm.split o with
        | none => exact absurd ⟨h0, hq⟩ hform
        | some zs => rfl
    by_cases hlong : 1100 < t.size
    · have HA := Nm.hide (read_long hform hlong)
      have hl' : (1100 : Int) < (t.size : Int) := by omega
      clear hform
      generalize Nm.split o = so at *
      rcases hgu with h1 | ⟨h1, h2⟩
      all_goals
        go_enter Try.func15, Try.ntmps15
        go_wp2_with fail
        refine hsp.mono ?_
        rintro e w1 ⟨v, rfl, hown, hbel⟩
        go_wp2
        go_ret2
        rw [HA.out]
        exact ⟨rfl, hbel⟩
    by_cases hemp : t.size = 0
    · have HA := Nm.hide (read_empty hform hemp)
      have hl' : (t.size : Int) ≤ 1100 := by omega
      have hte := Nm.tl_empty hemp
      clear hform
      generalize Nm.split o = so at *
      rcases hgu with h1 | ⟨h1, h2⟩
      all_goals
        go_enter Try.func15, Try.ntmps15
        go_wp2_with fail
        refine hsp.mono ?_
        rintro e w1 ⟨v, rfl, hown, hbel⟩
        go_wp2
        go_ret2
        rw [HA.out]
        exact ⟨rfl, hbel⟩
    have hl' : (t.size : Int) ≤ 1100 := by omega
    have hte := Nm.tl_not_empty (r := t) (by omega)
    cases hat : (t.toList == [64]) with
    | true =>
      have hra := read_at hform (by omega) (by omega) hat
      by_cases h0 : o.size = 0
      · have HA := Nm.hide (hra.trans (if_pos h0))
        have hoe := Nm.tl_empty h0
        clear hform hra hgu
        go_enter Try.func15, Try.ntmps15
        go_wp2_with fail
        refine hsp.mono ?_
        rintro e w1 ⟨v, rfl, hown, hbel⟩
        go_wp2
        go_ret2
        rw [HA.out]
        exact ⟨rfl, hbel⟩
      · have HA := Nm.hide (hra.trans (if_neg h0))
        have hoe := Nm.tl_not_empty (r := o) (by omega)
        obtain ⟨zs, hq⟩ : ∃ zs, Nm.split o = some zs := Option.ne_none_iff_exists'.1 (fun h => hform ⟨h0, h⟩)
        have hz := Nm.split_size hq
        rw [hq] at hsp
        clear hform hra hgu hq
        go_enter Try.func15, Try.ntmps15
        go_wp2_with fail
        refine hsp.mono ?_
        rintro e w1 ⟨v, rfl, hown, hbel⟩
        go_wp2_with fail
        refine (clone_any o _ (by omega)).mono ?_
        rintro e w2 ⟨rfl, hbel2⟩
        go_wp2
        go_ret2
        rw [HA.out]
        exact ⟨rfl, Nm.below_two hbel hbel2⟩
    | false =>
      cases hdt : (t.toList == [46]) with
      | true =>
        have HA := Nm.hide (read_dot hform (by omega) (by omega) hat hdt)
        clear hform
        generalize Nm.split o = so at *
        rcases hgu with h1 | ⟨h1, h2⟩
        all_goals
          go_enter Try.func15, Try.ntmps15
          go_wp2_with fail
          refine hsp.mono ?_
          rintro e w1 ⟨v, rfl, hown, hbel⟩
          go_wp2
          go_ret2
          rw [HA.out]
          exact ⟨rfl, hbel⟩
      | false =>
        have hrs := read_scan hform (by omega) (by omega) hat hdt
        have hsc := fun W => scanLabels_any t W (by omega) (by omega)
        have hok := scanS_ok t
        have htb : t.size ≤ 1100 := by omega
        generalize hS : Nm.scanS t = R at *
        clear hS
        obtain ⟨ls, ab, code⟩ := R
        simp only at hrs hsc hok
        by_cases hcode : code ≠ 0
        · have HA := Nm.hide (hrs.trans (if_pos hcode))
          have hc' : (code != 0) = true := by rw [bne_iff_ne]; exact hcode
          clear hform hrs hcode
          generalize Nm.split o = so at *
          rcases hgu with h1 | ⟨h1, h2⟩
          all_goals
            go_enter Try.func15, Try.ntmps15
            go_wp2_with fail
            refine hsp.mono ?_
            rintro e w1 ⟨v, rfl, hown, hbel⟩
            go_wp2_with fail
            refine (hsc _).mono ?_
            rintro e w2 ⟨v2, rfl, hown2, hbel2⟩
            go_wp2
            go_ret2
            rw [HA.out]
            exact ⟨rfl, Nm.below_two hbel hbel2⟩
        · rw [if_neg hcode] at hrs
          have hc0 : code = 0 := Classical.byContradiction hcode
          subst hc0
          have hc' : ((0 : Int) != 0) = false := rfl
          have hw64 := wsum_le64 ls hok.1
          cases ab with
          | true =>
            have HA := Nm.hide ((hrs.trans (if_pos rfl)).trans (make_wire_ok hok.1))
            clear hform hrs hcode
            generalize Nm.split o = so at *
            rcases hgu with h1 | ⟨h1, h2⟩
            all_goals
              go_enter Try.func15, Try.ntmps15
              go_wp2_with fail
              refine hsp.mono ?_
              rintro e w1 ⟨v, rfl, hown, hbel⟩
              go_wp2_with fail
              refine (hsc _).mono ?_
              rintro e w2 ⟨v2, rfl, hown2, hbel2⟩
              go_wp2_with fail
              refine (wire_any v2 ls _ (Nm.SRow.of_owns hown2) (by omega)).mono ?_
              rintro e w3 ⟨rfl, hbel3⟩
              go_wp2
              go_ret2
              rw [HA.out]
              exact ⟨rfl, Nm.below_two (Nm.below_two hbel hbel2) hbel3⟩
          | false =>
            rw [if_neg (by simp)] at hrs
            by_cases h0 : o.size = 0
            · have HA := Nm.hide (hrs.trans (if_pos h0))
              have hoe := Nm.tl_empty h0
              clear hform hrs hcode hgu
              go_enter Try.func15, Try.ntmps15
              go_wp2_with fail
              refine hsp.mono ?_
              rintro e w1 ⟨v, rfl, hown, hbel⟩
              go_wp2_with fail
              refine (hsc _).mono ?_
              rintro e w2 ⟨v2, rfl, hown2, hbel2⟩
              go_wp2
              go_ret2
              rw [HA.out]
              exact ⟨rfl, Nm.below_two hbel hbel2⟩
            · rw [if_neg h0] at hrs
              have hoe := Nm.tl_not_empty (r := o) (by omega)
              obtain ⟨zs, hq⟩ : ∃ zs, Nm.split o = some zs := Option.ne_none_iff_exists'.1 (fun h => hform ⟨h0, h⟩)
              have hz := Nm.split_size hq
              have hzs := (Nm.split_join hq).2
              have hlz := Nm.length_le_wsum zs
              rw [hq] at hsp hrs
              have HA := Nm.hide (hrs.trans (make_wire_ok (ls := ls ++ zs) (by
                intro x hx
                rcases List.mem_append.1 hx with h | h
                · exact hok.1 x h
                · exact hzs x h)))
              have hwa := Nm.wsum_append ls zs
              clear hform hrs hcode hgu hq
              go_enter Try.func15, Try.ntmps15
              go_wp2_with fail
              refine hsp.mono ?_
              rintro e w1 ⟨v, rfl, hown, hbel⟩
              go_wp2_with fail
              refine (hsc _).mono ?_
              rintro e w2 ⟨v2, rfl, hown2, hbel2⟩
              have r1 := (Nm.SRow.of_owns hown).below hbel2
              have r2 := Nm.SRow.of_owns hown2
              simp only [Option.getD_some] at r1 r2
              go_wp2_with fail
              refine (join_any v2 v ls zs _ r2 r1 (by omega) (by omega)).mono ?_
              rintro e w3 ⟨t3, rfl, hown3, hbel3⟩
              go_wp2_with fail
              refine (wire_any t3 (ls ++ zs) _ (Nm.SRow.of_owns hown3) (by omega)).mono ?_
              rintro e w4 ⟨rfl, hbel4⟩
              go_wp2
              go_ret2
              rw [HA.out]
              exact ⟨rfl, Nm.below_two (Nm.below_two (Nm.below_two hbel hbel2) hbel3) hbel4⟩
end Go.Proofs.Ytakonfkefoeenaf
