import Derived.Test.YtkiadnglbjamfaaPfT
/- spec.CheckProof by its contract: all its ways. -/
namespace Go.Proofs.Ytkiadnglbjamfaa
open Go.RowKit
set_option linter.unusedVariables false

theorem proof_long {a b : ByteArray} {q : Int} {rs : List Rr} (h : ¬ rs.length ≤ 20) : proofS a b q rs = 0 := by
  rw [proofS]
  split
  · rw [if_neg]
    intro hc
    simp only [Bool.and_eq_true, decide_eq_true_eq] at hc
    exact h hc.2
  · rfl

set_option maxRecDepth 100000 in
set_option maxHeartbeats 1600000 in
theorem specCheckProof_any (a b : ByteArray) (q : Int) (v : Value) (rs : List Rr) (w : World) (ha : a.size ≤ maxLen) (hb : b.size ≤ maxLen) (h : CRow w v rs.length 5 (rvVs rs)) (hz : ∀ r ∈ rs, r.own.size ≤ maxLen ∧ r.da.size ≤ 2000000) :
    Calls Try.prog 5 #[.string a, .string b, .int .i64 q, v] w fun e w' => e = .returned (.int .i64 (proofS a b q rs)) ∧ Below w.heap.size w w' := by
  have hok := fun W => specNameOK_any a W ha
  have hub := fun W => specIsUnder_any b a W hb ha
  cases hqa : Nm.split a with
  | none =>
    have HV := Nm.hide (proof_left (b := b) (q := q) (rs := rs) hqa)
    rw [hqa] at hok
    obtain ⟨_, va, vc, rfl, _⟩ := h
    clear hqa hub
    go_enter Try.func5, Try.ntmps5
    go_wp2_with fail
    refine (hok _).mono ?_
    rintro e w1 ⟨rfl, b1⟩
    go_wp2
    go_ret
    rw [HV.out]
    exact ⟨rfl, b1⟩
  | some ax =>
    rw [hqa] at hok
    cases hU : isUnderS b a with
    | false =>
      have HV := Nm.hide (show proofS a b q rs = 0 by
        cases hqb : Nm.split b with
        | none => exact proof_right hqb
        | some x =>
          rw [isUnder_some hqb hqa] at hU
          exact proof_out hqa hqb (by rw [hU]; rfl))
      rw [hU] at hub
      obtain ⟨_, va, vc, rfl, _⟩ := h
      clear hqa hU
      go_enter Try.func5, Try.ntmps5
      go_wp2_with fail
      refine (hok _).mono ?_
      rintro e w1 ⟨rfl, b1⟩
      go_wp2_with fail
      refine (hub _).mono ?_
      rintro e w2 ⟨rfl, b2⟩
      go_wp2
      go_ret
      rw [HV.out]
      exact ⟨rfl, Nm.below_two b1 b2⟩
    | true =>
      cases hqb : Nm.split b with
      | none => rw [isUnder_left hqb] at hU; cases hU
      | some x =>
        have hU2 := hU
        rw [isUnder_some hqb hqa] at hU2
        rw [hU] at hub
        by_cases hq1 : 0 < q
        · by_cases hq2 : q ≤ 65535
          · by_cases hq3 : q = 255
            · have HV := Nm.hide (proof_out (q := q) (rs := rs) hqa hqb (by rw [hq3, show oneB 255 = false by decide, Bool.and_false]))
              obtain ⟨_, va, vc, rfl, _⟩ := h
              subst hq3
              clear hqa hqb hU hU2
              go_enter Try.func5, Try.ntmps5
              go_wp2_with fail
              refine (hok _).mono ?_
              rintro e w1 ⟨rfl, b1⟩
              go_wp2_with fail
              refine (hub _).mono ?_
              rintro e w2 ⟨rfl, b2⟩
              go_wp2
              go_ret
              rw [HV.out]
              exact ⟨rfl, Nm.below_two b1 b2⟩
            · have hO : oneB q = true := by simp [oneB, hq1, hq2, hq3]
              by_cases hl : rs.length ≤ 20
              · have hp := proof_in (rs := rs) hqa hqb hU2 hO
                rw [openO, if_pos hl] at hp
                rw [hp]
                exact specCheckProof_loop a b ax x q v rs w ha hb hqa hqb hU2 hO hl h hz
              · have HV := Nm.hide (proof_long (a := a) (b := b) (q := q) hl)
                obtain ⟨_, va, vc, rfl, _⟩ := h
                have hl' : (20 : Int) < (rs.length : Int) := by omega
                have hq1' : ¬ (q < 1) := by omega
                have hq2' : ¬ (65535 < q) := by omega
                have hq3' : (q == 255) = false := by rw [beq_eq_false_iff_ne]; exact hq3
                clear hqa hqb hU hU2 hO hq3
                go_enter Try.func5, Try.ntmps5
                go_wp2_with fail
                refine (hok _).mono ?_
                rintro e w1 ⟨rfl, b1⟩
                go_wp2_with fail
                refine (hub _).mono ?_
                rintro e w2 ⟨rfl, b2⟩
                go_wp2
                go_ret
                rw [HV.out]
                exact ⟨rfl, Nm.below_two b1 b2⟩
          · have HV := Nm.hide (proof_out (q := q) (rs := rs) hqa hqb (by rw [show oneB q = false by simp [oneB, hq2], Bool.and_false]))
            obtain ⟨_, va, vc, rfl, _⟩ := h
            have hq1' : ¬ (q < 1) := by omega
            have hq2' : 65535 < q := by omega
            clear hqa hqb hU hU2 hq2
            go_enter Try.func5, Try.ntmps5
            go_wp2_with fail
            refine (hok _).mono ?_
            rintro e w1 ⟨rfl, b1⟩
            go_wp2_with fail
            refine (hub _).mono ?_
            rintro e w2 ⟨rfl, b2⟩
            go_wp2
            go_ret
            rw [HV.out]
            exact ⟨rfl, Nm.below_two b1 b2⟩
        · have HV := Nm.hide (proof_out (q := q) (rs := rs) hqa hqb (by rw [show oneB q = false by simp [oneB, hq1], Bool.and_false]))
          obtain ⟨_, va, vc, rfl, _⟩ := h
          have hq1' : q < 1 := by omega
          clear hqa hqb hU hU2 hq1
          go_enter Try.func5, Try.ntmps5
          go_wp2_with fail
          refine (hok _).mono ?_
          rintro e w1 ⟨rfl, b1⟩
          go_wp2_with fail
          refine (hub _).mono ?_
          rintro e w2 ⟨rfl, b2⟩
          go_wp2
          go_ret
          rw [HV.out]
          exact ⟨rfl, Nm.below_two b1 b2⟩
end Go.Proofs.Ytkiadnglbjamfaa
