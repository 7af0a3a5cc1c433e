import Derived.Test.YtkiadnglbjamfaaPfP
import Derived.Test.YtkiadnglbjamfaaJJoinL
/- impl.CheckProof by its contract. -/
namespace Go.Proofs.Ytkiadnglbjamfaa
open Go.RowKit
set_option linter.unusedVariables false

set_option maxRecDepth 100000 in
set_option maxHeartbeats 800000 in
theorem isOneType_any (q : Int) (w : World) : Calls Try.prog 22 #[.int .i64 q] w fun e w' => e = .returned (.bool (oneB q)) ∧ w' = w := by
  go_enter Try.func22, Try.ntmps22
  by_cases h1 : 0 < q
  · by_cases h2 : q ≤ 65535
    · by_cases h3 : q = 255
      · subst h3
        rw [show oneB 255 = false by decide]
        go_wp2
        go_ret
        exact ⟨rfl, rfl⟩
      · have HV := Nm.hide (show oneB q = true by simp [oneB, h1, h2, h3])
        have h3' : (q != 255) = true := by simp [h3]
        clear h3
        go_wp2
        go_ret
        rw [HV.out]
        exact ⟨rfl, rfl⟩
    · have HV := Nm.hide (show oneB q = false by simp [oneB, h2])
      have h2' : 65535 < q := by omega
      go_wp2
      go_ret
      rw [HV.out]
      exact ⟨rfl, rfl⟩
  · have HV := Nm.hide (show oneB q = false by simp [oneB, h1])
    have h1' : q ≤ 0 := by omega
    go_wp2
    go_ret
    rw [HV.out]
    exact ⟨rfl, rfl⟩

set_option maxRecDepth 100000 in
set_option maxHeartbeats 1600000 in
theorem implCheckProof_any (a b : ByteArray) (q : Int) (v : Value) (rs : List Rr) (w : World) (ha : a.size ≤ maxLen) (hb : b.size ≤ maxLen) (h : CRow w v rs.length 5 (rvVs rs)) (hz : ∀ r ∈ rs, r.own.size ≤ maxLen ∧ r.da.size ≤ 2000000) :
    Calls Try.prog 7 #[.string a, .string b, .int .i64 q, v] w fun e w' => e = .returned (.int .i64 (proofS a b q rs)) ∧ Below w.heap.size w w' := by
  have hsa := fun W => splitName_any a W ha
  have hsb := fun W => splitName_any b W hb
  have HRow := Nm.hide h
  obtain ⟨_, va, vc, rfl, _⟩ := h
  go_enter Try.func7, Try.ntmps7
  cases hqa : Nm.split a with
  | none =>
    have HV := Nm.hide (proof_left (b := b) (q := q) (rs := rs) hqa)
    rw [hqa] at hsa
    clear hqa
    go_wp2_with fail
    refine (hsa _).mono ?_
    rintro e w1 ⟨v1, rfl, ho1, b1⟩
    obtain ⟨a1, c1, rfl⟩ := own_sl ho1
    go_wp2_with fail
    refine (hsb _).mono ?_
    rintro e w2 ⟨v2, rfl, ho2, b2⟩
    obtain ⟨a2, c2, rfl⟩ := own_sl ho2
    have hB := Nm.below_two b1 b2
    go_wp2
    go_ret
    rw [HV.out]
    exact ⟨rfl, hB⟩
  | some ax =>
    rw [hqa] at hsa
    cases hqb : Nm.split b with
    | none =>
      have HV := Nm.hide (proof_right (a := a) (q := q) (rs := rs) hqb)
      rw [hqb] at hsb
      clear hqa hqb
      go_wp2_with fail
      refine (hsa _).mono ?_
      rintro e w1 ⟨v1, rfl, ho1, b1⟩
      obtain ⟨a1, c1, rfl⟩ := own_sl ho1
      go_wp2_with fail
      refine (hsb _).mono ?_
      rintro e w2 ⟨v2, rfl, ho2, b2⟩
      obtain ⟨a2, c2, rfl⟩ := own_sl ho2
      have hB := Nm.below_two b1 b2
      go_wp2
      go_ret
      rw [HV.out]
      exact ⟨rfl, hB⟩
    | some x =>
      rw [hqb] at hsb
      have hfa := split_few hqa
      have hfx := split_few hqb
      simp only [Option.getD_some, Option.isSome_some] at hsa hsb
      have HQ := Nm.hide (And.intro hqa hqb)
      clear hqa hqb
      go_wp2_with fail
      refine (hsa _).mono ?_
      rintro e w1 ⟨v1, rfl, ho1, b1⟩
      obtain ⟨a1, c1, rfl⟩ := own_sl ho1
      go_wp2_with fail
      refine (hsb _).mono ?_
      rintro e w2 ⟨v2, rfl, ho2, b2⟩
      obtain ⟨a2, c2, rfl⟩ := own_sl ho2
      have hB := Nm.below_two b1 b2
      have hra := (Nm.SRow.of_owns ho1).below b2
      have hrx := Nm.SRow.of_owns ho2
      have hun := under_any _ _ x ax w2 hrx hra hfx.1 (by have := hfx.2; omega) (by have := hfa.2; omega)
      have HRA := Nm.hide (And.intro hra hrx)
      clear ho1 ho2 b1 b2 hra hrx hsa hsb
      cases hU : underB x ax with
      | false =>
        have HV := Nm.hide (proof_out (q := q) (rs := rs) HQ.out.1 HQ.out.2 (by rw [hU]; rfl))
        rw [hU] at hun
        clear hU
        go_wp2_with fail
        refine hun.mono ?_
        rintro e w3 ⟨rfl, m, rfl⟩
        go_wp2
        go_ret
        rw [HV.out]
        exact ⟨rfl, Nm.below_two hB (below_drewN _ m)⟩
      | true =>
        rw [hU] at hun
        go_wp2_with fail
        refine hun.mono ?_
        rintro e w3 ⟨rfl, m, rfl⟩
        have b3 := below_drewN w2 m
        replace hB := Nm.below_two hB b3
        have HRA3 := Nm.hide (And.intro (HRA.out.1.below b3) (HRA.out.2.below b3))
        generalize w2.drewN m = w3 at *
        clear b3 HRA hun
        go_wp2_with fail
        refine (isOneType_any q _).mono ?_
        rintro e w4 ⟨rfl, rfl⟩
        cases hO : oneB q with
        | false =>
          have HV := Nm.hide (proof_out (q := q) (rs := rs) HQ.out.1 HQ.out.2 (by rw [hU, hO]; rfl))
          clear hU hO
          go_wp2
          go_ret
          rw [HV.out]
          exact ⟨rfl, hB⟩
        | true =>
          have hpi := proof_in (rs := rs) HQ.out.1 HQ.out.2 hU hO
          have hop := openProof_any _ _ rs ax w4 (HRow.out.below hB) HRA3.out.1 hfa hz
          clear hU hO
          go_wp2_with fail
          refine hop.mono ?_
          rintro e w5 ⟨b5, hm⟩
          have hB5 := Nm.below_two hB b5
          cases hE : openO ax rs with
          | none =>
            rw [hE] at hm hpi
            replace hm : e = .returned (.tuple #[.slice none 0 0, .bool false]) := hm
            subst hm
            have HV := Nm.hide hpi
            clear hpi hE
            go_wp2
            go_ret
            rw [HV.out]
            exact ⟨rfl, hB5⟩
          | some ls =>
            rw [hE] at hm hpi
            obtain ⟨v5, vs, rfl, hS⟩ := hm
            have hck := check_any v5 _ ls vs x q w5 hS (openO_len hE) (HRA3.out.2.below b5) hfx
            obtain ⟨_, y1, y2, rfl, _⟩ := hS.row
            have HV := Nm.hide hpi
            clear hpi hE hS
            go_wp2_with fail
            refine hck.mono ?_
            rintro e w6 ⟨rfl, b6⟩
            go_wp2
            go_ret
            rw [HV.out]
            exact ⟨rfl, Nm.below_two hB5 b6⟩
end Go.Proofs.Ytkiadnglbjamfaa
