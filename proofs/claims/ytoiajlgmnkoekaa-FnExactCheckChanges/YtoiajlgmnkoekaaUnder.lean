import Derived.Test.YtoiajlgmnkoekaaUnI
import Derived.Test.YtoiajlgmnkoekaaSameS
import Derived.Test.YtoiajlgmnkoekaaJoin
import Derived.Test.YtoiajlgmnkoekaaSSplit
/- spec.IsUnder by its contract. -/
namespace Go.Proofs.Ytoiajlgmnkoekaa
open Go.RowKit

set_option maxRecDepth 100000 in
set_option maxHeartbeats 800000 in
theorem specIsUnder_any (a b : ByteArray) (w : World) (ha : a.size ≤ maxLen) (hb : b.size ≤ maxLen) :
    Calls Try.prog 26 #[.string a, .string b] w fun e w' => e = .returned (.bool (isUnderS a b)) ∧ Below w.heap.size w w' := by
  have hsa := l01Split_any a w ha
  have hsb := fun W => l01Split_any b W hb
  cases hqa : Nm.split a with
  | none =>
    have HA := Nm.hide (isUnder_left (b := b) hqa)
    rw [hqa] at hsa
    clear hqa
    go_enter Try.func26, Try.ntmps26
    go_wp2_with fail
    refine hsa.mono ?_
    rintro e w1 ⟨v, rfl, hown, hbel⟩
    go_wp2_with fail
    refine (hsb _).mono ?_
    rintro e w2 ⟨v2, rfl, hown2, hbel2⟩
    go_wp2
    go_ret
    rw [HA.out]
    exact ⟨rfl, Nm.below_two hbel hbel2⟩
  | some xs =>
    rw [hqa] at hsa
    cases hqb : Nm.split b with
    | none =>
      have HA := Nm.hide (isUnder_right (a := a) hqb)
      rw [hqb] at hsb
      clear hqa hqb
      go_enter Try.func26, Try.ntmps26
      go_wp2_with fail
      refine hsa.mono ?_
      rintro e w1 ⟨v, rfl, hown, hbel⟩
      go_wp2_with fail
      refine (hsb _).mono ?_
      rintro e w2 ⟨v2, rfl, hown2, hbel2⟩
      go_wp2
      go_ret
      rw [HA.out]
      exact ⟨rfl, Nm.below_two hbel hbel2⟩
    | some ys =>
      have HA := Nm.hide (isUnder_some hqa hqb)
      have hund := under_same hqa hqb
      have hza := Nm.split_size hqa
      have hzb := Nm.split_size hqb
      have hla := Nm.length_le_wsum xs
      have hlb := Nm.length_le_wsum ys
      rw [hqb] at hsb
      clear hqa hqb
      go_enter Try.func26, Try.ntmps26
      go_wp2_with fail
      refine hsa.mono ?_
      rintro e w1 ⟨v, rfl, hown, hbel⟩
      go_wp2_with fail
      refine (hsb _).mono ?_
      rintro e w2 ⟨v2, rfl, hown2, hbel2⟩
      have r1 := (Nm.SRow.of_owns hown).below hbel2
      have r2 := Nm.SRow.of_owns hown2
      simp only [Option.getD_some] at r1 r2
      have hbw := Nm.below_two hbel hbel2
      obtain ⟨a1, cap1, rfl, hcap1, hmx1, hnl1, hc1⟩ := r1
      obtain ⟨a2, cap2, rfl, hcap2, hmx2, hnl2, hc2⟩ := r2
      have hrow : Nm.SRow w2 (.slice a1 xs.length cap1) xs := ⟨a1, cap1, rfl, hcap1, hmx1, hnl1, hc1⟩
      clear hown hown2 hsa hsb hnl1 hnl2 hbel hbel2 hc1 hc2
      by_cases hl : xs.length < ys.length
      · have HU := Nm.hide (under_short hl)
        have hd : decide (xs.length < ys.length) = true := by simpa using hl
        clear hrow
        go_wp2
        go_ret
        rw [HA.out, HU.out]
        exact ⟨rfl, hbw⟩
      · have HU := Nm.hide (hund (by omega))
        have hss := fun W => specSameName_any ⟨(Nm.joinL (xs.drop (xs.length - ys.length))).toArray⟩ b W (by
          show (Nm.joinL (xs.drop (xs.length - ys.length))).toArray.size ≤ maxLen
          rw [List.size_toArray, Nm.joinL_length]
          have := Nm.wsum_drop_le xs (xs.length - ys.length)
          unfold maxLen
          omega) hb
        obtain ⟨d, hd⟩ : ∃ d, d = xs.length - ys.length := ⟨_, rfl⟩
        rw [← hd] at HU hss
        have hq : (xs.length : Int) - (ys.length : Int) = (d : Int) := by omega
        have hdl : d ≤ xs.length := by omega
        have hyx : ys.length ≤ xs.length := by omega
        have hwd := Nm.wsum_drop_le xs d
        have hjn := fun V hr => l01Join_any V (xs.drop d) w2 hr (by omega)
        have hd1 := fun e : cap1 = d => hrow.drop_all e
        have hd2 := hrow.drop (k := d) hdl
        have hdd : decide (xs.length < ys.length) = false := by simp; omega
        generalize ByteArray.mk (Nm.joinL (xs.drop d)).toArray = J at *
        clear hd hl hrow hund
        by_cases hck : cap1 = d
        · have Hc := hjn _ (hd1 hck)
          clear hjn hd1 hd2
          subst hck
          rw [show xs.length - cap1 = 0 by omega] at Hc
          go_wp2_with fail
          refine Hc.mono ?_
          rintro e w3 ⟨rfl, hbel3⟩
          go_wp2_with fail
          refine (hss _).mono ?_
          rintro e w4 ⟨rfl, hbel4⟩
          go_wp2
          go_ret
          rw [HA.out, ← HU.out]
          exact ⟨rfl, Nm.below_two hbw (Nm.below_two hbel3 hbel4)⟩
        · have Hc := hjn _ hd2
          clear hjn hd1 hd2
          go_wp2_with fail
          refine Hc.mono ?_
          rintro e w3 ⟨rfl, hbel3⟩
          go_wp2_with fail
          refine (hss _).mono ?_
          rintro e w4 ⟨rfl, hbel4⟩
          go_wp2
          go_ret
          rw [HA.out, ← HU.out]
          exact ⟨rfl, Nm.below_two hbw (Nm.below_two hbel3 hbel4)⟩
end Go.Proofs.Ytoiajlgmnkoekaa
