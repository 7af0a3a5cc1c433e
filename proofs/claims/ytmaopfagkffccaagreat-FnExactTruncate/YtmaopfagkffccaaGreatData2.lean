import Derived.Test.YtmaopfagkffccaaGreatData1
/- spec.l02NameAt by its contract. -/
namespace Go.Proofs.YtmaopfagkffccaaGreat
open Go.RowKit

theorem name_zero {s : ByteArray} {i : Nat} (h : i < s.size) (h2 : i < 255) (h0 : s[i].toNat = 0) : Dt.nameF 256 s i = s.extract 0 (i + 1) := by
  rw [Dt.nameF, dif_pos ⟨h, h2⟩, if_pos h0]
theorem name_big {s : ByteArray} {i : Nat} (h : i < s.size) (h2 : i < 255) (h0 : 63 < s[i].toNat) : Dt.nameF 256 s i = ByteArray.empty := by
  rw [Dt.nameF, dif_pos ⟨h, h2⟩, if_neg (by omega), if_pos h0]
theorem name_step {s : ByteArray} {i : Nat} (h : i < s.size) (h2 : i < 255) (h0 : s[i].toNat ≠ 0) (h1 : s[i].toNat ≤ 63) : Dt.nameF 256 s i = Dt.nameF 256 s (i + s[i].toNat + 1) := by
  rw [Dt.nameF, dif_pos ⟨h, h2⟩, if_neg h0, if_neg (by omega)]
  exact Dt.nameF_enough _ _ _ _ (by omega) (by omega)
theorem name_end {s : ByteArray} {i : Nat} (h : ¬ (i < s.size ∧ i < 255)) : Dt.nameF 256 s i = ByteArray.empty := by
  rw [Dt.nameF, dif_neg h]

set_option maxRecDepth 100000 in
set_option maxHeartbeats 800000 in
theorem l02NameAt_any (s : ByteArray) (w : World) :
    Calls Tryz.prog 88 #[.string s] w fun e w' => e = .returned (.string (Dt.nameAtS s)) ∧ w' = w := by
  have H0 : Dt.nameAtS s = Dt.nameF 256 s 0 := rfl
  go_enter Tryz.func88, Tryz.ntmps88
  go_wp2
  go_loop [3] (fun v => ∃ i : Nat, i ≤ 400 ∧ v = .int .i64 i ∧ Dt.nameAtS s = Dt.nameF 256 s i) (fun v => 400 - (intOf v).toNat)
  case atStart => exact ⟨0, by omega, rfl, H0⟩
  case round =>
    obtain ⟨i, hi, rfl, hn⟩ := hrel
    clear H0
    by_cases h1 : i < s.size
    · have h1' : (i : Int) < (s.size : Int) := by omega
      by_cases h2 : i < 255
      · have h2' : (i : Int) < 255 := by omega
        have hc : (s[i].toNat : Int) < 256 := by have := s[i].toNat_lt; omega
        by_cases h3 : s[i].toNat = 0
        · have HN := Nm.hide (hn.trans (name_zero h1 h2 h3))
          have h3' : ((s[i].toNat : Int) == 0) = true := by rw [beq_iff_eq]; omega
          clear hn
          go_wp2
          go_ret
          rw [HN.out]
          exact ⟨rfl, rfl⟩
        · have h3' : ((s[i].toNat : Int) == 0) = false := by rw [beq_eq_false_iff_ne]; omega
          by_cases h4 : 63 < s[i].toNat
          · have HN := Nm.hide (hn.trans (name_big h1 h2 h4))
            have h4' : (63 : Int) < (s[i].toNat : Int) := by omega
            clear hn
            go_wp2
            go_ret
            rw [HN.out]
            exact ⟨rfl, rfl⟩
          · have HN := Nm.hide (hn.trans (name_step h1 h2 h3 (by omega)))
            have h4' : (s[i].toNat : Int) ≤ 63 := by omega
            clear hn
            go_wp2
            go_round
            case rel => exact ⟨i + s[i].toNat + 1, by omega, by go_num, HN.out⟩
            case measure => simp [intOf]; omega
      · have HN := Nm.hide (hn.trans (name_end (by omega)))
        have h2' : (255 : Int) ≤ (i : Int) := by omega
        clear hn
        go_wp2
        go_ret
        rw [HN.out]
        exact ⟨rfl, rfl⟩
    · have HN := Nm.hide (hn.trans (name_end (by omega)))
      have h1' : (s.size : Int) ≤ (i : Int) := by omega
      clear hn
      go_wp2
      go_ret
      rw [HN.out]
      exact ⟨rfl, rfl⟩
end Go.Proofs.YtmaopfagkffccaaGreat
