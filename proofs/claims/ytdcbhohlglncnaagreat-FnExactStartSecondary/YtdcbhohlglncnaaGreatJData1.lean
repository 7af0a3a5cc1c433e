import Derived.Test.YtdcbhohlglncnaaGreatJTrF
import Derived.Test.YtdcbhohlglncnaaGreatRows
import Derived.WalkSpells
import Derived.WalkLawsBesides
/- The model's small functions of data, by their contracts. -/
namespace Go.Proofs.YtdcbhohlglncnaaGreat
open Go.RowKit
set_option maxRecDepth 100000 in
set_option maxHeartbeats 800000 in
theorem l02Alnum_any (c : UInt8) (w : World) :
 Calls Tryz.prog 136 #[.int .u8 c.toNat] w fun e w' => e = .returned (.bool (Dt.alnumB c)) ∧ w' = w := by
 have key : ∀ b, Dt.alnumB c = b → Hid (Dt.alnumB c = b) := fun _ h => h
 by_cases h1 : 48 ≤ c.toNat
 · by_cases h2 : c.toNat ≤ 57
   · have HA := key true (by simp [Dt.alnumB, h1, h2])
     have d1 : (48 : Int) ≤ (c.toNat : Int) := by omega
     have d2 : (c.toNat : Int) ≤ 57 := by omega
     go_enter Tryz.func136, Tryz.ntmps136
     go_wp2
     go_ret
     rw [HA.out]
     exact ⟨rfl, rfl⟩
   · by_cases h3 : 97 ≤ c.toNat
     · by_cases h4 : c.toNat ≤ 122
       · have HA := key true (by simp [Dt.alnumB, h1, h2, h3, h4])
         have d1 : (48 : Int) ≤ (c.toNat : Int) := by omega
         have d2 : (57 : Int) < (c.toNat : Int) := by omega
         have e2 : decide ((c.toNat : Int) ≤ 57) = false := by simp; omega
         have d3 : (97 : Int) ≤ (c.toNat : Int) := by omega
         have d4 : (c.toNat : Int) ≤ 122 := by omega
         go_enter Tryz.func136, Tryz.ntmps136
         go_wp2
         go_ret
         rw [HA.out]
         exact ⟨rfl, rfl⟩
       · have HA := key false (by simp [Dt.alnumB]; omega)
         have d1 : (48 : Int) ≤ (c.toNat : Int) := by omega
         have d2 : (57 : Int) < (c.toNat : Int) := by omega
         have e2 : decide ((c.toNat : Int) ≤ 57) = false := by simp; omega
         have d3 : (97 : Int) ≤ (c.toNat : Int) := by omega
         have d4 : (122 : Int) < (c.toNat : Int) := by omega
         have e4 : decide ((c.toNat : Int) ≤ 122) = false := by simp; omega
         have d5 : (65 : Int) ≤ (c.toNat : Int) := by omega
         have d6 : (90 : Int) < (c.toNat : Int) := by omega
         have e6 : decide ((c.toNat : Int) ≤ 90) = false := by simp; omega
         go_enter Tryz.func136, Tryz.ntmps136
         go_wp2
         go_ret
         rw [HA.out]
         exact ⟨rfl, rfl⟩
     · by_cases h5 : 65 ≤ c.toNat ∧ c.toNat ≤ 90
       · have HA := key true (by simp [Dt.alnumB]; omega)
         have d1 : (48 : Int) ≤ (c.toNat : Int) := by omega
         have d2 : (57 : Int) < (c.toNat : Int) := by omega
         have e2 : decide ((c.toNat : Int) ≤ 57) = false := by simp; omega
         have d3 : (c.toNat : Int) < 97 := by omega
         have d5 : (65 : Int) ≤ (c.toNat : Int) := by omega
         have d6 : (c.toNat : Int) ≤ 90 := by omega
         go_enter Tryz.func136, Tryz.ntmps136
         go_wp2
         go_ret
         rw [HA.out]
         exact ⟨rfl, rfl⟩
       · have HA := key false (by simp [Dt.alnumB]; omega)
         have d1 : (48 : Int) ≤ (c.toNat : Int) := by omega
         have d2 : (57 : Int) < (c.toNat : Int) := by omega
         have e2 : decide ((c.toNat : Int) ≤ 57) = false := by simp; omega
         have d3 : (c.toNat : Int) < 97 := by omega
         by_cases h6 : 65 ≤ c.toNat
         · have d5 : (65 : Int) ≤ (c.toNat : Int) := by omega
           have d6 : (90 : Int) < (c.toNat : Int) := by omega
           have e6 : decide ((c.toNat : Int) ≤ 90) = false := by simp; omega
           go_enter Tryz.func136, Tryz.ntmps136
           go_wp2
           go_ret
           rw [HA.out]
           exact ⟨rfl, rfl⟩
         · have d5 : (c.toNat : Int) < 65 := by omega
           go_enter Tryz.func136, Tryz.ntmps136
           go_wp2
           go_ret
           rw [HA.out]
           exact ⟨rfl, rfl⟩
 · have HA := key false (by simp [Dt.alnumB]; omega)
   have d1 : (c.toNat : Int) < 48 := by omega
   have d3 : (c.toNat : Int) < 97 := by omega
   have d5 : (c.toNat : Int) < 65 := by omega
   go_enter Tryz.func136, Tryz.ntmps136
   go_wp2
   go_ret
   rw [HA.out]
   exact ⟨rfl, rfl⟩
set_option maxRecDepth 100000 in
set_option maxHeartbeats 800000 in
theorem l02Form_any (t : Int) (w : World) :
 Calls Tryz.prog 101 #[.int .i64 t] w fun e w' => e = .returned (.string (Dt.formS t)) ∧ w' = w := by
 by_cases h : t = 1 ∨ t = 2 ∨ t = 5 ∨ t = 6 ∨ t = 12 ∨ t = 13 ∨ t = 15 ∨ t = 16 ∨ t = 28 ∨ t = 33 ∨ t = 35 ∨ t = 39 ∨ t = 47 ∨ t = 257
 · rcases h with rfl | rfl | rfl | rfl | rfl | rfl | rfl | rfl | rfl | rfl | rfl | rfl | rfl | rfl
   all_goals
    go_enter Tryz.func101, Tryz.ntmps101
    go_wp2
    go_ret
    exact ⟨rfl, rfl⟩
 · have HA : Hid (Dt.formS t = ⟨#[42]⟩) := by
    show _ = _
    unfold Dt.formS
    simp only [show ¬ t = 1 by omega, show ¬ (t = 2 ∨ t = 5 ∨ t = 12 ∨ t = 39) by omega, show ¬ t = 6 by omega, show ¬ t = 13 by omega, show ¬ t = 15 by omega, show ¬ t = 16 by omega, show ¬ t = 28 by omega, show ¬ t = 33 by omega, show ¬ t = 35 by omega, show ¬ t = 47 by omega, show ¬ t = 257 by omega, if_false]
   have b1 : (t == 1) = false := by rw [beq_eq_false_iff_ne]; omega
   have b2 : (t == 2) = false := by rw [beq_eq_false_iff_ne]; omega
   have b3 : (t == 5) = false := by rw [beq_eq_false_iff_ne]; omega
   have b4 : (t == 6) = false := by rw [beq_eq_false_iff_ne]; omega
   have b5 : (t == 12) = false := by rw [beq_eq_false_iff_ne]; omega
   have b6 : (t == 13) = false := by rw [beq_eq_false_iff_ne]; omega
   have b7 : (t == 15) = false := by rw [beq_eq_false_iff_ne]; omega
   have b8 : (t == 16) = false := by rw [beq_eq_false_iff_ne]; omega
   have b9 : (t == 28) = false := by rw [beq_eq_false_iff_ne]; omega
   have b10 : (t == 33) = false := by rw [beq_eq_false_iff_ne]; omega
   have b11 : (t == 35) = false := by rw [beq_eq_false_iff_ne]; omega
   have b12 : (t == 39) = false := by rw [beq_eq_false_iff_ne]; omega
   have b13 : (t == 47) = false := by rw [beq_eq_false_iff_ne]; omega
   have b14 : (t == 257) = false := by rw [beq_eq_false_iff_ne]; omega
   clear h
   go_enter Tryz.func101, Tryz.ntmps101
   go_wp2
   go_ret
   rw [HA.out]
   exact ⟨rfl, rfl⟩
theorem txt_short {s : ByteArray} (h : 0 < s.size) (h1 : s.size < s[0].toNat + 1) : Dt.txtS s = ByteArray.empty := by
 rw [Dt.txtS, dif_pos h, if_neg (by omega)]
theorem txt_good {s : ByteArray} (h : 0 < s.size) (h1 : s[0].toNat + 1 ≤ s.size) : Dt.txtS s = s.extract 0 (s[0].toNat + 1) := by
 rw [Dt.txtS, dif_pos h, if_pos h1]
theorem txt_none {s : ByteArray} (h : s.size = 0) : Dt.txtS s = ByteArray.empty := by
 rw [Dt.txtS, dif_neg (by omega)]
set_option maxRecDepth 100000 in
set_option maxHeartbeats 800000 in
theorem l02Text_any (s : ByteArray) (w : World) (hs : s.size ≤ maxLen) :
 Calls Tryz.prog 135 #[.string s] w fun e w' => e = .returned (.string (Dt.txtS s)) ∧ w' = w := by
 unfold maxLen at hs
 by_cases h0 : s.size = 0
 · have HA := Nm.hide (txt_none h0)
   have he : s = ByteArray.empty := by
    apply ByteArray.ext
    exact Array.eq_empty_of_size_eq_zero h0
   subst he
   go_enter Tryz.func135, Tryz.ntmps135
   go_wp2
   go_ret
   rw [HA.out]
   exact ⟨rfl, rfl⟩
 · have hp : 0 < s.size := by omega
   have hp' : (0 : Int) < (s.size : Int) := by omega
   have he : (s.toList == []) = false := by
    rw [beq_eq_false_iff_ne, ByteArray.toList_eq]
    intro e
    have h9 := congrArg List.length e
    rw [Array.length_toList] at h9
    exact h0 h9
   have hc : (s[0].toNat : Int) < 256 := by have := s[0].toNat_lt; omega
   by_cases h1 : s.size < s[0].toNat + 1
   · have HA := Nm.hide (txt_short hp h1)
     have h1' : (s.size : Int) < (s[0].toNat : Int) + 1 := by omega
     go_enter Tryz.func135, Tryz.ntmps135
     go_wp2
     go_ret
     rw [HA.out]
     exact ⟨rfl, rfl⟩
   · have HA := Nm.hide (txt_good hp (by omega))
     have h1' : (s[0].toNat : Int) + 1 ≤ (s.size : Int) := by omega
     go_enter Tryz.func135, Tryz.ntmps135
     go_wp2
     go_ret
     rw [HA.out]
     exact ⟨rfl, rfl⟩
end Go.Proofs.YtdcbhohlglncnaaGreat
/- spec.l02NameAt by its contract. -/
namespace Go.Proofs.YtdcbhohlglncnaaGreat
open Go.RowKit
theorem name_zero {s : ByteArray} {i : Nat} (h : i < s.size) (h2 : i < 255) (h0 : s[i].toNat = 0) : Dt.nameF 256 s i = s.extract 0 (i + 1) := by
 rw [Dt.nameF, dif_pos ⟨h, h2⟩, if_pos h0]
theorem name_big {s : ByteArray} {i : Nat} (h : i < s.size) (h2 : i < 255) (h0 : 63 < s[i].toNat) : Dt.nameF 256 s i = ByteArray.empty := by
 rw [Dt.nameF, dif_pos ⟨h, h2⟩, if_neg (by omega), if_pos h0]
theorem name_step {s : ByteArray} {i : Nat} (h : i < s.size) (h2 : i < 255) (h0 : s[i].toNat ≠ 0) (h1 : s[i].toNat ≤ 63) : Dt.nameF 256 s i = Dt.nameF 256 s (i + s[i].toNat + 1) := by
 rw [Dt.nameF, dif_pos ⟨h, h2⟩, if_neg h0, if_neg (by omega)]
 exact Dt.nameF_enough _ _ _ _ (by omega) (by omega)
theorem name_end {s : ByteArray} {i : Nat} (h : ¬ (i < s.size ∧ i < 255)) : Dt.nameF 256 s i = ByteArray.empty := by
 rw [Dt.nameF, dif_neg h]
set_option maxRecDepth 100000 in
set_option maxHeartbeats 800000 in
theorem l02NameAt_any (s : ByteArray) (w : World) :
 Calls Tryz.prog 134 #[.string s] w fun e w' => e = .returned (.string (Dt.nameAtS s)) ∧ w' = w := by
 have H0 : Dt.nameAtS s = Dt.nameF 256 s 0 := rfl
 go_enter Tryz.func134, Tryz.ntmps134
 go_wp2
 go_loop [3] (fun v => ∃ i : Nat, i ≤ 400 ∧ v = .int .i64 i ∧ Dt.nameAtS s = Dt.nameF 256 s i) (fun v => 400 - (intOf v).toNat)
 case atStart => exact ⟨0, by omega, rfl, H0⟩
 case round =>
  obtain ⟨i, hi, rfl, hn⟩ := hrel
  clear H0
  by_cases h1 : i < s.size
  · have h1' : (i : Int) < (s.size : Int) := by omega
    by_cases h2 : i < 255
    · have h2' : (i : Int) < 255 := by omega
      have hc : (s[i].toNat : Int) < 256 := by have := s[i].toNat_lt; omega
      by_cases h3 : s[i].toNat = 0
      · have HN := Nm.hide (hn.trans (name_zero h1 h2 h3))
        have h3' : ((s[i].toNat : Int) == 0) = true := by rw [beq_iff_eq]; omega
        clear hn
        go_wp2
        go_ret
        rw [HN.out]
        exact ⟨rfl, rfl⟩
      · have h3' : ((s[i].toNat : Int) == 0) = false := by rw [beq_eq_false_iff_ne]; omega
        by_cases h4 : 63 < s[i].toNat
        · have HN := Nm.hide (hn.trans (name_big h1 h2 h4))
          have h4' : (63 : Int) < (s[i].toNat : Int) := by omega
          clear hn
          go_wp2
          go_ret
          rw [HN.out]
          exact ⟨rfl, rfl⟩
        · have HN := Nm.hide (hn.trans (name_step h1 h2 h3 (by omega)))
          have h4' : (s[i].toNat : Int) ≤ 63 := by omega
          clear hn
          go_wp2
          go_round
          case rel => exact ⟨i + s[i].toNat + 1, by omega, by go_num, HN.out⟩
          case measure => simp [intOf]; omega
    · have HN := Nm.hide (hn.trans (name_end (by omega)))
      have h2' : (255 : Int) ≤ (i : Int) := by omega
      clear hn
      go_wp2
      go_ret
      rw [HN.out]
      exact ⟨rfl, rfl⟩
  · have HN := Nm.hide (hn.trans (name_end (by omega)))
    have h1' : (s.size : Int) ≤ (i : Int) := by omega
    clear hn
    go_wp2
    go_ret
    rw [HN.out]
    exact ⟨rfl, rfl⟩
end Go.Proofs.YtdcbhohlglncnaaGreat
