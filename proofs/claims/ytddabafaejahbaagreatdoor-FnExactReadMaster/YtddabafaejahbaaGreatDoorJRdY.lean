import Derived.Test.YtddabafaejahbaaGreatDoorJSSplit
import Derived.Test.YtddabafaejahbaaGreatDoorJIParts
import Derived.Test.YtddabafaejahbaaGreatDoorJData1
/- spec.l03Word by its contract: texts; spec.l03Many. -/
namespace Go.Proofs.YtddabafaejahbaaGreatDoor
open Go.RowKit
set_option linter.unusedVariables false
set_option maxRecDepth 100000 in
set_option maxHeartbeats 1600000 in
theorem l03Word_text (c : UInt8) (x o : ByteArray) (b : Bool) (w : World) (hs : x.size ≤ 1000000000) (hc : c = 116 ∨ c = 115 ∨ c = 118) :
 Calls Tryz.prog 21 #[.int .u8 (c.toNat : Int), .agg #[.string x, .bool b], .string o] w fun e w' => e = .returned (strV (readTx c x)) ∧ Below w.heap.size w w' := by
 have h1 := fun W => specReadText_any x W hs
 obtain ⟨T, hT⟩ : ∃ T, T = readTextR x := ⟨_, rfl⟩; rw [← hT] at h1; have hr : readTx c x = if T.2 ≠ 0 then (⟨#[]⟩, T.2) else if c = 118 then (T.1, 0) else if 255 < T.1.size then (⟨#[]⟩, 7) else (lenS T.1, 0) := by rw [hT]; rfl
 rw [hr]; clear hr hT
 by_cases h0 : T.2 = 0
 · rw [if_neg (by simpa using h0)]; rw [h0] at h1
   by_cases hv : c = 118
   · rw [if_pos hv]; subst hv; clear hc; cases b <;>
     · go_enter Tryz.func21, Tryz.ntmps21; go_wp2_with (go_at_call 48; refine (h1 _).mono ?_; rintro e w1 ⟨rfl, hb1⟩)
       refine bodyPost_ret (v := strV (T.1, 0)) ?_ rfl ⟨rfl, Nm.below_two ((Below.refl _ _).alloc (Nat.le_refl _) _) hb1⟩; simp [results, Tryz.f21, go_sem, strV]
   · rw [if_neg hv]
     have hc' : c = 116 ∨ c = 115 := by
      rcases hc with h | h | h
      · exact .inl h
      · exact .inr h
      · exact absurd h hv
     clear hc hv
     by_cases hl : 255 < T.1.size
     · rw [if_pos hl]; have hl' : 255 < (T.1.size : Int) := by omega
       rcases hc' with rfl | rfl <;> cases b <;>
       · go_enter Tryz.func21, Tryz.ntmps21; go_wp2_with (go_at_call 48; refine (h1 _).mono ?_; rintro e w1 ⟨rfl, hb1⟩)
         refine bodyPost_ret (v := strV (⟨#[]⟩, 7)) ?_ rfl ⟨rfl, Nm.below_two ((Below.refl _ _).alloc (Nat.le_refl _) _) hb1⟩; simp [results, Tryz.f21, go_sem, strV]
     · rw [if_neg hl]; have hl' : (T.1.size : Int) ≤ 255 := by omega
       have hcv := fun W => conv_one (T.1.size : Int) W
       simp only [Int.toNat_natCast] at hcv; have HL : Hid ((⟨#[UInt8.ofNat T.1.size]⟩ : ByteArray) ++ T.1 = lenS T.1) := rfl
       rcases hc' with rfl | rfl <;> cases b <;>
       · go_enter Tryz.func21, Tryz.ntmps21; go_wp2_with (go_at_call 48; refine (h1 _).mono ?_; rintro e w1 ⟨rfl, hb1⟩)
         refine bodyPost_ret (v := strV (lenS T.1, 0)) ?_ rfl ⟨rfl, (Nm.below_two ((Below.refl _ _).alloc (Nat.le_refl _) _) hb1).alloc (by have := hb1.size; simp at this; omega) _⟩; rw [← HL.out]; simp [results, Tryz.f21, go_sem, strV]
 · rw [if_pos (by simpa using h0)]; have h0' : (T.2 == 0) = false := by simpa using h0
   rcases hc with rfl | rfl | rfl <;> cases b <;>
   · go_enter Tryz.func21, Tryz.ntmps21; go_wp2_with (go_at_call 48; refine (h1 _).mono ?_; rintro e w1 ⟨rfl, hb1⟩)
     refine bodyPost_ret (v := strV (⟨#[]⟩, T.2)) ?_ rfl ⟨rfl, Nm.below_two ((Below.refl _ _).alloc (Nat.le_refl _) _) hb1⟩; simp [results, Tryz.f21, go_sem, strV]
/-- So many words fit a script. -/
def manyB (s : ByteArray) (n : Nat) : Bool :=
 if h : 0 < s.size then (if s[s.size - 1] = 109 then decide (s.size - 1 ≤ n) else if s[s.size - 1] = 115 then decide (s.size ≤ n) else decide (n = s.size)) else false
theorem u8_litR {c : UInt8} {k : Nat} (h : (UInt8.ofNat k) ≠ c) (hk : k < 256) : ((c.toNat : Int) == (k : Int)) = false := by
 rw [← Bool.not_eq_true, beq_iff_eq]; intro e; apply h; apply UInt8.toNat_inj.1; rw [UInt8.toNat_ofNat']; omega
set_option maxRecDepth 100000 in
set_option maxHeartbeats 800000 in
theorem l03Many_any (s : ByteArray) (n : Nat) (w : World) (hs : 0 < s.size) (hs2 : s.size ≤ 1000) :
 Calls Tryz.prog 19 #[.string s, .int .i64 (n : Int)] w fun e w' => e = .returned (.bool (manyB s n)) ∧ w' = w := by
 obtain ⟨j, hj⟩ : ∃ j : Nat, j + 1 = s.size := ⟨s.size - 1, by omega⟩; have hlt : j < s.size := by omega
 have hm : manyB s n = if s[j] = 109 then decide (j ≤ n) else if s[j] = 115 then decide (j + 1 ≤ n) else decide (n = j + 1) := by
  have e : s.size - 1 = j := by omega
  simp only [manyB, dif_pos hs, e, hj]
 rw [hm]; have e1 : (s.size : Int) - 1 = (j : Int) := by omega
 have i1 : (0 : Int) ≤ (j : Int) := by omega
 have i2 : (j : Int) < (s.size : Int) := by omega
 have w1 : IntKind.i64.wrap (j : Int) = (j : Int) := by rw [Go.wrap_small _ (by omega) (by omega)]
 by_cases h1 : s[j] = 109
 · have d1 : (s[j].toNat : Int) = 109 := by rw [h1]; rfl
   have HR : Hid (decide ((j : Int) ≤ (n : Int)) = decide (j ≤ n)) := by show _ = _; rw [Bool.eq_iff_iff]; simp
   rw [if_pos h1, ← HR.out]; clear h1 hm; go_enter Tryz.func19, Tryz.ntmps19; go_wp2; go_ret; exact ⟨by first | rfl | simp, rfl⟩
 · have d1 : ((s[j].toNat : Int) == 109) = false := u8_litR (k := 109) (fun e => h1 e.symm) (by decide); rw [if_neg h1]
   by_cases h2 : s[j] = 115
   · have d2 : (s[j].toNat : Int) = 115 := by rw [h2]; rfl
     have HR : Hid (decide ((s.size : Int) ≤ (n : Int)) = decide (j + 1 ≤ n)) := by show _ = _; rw [Bool.eq_iff_iff]; simp; omega
     rw [if_pos h2, ← HR.out]; clear h1 h2 hm d1; go_enter Tryz.func19, Tryz.ntmps19; go_wp2; go_ret; exact ⟨by first | rfl | simp, rfl⟩
   · have d2 : ((s[j].toNat : Int) == 115) = false := u8_litR (k := 115) (fun e => h2 e.symm) (by decide); have HR : Hid (((n : Int) == (s.size : Int)) = decide (n = j + 1)) := by show _ = _; rw [Bool.eq_iff_iff]; simp; omega
     rw [if_neg h2, ← HR.out]; clear h1 h2 hm; go_enter Tryz.func19, Tryz.ntmps19; go_wp2; go_ret; exact ⟨by first | rfl | simp, rfl⟩
end Go.Proofs.YtddabafaejahbaaGreatDoor
/- spec.l02NameAt by its contract. -/
namespace Go.Proofs.YtddabafaejahbaaGreatDoor
open Go.RowKit
theorem name_zero {s : ByteArray} {i : Nat} (h : i < s.size) (h2 : i < 255) (h0 : s[i].toNat = 0) : Dt.nameF 256 s i = s.extract 0 (i + 1) := by
 rw [Dt.nameF, dif_pos ⟨h, h2⟩, if_pos h0]
theorem name_big {s : ByteArray} {i : Nat} (h : i < s.size) (h2 : i < 255) (h0 : 63 < s[i].toNat) : Dt.nameF 256 s i = ByteArray.empty := by
 rw [Dt.nameF, dif_pos ⟨h, h2⟩, if_neg (by omega), if_pos h0]
theorem name_step {s : ByteArray} {i : Nat} (h : i < s.size) (h2 : i < 255) (h0 : s[i].toNat ≠ 0) (h1 : s[i].toNat ≤ 63) : Dt.nameF 256 s i = Dt.nameF 256 s (i + s[i].toNat + 1) := by
 rw [Dt.nameF, dif_pos ⟨h, h2⟩, if_neg h0, if_neg (by omega)]; exact Dt.nameF_enough _ _ _ _ (by omega) (by omega)
theorem name_end {s : ByteArray} {i : Nat} (h : ¬ (i < s.size ∧ i < 255)) : Dt.nameF 256 s i = ByteArray.empty := by
 rw [Dt.nameF, dif_neg h]
set_option maxRecDepth 100000 in
set_option maxHeartbeats 800000 in
theorem l02NameAt_any (s : ByteArray) (w : World) :
 Calls Tryz.prog 149 #[.string s] w fun e w' => e = .returned (.string (Dt.nameAtS s)) ∧ w' = w := by
 have H0 : Dt.nameAtS s = Dt.nameF 256 s 0 := rfl; go_enter Tryz.func149, Tryz.ntmps149; go_wp2
 go_loop [3] (fun v => ∃ i : Nat, i ≤ 400 ∧ v = .int .i64 i ∧ Dt.nameAtS s = Dt.nameF 256 s i) (fun v => 400 - (intOf v).toNat)
 case atStart => exact ⟨0, by omega, rfl, H0⟩
 case round =>
  obtain ⟨i, hi, rfl, hn⟩ := hrel; clear H0
  by_cases h1 : i < s.size
  · have h1' : (i : Int) < (s.size : Int) := by omega
    by_cases h2 : i < 255
    · have h2' : (i : Int) < 255 := by omega
      have hc : (s[i].toNat : Int) < 256 := by have := s[i].toNat_lt; omega
      by_cases h3 : s[i].toNat = 0
      · have HN := Nm.hide (hn.trans (name_zero h1 h2 h3)); have h3' : ((s[i].toNat : Int) == 0) = true := by rw [beq_iff_eq]; omega
        clear hn; go_wp2; go_ret; rw [HN.out]; exact ⟨rfl, rfl⟩
      · have h3' : ((s[i].toNat : Int) == 0) = false := by rw [beq_eq_false_iff_ne]; omega
        by_cases h4 : 63 < s[i].toNat
        · have HN := Nm.hide (hn.trans (name_big h1 h2 h4)); have h4' : (63 : Int) < (s[i].toNat : Int) := by omega
          clear hn; go_wp2; go_ret; rw [HN.out]; exact ⟨rfl, rfl⟩
        · have HN := Nm.hide (hn.trans (name_step h1 h2 h3 (by omega))); have h4' : (s[i].toNat : Int) ≤ 63 := by omega
          clear hn; go_wp2
          go_round
          case rel => exact ⟨i + s[i].toNat + 1, by omega, by go_num, HN.out⟩
          case measure => simp [intOf]; omega
    · have HN := Nm.hide (hn.trans (name_end (by omega))); have h2' : (255 : Int) ≤ (i : Int) := by omega
      clear hn; go_wp2; go_ret; rw [HN.out]; exact ⟨rfl, rfl⟩
  · have HN := Nm.hide (hn.trans (name_end (by omega))); have h1' : (s.size : Int) ≤ (i : Int) := by omega
    clear hn; go_wp2; go_ret; rw [HN.out]; exact ⟨rfl, rfl⟩
end Go.Proofs.YtddabafaejahbaaGreatDoor
