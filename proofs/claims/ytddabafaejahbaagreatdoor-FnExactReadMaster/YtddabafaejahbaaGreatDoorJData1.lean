import Derived.Test.YtddabafaejahbaaGreatDoorJOwnT
import Derived.Test.YtddabafaejahbaaGreatDoorRows
import Derived.WalkSpells
import Derived.WalkLawsBesides
import Derived.Test.YtddabafaejahbaaGreatDoorJSSplit
import Derived.Test.YtddabafaejahbaaGreatDoorJMath
import Derived.Test.YtddabafaejahbaaGreatDoorJIParts
/- The model's small functions of data, by their contracts. -/
namespace Go.Proofs.YtddabafaejahbaaGreatDoor
open Go.RowKit
set_option maxRecDepth 100000 in
set_option maxHeartbeats 800000 in
theorem l02Alnum_any (c : UInt8) (w : World) :
 Calls Tryz.prog 47 #[.int .u8 c.toNat] w fun e w' => e = .returned (.bool (Dt.alnumB c)) ∧ w' = w := by
 have key : ∀ b, Dt.alnumB c = b → Hid (Dt.alnumB c = b) := fun _ h => h
 by_cases h1 : 48 ≤ c.toNat
 · by_cases h2 : c.toNat ≤ 57
   · have HA := key true (by simp [Dt.alnumB, h1, h2]); have d1 : (48 : Int) ≤ (c.toNat : Int) := by omega
     have d2 : (c.toNat : Int) ≤ 57 := by omega
     go_enter Tryz.func47, Tryz.ntmps47; go_wp2; go_ret; rw [HA.out]; exact ⟨rfl, rfl⟩
   · by_cases h3 : 97 ≤ c.toNat
     · by_cases h4 : c.toNat ≤ 122
       · have HA := key true (by simp [Dt.alnumB, h1, h2, h3, h4]); have d1 : (48 : Int) ≤ (c.toNat : Int) := by omega
         have d2 : (57 : Int) < (c.toNat : Int) := by omega
         have e2 : decide ((c.toNat : Int) ≤ 57) = false := by simp; omega
         have d3 : (97 : Int) ≤ (c.toNat : Int) := by omega
         have d4 : (c.toNat : Int) ≤ 122 := by omega
         go_enter Tryz.func47, Tryz.ntmps47; go_wp2; go_ret; rw [HA.out]; exact ⟨rfl, rfl⟩
       · have HA := key false (by simp [Dt.alnumB]; omega); have d1 : (48 : Int) ≤ (c.toNat : Int) := by omega
         have d2 : (57 : Int) < (c.toNat : Int) := by omega
         have e2 : decide ((c.toNat : Int) ≤ 57) = false := by simp; omega
         have d3 : (97 : Int) ≤ (c.toNat : Int) := by omega
         have d4 : (122 : Int) < (c.toNat : Int) := by omega
         have e4 : decide ((c.toNat : Int) ≤ 122) = false := by simp; omega
         have d5 : (65 : Int) ≤ (c.toNat : Int) := by omega
         have d6 : (90 : Int) < (c.toNat : Int) := by omega
         have e6 : decide ((c.toNat : Int) ≤ 90) = false := by simp; omega
         go_enter Tryz.func47, Tryz.ntmps47; go_wp2; go_ret; rw [HA.out]; exact ⟨rfl, rfl⟩
     · by_cases h5 : 65 ≤ c.toNat ∧ c.toNat ≤ 90
       · have HA := key true (by simp [Dt.alnumB]; omega); have d1 : (48 : Int) ≤ (c.toNat : Int) := by omega
         have d2 : (57 : Int) < (c.toNat : Int) := by omega
         have e2 : decide ((c.toNat : Int) ≤ 57) = false := by simp; omega
         have d3 : (c.toNat : Int) < 97 := by omega
         have d5 : (65 : Int) ≤ (c.toNat : Int) := by omega
         have d6 : (c.toNat : Int) ≤ 90 := by omega
         go_enter Tryz.func47, Tryz.ntmps47; go_wp2; go_ret; rw [HA.out]; exact ⟨rfl, rfl⟩
       · have HA := key false (by simp [Dt.alnumB]; omega); have d1 : (48 : Int) ≤ (c.toNat : Int) := by omega
         have d2 : (57 : Int) < (c.toNat : Int) := by omega
         have e2 : decide ((c.toNat : Int) ≤ 57) = false := by simp; omega
         have d3 : (c.toNat : Int) < 97 := by omega
         by_cases h6 : 65 ≤ c.toNat
         · have d5 : (65 : Int) ≤ (c.toNat : Int) := by omega
           have d6 : (90 : Int) < (c.toNat : Int) := by omega
           have e6 : decide ((c.toNat : Int) ≤ 90) = false := by simp; omega
           go_enter Tryz.func47, Tryz.ntmps47; go_wp2; go_ret; rw [HA.out]; exact ⟨rfl, rfl⟩
         · have d5 : (c.toNat : Int) < 65 := by omega
           go_enter Tryz.func47, Tryz.ntmps47; go_wp2; go_ret; rw [HA.out]; exact ⟨rfl, rfl⟩
 · have HA := key false (by simp [Dt.alnumB]; omega); have d1 : (c.toNat : Int) < 48 := by omega
   have d3 : (c.toNat : Int) < 97 := by omega
   have d5 : (c.toNat : Int) < 65 := by omega
   go_enter Tryz.func47, Tryz.ntmps47; go_wp2; go_ret; rw [HA.out]; exact ⟨rfl, rfl⟩
set_option maxRecDepth 100000 in
set_option maxHeartbeats 800000 in
theorem l02Form_any (t : Int) (w : World) :
 Calls Tryz.prog 81 #[.int .i64 t] w fun e w' => e = .returned (.string (Dt.formS t)) ∧ w' = w := by
 by_cases h : t = 1 ∨ t = 2 ∨ t = 5 ∨ t = 6 ∨ t = 12 ∨ t = 13 ∨ t = 15 ∨ t = 16 ∨ t = 28 ∨ t = 33 ∨ t = 35 ∨ t = 39 ∨ t = 47 ∨ t = 257
 · rcases h with rfl | rfl | rfl | rfl | rfl | rfl | rfl | rfl | rfl | rfl | rfl | rfl | rfl | rfl
   all_goals
    go_enter Tryz.func81, Tryz.ntmps81; go_wp2; go_ret; exact ⟨rfl, rfl⟩
 · have HA : Hid (Dt.formS t = ⟨#[42]⟩) := by
    show _ = _
    unfold Dt.formS; simp only [show ¬ t = 1 by omega, show ¬ (t = 2 ∨ t = 5 ∨ t = 12 ∨ t = 39) by omega, show ¬ t = 6 by omega, show ¬ t = 13 by omega, show ¬ t = 15 by omega, show ¬ t = 16 by omega, show ¬ t = 28 by omega, show ¬ t = 33 by omega, show ¬ t = 35 by omega, show ¬ t = 47 by omega, show ¬ t = 257 by omega, if_false]
   have b1 : (t == 1) = false := by rw [beq_eq_false_iff_ne]; omega
   have b2 : (t == 2) = false := by rw [beq_eq_false_iff_ne]; omega
   have b3 : (t == 5) = false := by rw [beq_eq_false_iff_ne]; omega
   have b4 : (t == 6) = false := by rw [beq_eq_false_iff_ne]; omega
   have b5 : (t == 12) = false := by rw [beq_eq_false_iff_ne]; omega
   have b6 : (t == 13) = false := by rw [beq_eq_false_iff_ne]; omega
   have b7 : (t == 15) = false := by rw [beq_eq_false_iff_ne]; omega
   have b8 : (t == 16) = false := by rw [beq_eq_false_iff_ne]; omega
   have b9 : (t == 28) = false := by rw [beq_eq_false_iff_ne]; omega
   have b10 : (t == 33) = false := by rw [beq_eq_false_iff_ne]; omega
   have b11 : (t == 35) = false := by rw [beq_eq_false_iff_ne]; omega
   have b12 : (t == 39) = false := by rw [beq_eq_false_iff_ne]; omega
   have b13 : (t == 47) = false := by rw [beq_eq_false_iff_ne]; omega
   have b14 : (t == 257) = false := by rw [beq_eq_false_iff_ne]; omega
   clear h; go_enter Tryz.func81, Tryz.ntmps81; go_wp2; go_ret; rw [HA.out]; exact ⟨rfl, rfl⟩
theorem txt_short {s : ByteArray} (h : 0 < s.size) (h1 : s.size < s[0].toNat + 1) : Dt.txtS s = ByteArray.empty := by
 rw [Dt.txtS, dif_pos h, if_neg (by omega)]
theorem txt_good {s : ByteArray} (h : 0 < s.size) (h1 : s[0].toNat + 1 ≤ s.size) : Dt.txtS s = s.extract 0 (s[0].toNat + 1) := by
 rw [Dt.txtS, dif_pos h, if_pos h1]
theorem txt_none {s : ByteArray} (h : s.size = 0) : Dt.txtS s = ByteArray.empty := by
 rw [Dt.txtS, dif_neg (by omega)]
set_option maxRecDepth 100000 in
set_option maxHeartbeats 800000 in
theorem l02Text_any (s : ByteArray) (w : World) (hs : s.size ≤ maxLen) :
 Calls Tryz.prog 150 #[.string s] w fun e w' => e = .returned (.string (Dt.txtS s)) ∧ w' = w := by
 unfold maxLen at hs
 by_cases h0 : s.size = 0
 · have HA := Nm.hide (txt_none h0)
   have he : s = ByteArray.empty := by
    apply ByteArray.ext; exact Array.eq_empty_of_size_eq_zero h0
   subst he; go_enter Tryz.func150, Tryz.ntmps150; go_wp2; go_ret; rw [HA.out]; exact ⟨rfl, rfl⟩
 · have hp : 0 < s.size := by omega
   have hp' : (0 : Int) < (s.size : Int) := by omega
   have he : (s.toList == []) = false := by
    rw [beq_eq_false_iff_ne, ByteArray.toList_eq]; intro e; have h9 := congrArg List.length e; rw [Array.length_toList] at h9; exact h0 h9
   have hc : (s[0].toNat : Int) < 256 := by have := s[0].toNat_lt; omega
   by_cases h1 : s.size < s[0].toNat + 1
   · have HA := Nm.hide (txt_short hp h1); have h1' : (s.size : Int) < (s[0].toNat : Int) + 1 := by omega
     go_enter Tryz.func150, Tryz.ntmps150; go_wp2; go_ret; rw [HA.out]; exact ⟨rfl, rfl⟩
   · have HA := Nm.hide (txt_good hp (by omega)); have h1' : (s[0].toNat : Int) + 1 ≤ (s.size : Int) := by omega
     go_enter Tryz.func150, Tryz.ntmps150; go_wp2; go_ret; rw [HA.out]; exact ⟨rfl, rfl⟩
end Go.Proofs.YtddabafaejahbaaGreatDoor
/- spec.l03Word by its contract: numbers, times, tags, texts. -/
namespace Go.Proofs.YtddabafaejahbaaGreatDoor
open Go.RowKit
set_option linter.unusedVariables false
theorem numO_lt10 {s : ByteArray} {k : Nat} (h : numO s 10 = some k) : k < 10000000000 := numO_lt h
set_option maxRecDepth 100000 in
set_option maxHeartbeats 800000 in
theorem l03Word_num (c : UInt8) (x o : ByteArray) (w : World) (hc : c = 49 ∨ c = 50 ∨ c = 52) :
 Calls Tryz.prog 21 #[.int .u8 (c.toNat : Int), .agg #[.string x, .bool false], .string o] w fun e w' => e = .returned (strV (readPl c x o)) ∧ Below w.heap.size w w' := by
 have h1 := fun W => l03Number_any x 10 W (by decide)
 cases hn : numO x 10 with
 | none =>
   have hr : readPl c x o = (⟨#[]⟩, 15) := by
    rcases hc with rfl | rfl | rfl <;> simp [readPl, hn]
   rw [hr]; rw [hn] at h1; clear hr hn; unfold numV at h1; simp only [Option.getD_none, Option.isSome_none] at h1
   rcases hc with rfl | rfl | rfl <;>
   · go_enter Tryz.func21, Tryz.ntmps21; go_wp2_with (go_at_call 37; refine (h1 _).mono ?_; rintro e w1 ⟨rfl, rfl⟩)
     refine bodyPost_ret (v := strV (⟨#[]⟩, 15)) ?_ rfl ⟨rfl, (Below.refl _ _).alloc (Nat.le_refl _) _⟩
     simp [results, Tryz.f21, go_sem, strV]
 | some n =>
   have hlt := numO_lt10 hn; rw [hn] at h1; unfold numV at h1; simp only [Option.getD_some, Option.isSome_some] at h1
   by_cases hb : n < 2 ^ (8 * (c.toNat - 48))
   · have hr : readPl c x o = (⟨(bigL n (c.toNat - 48)).toArray⟩, 0) := by
      rcases hc with rfl | rfl | rfl <;> (simp only [readPl, hn]; simp; simpa using hb)
     rw [hr]; clear hr hn
     rcases hc with rfl | rfl | rfl
     · have hp := fun W => l02PutN_any n 1 W (by omega) (by decide) (by decide)
       have hb' : (n : Int) < 256 := by simp at hb; omega
       have dd : decide ((256 : Int) ≤ (n : Int)) = false := by simp; omega
       have e1 : ((49 : UInt8).toNat - 48) = 1 := rfl; rw [e1]; clear hb; go_enter Tryz.func21, Tryz.ntmps21; go_wp2_with (first | (go_at_call 37; refine (h1 _).mono ?_; rintro e w1 ⟨rfl, rfl⟩) | (go_at_call 45; refine (hp _).mono ?_; rintro e w2 ⟨rfl, hb2⟩))
       refine bodyPost_ret (v := strV (⟨(bigL n 1).toArray⟩, 0)) ?_ rfl ⟨rfl, Nm.below_two ((Below.refl _ _).alloc (Nat.le_refl _) _) hb2⟩; simp [results, Tryz.f21, go_sem, strV]
     · have hp : ∀ W, Calls Tryz.prog 45 #[.int .i64 (n : Int), .int .i64 2] W fun e w' => e = .returned (.string ⟨(bigL n 2).toArray⟩) ∧ Below W.heap.size W w' := fun W => l02PutN_any n 2 W (by omega) (by decide) (by decide)
       have hb' : (n : Int) < 65536 := by simp at hb; omega
       have dd : decide ((65536 : Int) ≤ (n : Int)) = false := by simp; omega
       have e1 : ((50 : UInt8).toNat - 48) = 2 := rfl; rw [e1]; clear hb; go_enter Tryz.func21, Tryz.ntmps21; go_wp2_with (first | (go_at_call 37; refine (h1 _).mono ?_; rintro e w1 ⟨rfl, rfl⟩) | (go_at_call 45; refine (hp _).mono ?_; rintro e w2 ⟨rfl, hb2⟩))
       refine bodyPost_ret (v := strV (⟨(bigL n 2).toArray⟩, 0)) ?_ rfl ⟨rfl, Nm.below_two ((Below.refl _ _).alloc (Nat.le_refl _) _) hb2⟩; simp [results, Tryz.f21, go_sem, strV]
     · have hp : ∀ W, Calls Tryz.prog 45 #[.int .i64 (n : Int), .int .i64 4] W fun e w' => e = .returned (.string ⟨(bigL n 4).toArray⟩) ∧ Below W.heap.size W w' := fun W => l02PutN_any n 4 W (by omega) (by decide) (by decide)
       have hb' : (n : Int) < 4294967296 := by simp at hb; omega
       have dd : decide ((4294967296 : Int) ≤ (n : Int)) = false := by simp; omega
       have e1 : ((52 : UInt8).toNat - 48) = 4 := rfl; rw [e1]; clear hb; go_enter Tryz.func21, Tryz.ntmps21; go_wp2_with (first | (go_at_call 37; refine (h1 _).mono ?_; rintro e w1 ⟨rfl, rfl⟩) | (go_at_call 45; refine (hp _).mono ?_; rintro e w2 ⟨rfl, hb2⟩))
       refine bodyPost_ret (v := strV (⟨(bigL n 4).toArray⟩, 0)) ?_ rfl ⟨rfl, Nm.below_two ((Below.refl _ _).alloc (Nat.le_refl _) _) hb2⟩; simp [results, Tryz.f21, go_sem, strV]
   · have hr : readPl c x o = (⟨#[]⟩, 15) := by
      rcases hc with rfl | rfl | rfl <;> (simp only [readPl, hn]; simp; simpa using hb)
     rw [hr]; clear hr hn
     rcases hc with rfl | rfl | rfl
     · have hb' : 256 ≤ (n : Int) := by simp at hb; omega
       clear hb; go_enter Tryz.func21, Tryz.ntmps21; go_wp2_with (go_at_call 37; refine (h1 _).mono ?_; rintro e w1 ⟨rfl, rfl⟩)
       refine bodyPost_ret (v := strV (⟨#[]⟩, 15)) ?_ rfl ⟨rfl, (Below.refl _ _).alloc (Nat.le_refl _) _⟩; simp [results, Tryz.f21, go_sem, strV]
     · have hb' : 65536 ≤ (n : Int) := by simp at hb; omega
       clear hb; go_enter Tryz.func21, Tryz.ntmps21; go_wp2_with (go_at_call 37; refine (h1 _).mono ?_; rintro e w1 ⟨rfl, rfl⟩)
       refine bodyPost_ret (v := strV (⟨#[]⟩, 15)) ?_ rfl ⟨rfl, (Below.refl _ _).alloc (Nat.le_refl _) _⟩; simp [results, Tryz.f21, go_sem, strV]
     · have hb' : 4294967296 ≤ (n : Int) := by simp at hb; omega
       clear hb; go_enter Tryz.func21, Tryz.ntmps21; go_wp2_with (go_at_call 37; refine (h1 _).mono ?_; rintro e w1 ⟨rfl, rfl⟩)
       refine bodyPost_ret (v := strV (⟨#[]⟩, 15)) ?_ rfl ⟨rfl, (Below.refl _ _).alloc (Nat.le_refl _) _⟩; simp [results, Tryz.f21, go_sem, strV]
theorem ttlF_nn (s : ByteArray) : ∀ (f i a : Nat) (m : Int), 0 ≤ m → ∀ r, ttlF s f i a m = some r → 0 ≤ r.2 := by
 intro f
 induction f with
 | zero =>
   intro i a m hm r h; simp only [ttlF, Option.some.injEq] at h; rw [← h]
   exact hm
 | succ f ih =>
   intro i a m hm r h; rw [ttlF] at h
   split at h
   · split at h
     · exact ih _ _ _ hm r h
     · split at h
       · cases h
       · split at h
         · cases h
         · refine ih _ _ _ ?_ r h; have := (unitS_bound s[i]).1; have : 0 ≤ ((‹Nat› : Nat) : Int) * unitS s[i] := Int.mul_nonneg (by omega) this; omega
   · simp only [Option.some.injEq] at h; rw [← h]; exact hm
theorem ttlG_rng (s : ByteArray) : 0 ≤ (ttlG s).1 ∧ (ttlG s).1 ≤ 4294967295 := by
 unfold ttlG
 cases e : ttlF s s.size 0 0 0 with
 | none => simp [ttlE]
 | some r =>
   have hn := ttlF_nn s _ _ _ _ (Int.le_refl 0) r e; obtain ⟨a, m⟩ := r; simp only at hn
   simp only [ttlE]; split
   · simp
   · simp only; omega
theorem ttlS_rng (s : ByteArray) : 0 ≤ (ttlS s).1 ∧ (ttlS s).1 ≤ 4294967295 := by
 unfold ttlS; split
 · simp
 · split
   · split
     · simp only; omega
     · exact ttlG_rng _
   · exact ttlG_rng _
set_option maxRecDepth 100000 in
set_option maxHeartbeats 800000 in
theorem l03Word_time (x o : ByteArray) (w : World) :
 Calls Tryz.prog 21 #[.int .u8 84, .agg #[.string x, .bool false], .string o] w fun e w' => e = .returned (strV (readPl 84 x o)) ∧ Below w.heap.size w w' := by
 have h1 := fun W => l03Number_any x 10 W (by decide)
 have h2 := fun W => specReadTTL_any x W
 have hr : readPl 84 x o = match numO x 10 with | some n => if n ≤ 4294967295 then (⟨(bigL n 4).toArray⟩, 0) else timW x | none => timW x := rfl
 rw [hr]; clear hr
 have tim : ∀ (N : Option Nat), (∀ n, N = some n → 4294967295 < n ∧ n < 10000000000) → (∀ W : World, Calls Tryz.prog 37 #[.string x, .int .i64 10] W fun e w' => e = .returned (numV N) ∧ w' = W) → Calls Tryz.prog 21 #[.int .u8 84, .agg #[.string x, .bool false], .string o] w fun e w' => e = .returned (strV (timW x)) ∧ Below w.heap.size w w' := by
  intro N hN h1; have ht : 0 ≤ (ttlS x).1 ∧ (ttlS x).1 ≤ 4294967295 := ttlS_rng x
  by_cases h0 : (ttlS x).2 = 0
  · have hr : timW x = (⟨(bigL (ttlS x).1.toNat 4).toArray⟩, 0) := if_pos h0; rw [hr]; obtain ⟨k, hk⟩ : ∃ k : Nat, (ttlS x).1 = (k : Int) := ⟨(ttlS x).1.toNat, by omega⟩; have hkk : (ttlS x).1.toNat = k := by omega
    rw [hkk]; have hp : ∀ W, Calls Tryz.prog 45 #[.int .i64 (k : Int), .int .i64 4] W fun e w' => e = .returned (.string ⟨(bigL k 4).toArray⟩) ∧ Below W.heap.size W w' := fun W => l02PutN_any k 4 W (by omega) (by decide) (by decide)
    unfold ttlV at h2; rw [hk, h0] at h2; clear hr hk hkk h0
    cases N with
    | none =>
      unfold numV at h1; simp only [Option.getD_none, Option.isSome_none] at h1; go_enter Tryz.func21, Tryz.ntmps21; go_wp2_with (first | (go_at_call 37; refine (h1 _).mono ?_; rintro e w1 ⟨rfl, rfl⟩) | (go_at_call 46; refine (h2 _).mono ?_; rintro e w1 ⟨rfl, rfl⟩) | (go_at_call 45; refine (hp _).mono ?_; rintro e w2 ⟨rfl, hb2⟩))
      refine bodyPost_ret (v := strV (⟨(bigL k 4).toArray⟩, 0)) ?_ rfl ⟨rfl, Nm.below_two ((Below.refl _ _).alloc (Nat.le_refl _) _) hb2⟩
      simp [results, Tryz.f21, go_sem, strV]
    | some n =>
      unfold numV at h1; simp only [Option.getD_some, Option.isSome_some] at h1; have hn := (hN n rfl).1; have hn' : 4294967295 < (n : Int) := by omega
      have dd : decide ((4294967295 : Int) < (n : Int)) = true := by simp; omega
      go_enter Tryz.func21, Tryz.ntmps21; go_wp2_with (first | (go_at_call 37; refine (h1 _).mono ?_; rintro e w1 ⟨rfl, rfl⟩) | (go_at_call 46; refine (h2 _).mono ?_; rintro e w1 ⟨rfl, rfl⟩) | (go_at_call 45; refine (hp _).mono ?_; rintro e w2 ⟨rfl, hb2⟩))
      refine bodyPost_ret (v := strV (⟨(bigL k 4).toArray⟩, 0)) ?_ rfl ⟨rfl, Nm.below_two ((Below.refl _ _).alloc (Nat.le_refl _) _) hb2⟩; simp [results, Tryz.f21, go_sem, strV]
  · have hr : timW x = (⟨#[]⟩, (ttlS x).2) := if_neg h0; rw [hr]; unfold ttlV at h2; have h0' : ((ttlS x).2 == 0) = false := by simpa using h0
    generalize (ttlS x).1 = T1 at *; generalize (ttlS x).2 = T2 at *; clear hr
    cases N with
    | none =>
      unfold numV at h1; simp only [Option.getD_none, Option.isSome_none] at h1; go_enter Tryz.func21, Tryz.ntmps21; go_wp2_with (first | (go_at_call 37; refine (h1 _).mono ?_; rintro e w1 ⟨rfl, rfl⟩) | (go_at_call 46; refine (h2 _).mono ?_; rintro e w1 ⟨rfl, rfl⟩))
      refine bodyPost_ret (v := strV (⟨#[]⟩, T2)) ?_ rfl ⟨rfl, (Below.refl _ _).alloc (Nat.le_refl _) _⟩
      simp [results, Tryz.f21, go_sem, strV]
    | some n =>
      unfold numV at h1; simp only [Option.getD_some, Option.isSome_some] at h1; have hn := (hN n rfl).1; have hn' : 4294967295 < (n : Int) := by omega
      have dd : decide ((4294967295 : Int) < (n : Int)) = true := by simp; omega
      go_enter Tryz.func21, Tryz.ntmps21; go_wp2_with (first | (go_at_call 37; refine (h1 _).mono ?_; rintro e w1 ⟨rfl, rfl⟩) | (go_at_call 46; refine (h2 _).mono ?_; rintro e w1 ⟨rfl, rfl⟩))
      refine bodyPost_ret (v := strV (⟨#[]⟩, T2)) ?_ rfl ⟨rfl, (Below.refl _ _).alloc (Nat.le_refl _) _⟩; simp [results, Tryz.f21, go_sem, strV]
 cases hn : numO x 10 with
 | none => exact tim none (fun n h => by cases h) (fun W => by rw [← hn]; exact h1 W)
 | some n =>
   have hlt := numO_lt10 hn
   by_cases hb : n ≤ 4294967295
   · simp only [if_pos hb]; have hp : ∀ W, Calls Tryz.prog 45 #[.int .i64 (n : Int), .int .i64 4] W fun e w' => e = .returned (.string ⟨(bigL n 4).toArray⟩) ∧ Below W.heap.size W w' := fun W => l02PutN_any n 4 W (by omega) (by decide) (by decide)
     rw [hn] at h1; unfold numV at h1; simp only [Option.getD_some, Option.isSome_some] at h1; have hn' : (n : Int) ≤ 4294967295 := by omega
     have dd : decide ((4294967295 : Int) < (n : Int)) = false := by simp; omega
     clear h2 tim hn; go_enter Tryz.func21, Tryz.ntmps21; go_wp2_with (first | (go_at_call 37; refine (h1 _).mono ?_; rintro e w1 ⟨rfl, rfl⟩) | (go_at_call 45; refine (hp _).mono ?_; rintro e w2 ⟨rfl, hb2⟩))
     refine bodyPost_ret (v := strV (⟨(bigL n 4).toArray⟩, 0)) ?_ rfl ⟨rfl, Nm.below_two ((Below.refl _ _).alloc (Nat.le_refl _) _) hb2⟩; simp [results, Tryz.f21, go_sem, strV]
   · simp only [if_neg hb]; exact tim (some n) (fun m h => by cases h; exact ⟨by omega, hlt⟩) (fun W => by rw [← hn]; exact h1 W)
end Go.Proofs.YtddabafaejahbaaGreatDoor
