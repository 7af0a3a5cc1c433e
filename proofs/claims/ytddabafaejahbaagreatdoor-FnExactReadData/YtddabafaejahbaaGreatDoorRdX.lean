import Derived.Test.YtddabafaejahbaaGreatDoorJRdW
import Derived.Test.YtddabafaejahbaaGreatDoorJMath
import Derived.Test.YtddabafaejahbaaGreatDoorJIParts
/- spec.l03Word by its contract: numbers, times, tags, texts. -/
namespace Go.Proofs.YtddabafaejahbaaGreatDoor
open Go.RowKit
set_option linter.unusedVariables false

theorem numO_lt10 {s : ByteArray} {k : Nat} (h : numO s 10 = some k) : k < 10000000000 := numO_lt h

set_option maxRecDepth 100000 in
set_option maxHeartbeats 800000 in
theorem l03Word_num (c : UInt8) (x o : ByteArray) (w : World) (hc : c = 49 ∨ c = 50 ∨ c = 52) :
    Calls Tryz.prog 21 #[.int .u8 (c.toNat : Int), .agg #[.string x, .bool false], .string o] w fun e w' => e = .returned (strV (readPl c x o)) ∧ Below w.heap.size w w' := by
  have h1 := fun W => l03Number_any x 10 W (by decide)
  cases hn : numO x 10 with
  | none =>
    have hr : readPl c x o = (⟨#[]⟩, 15) := by
      rcases hc with rfl | rfl | rfl <;> simp [readPl, hn]
    rw [hr]
    rw [hn] at h1
    clear hr hn
    unfold numV at h1
    simp only [Option.getD_none, Option.isSome_none] at h1
    rcases hc with rfl | rfl | rfl <;>
    · go_enter Tryz.func21, Tryz.ntmps21
      go_wp2_with (go_at_call 37; refine (h1 _).mono ?_; rintro e w1 ⟨rfl, rfl⟩)
      refine bodyPost_ret (v := strV (⟨#[]⟩, 15)) ?_ rfl ⟨rfl, (Below.refl _ _).alloc (Nat.le_refl _) _⟩
      simp [results, Tryz.f21, go_sem, strV]
  | some n =>
    have hlt := numO_lt10 hn
    rw [hn] at h1
    unfold numV at h1
    simp only [Option.getD_some, Option.isSome_some] at h1
    by_cases hb : n < 2 ^ (8 * (c.toNat - 48))
    · have hr : readPl c x o = (⟨(bigL n (c.toNat - 48)).toArray⟩, 0) := by
        rcases hc with rfl | rfl | rfl <;> (simp only [readPl, hn]; simp; simpa using hb)
      rw [hr]
      clear hr hn
      rcases hc with rfl | rfl | rfl
      · have hp := fun W => l02PutN_any n 1 W (by omega) (by decide) (by decide)
        have hb' : (n : Int) < 256 := by simp at hb; omega
        have dd : decide ((256 : Int) ≤ (n : Int)) = false := by simp; omega
        have e1 : ((49 : UInt8).toNat - 48) = 1 := rfl
        rw [e1]
        clear hb
        go_enter Tryz.func21, Tryz.ntmps21
        go_wp2_with (first | (go_at_call 37; refine (h1 _).mono ?_; rintro e w1 ⟨rfl, rfl⟩) | (go_at_call 45; refine (hp _).mono ?_; rintro e w2 ⟨rfl, hb2⟩))
        refine bodyPost_ret (v := strV (⟨(bigL n 1).toArray⟩, 0)) ?_ rfl ⟨rfl, Nm.below_two ((Below.refl _ _).alloc (Nat.le_refl _) _) hb2⟩
        simp [results, Tryz.f21, go_sem, strV]
      · have hp : ∀ W, Calls Tryz.prog 45 #[.int .i64 (n : Int), .int .i64 2] W fun e w' => e = .returned (.string ⟨(bigL n 2).toArray⟩) ∧ Below W.heap.size W w' := fun W => l02PutN_any n 2 W (by omega) (by decide) (by decide)
        have hb' : (n : Int) < 65536 := by simp at hb; omega
        have dd : decide ((65536 : Int) ≤ (n : Int)) = false := by simp; omega
        have e1 : ((50 : UInt8).toNat - 48) = 2 := rfl
        rw [e1]
        clear hb
        go_enter Tryz.func21, Tryz.ntmps21
        go_wp2_with (first | (go_at_call 37; refine (h1 _).mono ?_; rintro e w1 ⟨rfl, rfl⟩) | (go_at_call 45; refine (hp _).mono ?_; rintro e w2 ⟨rfl, hb2⟩))
        refine bodyPost_ret (v := strV (⟨(bigL n 2).toArray⟩, 0)) ?_ rfl ⟨rfl, Nm.below_two ((Below.refl _ _).alloc (Nat.le_refl _) _) hb2⟩
        simp [results, Tryz.f21, go_sem, strV]
      · have hp : ∀ W, Calls Tryz.prog 45 #[.int .i64 (n : Int), .int .i64 4] W fun e w' => e = .returned (.string ⟨(bigL n 4).toArray⟩) ∧ Below W.heap.size W w' := fun W => l02PutN_any n 4 W (by omega) (by decide) (by decide)
        have hb' : (n : Int) < 4294967296 := by simp at hb; omega
        have dd : decide ((4294967296 : Int) ≤ (n : Int)) = false := by simp; omega
        have e1 : ((52 : UInt8).toNat - 48) = 4 := rfl
        rw [e1]
        clear hb
        go_enter Tryz.func21, Tryz.ntmps21
        go_wp2_with (first | (go_at_call 37; refine (h1 _).mono ?_; rintro e w1 ⟨rfl, rfl⟩) | (go_at_call 45; refine (hp _).mono ?_; rintro e w2 ⟨rfl, hb2⟩))
        refine bodyPost_ret (v := strV (⟨(bigL n 4).toArray⟩, 0)) ?_ rfl ⟨rfl, Nm.below_two ((Below.refl _ _).alloc (Nat.le_refl _) _) hb2⟩
        simp [results, Tryz.f21, go_sem, strV]
    · have hr : readPl c x o = (⟨#[]⟩, 15) := by
        rcases hc with rfl | rfl | rfl <;> (simp only [readPl, hn]; simp; simpa using hb)
      rw [hr]
      clear hr hn
      rcases hc with rfl | rfl | rfl
      · have hb' : 256 ≤ (n : Int) := by simp at hb; omega
        clear hb
        go_enter Tryz.func21, Tryz.ntmps21
        go_wp2_with (go_at_call 37; refine (h1 _).mono ?_; rintro e w1 ⟨rfl, rfl⟩)
        refine bodyPost_ret (v := strV (⟨#[]⟩, 15)) ?_ rfl ⟨rfl, (Below.refl _ _).alloc (Nat.le_refl _) _⟩
        simp [results, Tryz.f21, go_sem, strV]
      · have hb' : 65536 ≤ (n : Int) := by simp at hb; omega
        clear hb
        go_enter Tryz.func21, Tryz.ntmps21
        go_wp2_with (go_at_call 37; refine (h1 _).mono ?_; rintro e w1 ⟨rfl, rfl⟩)
        refine bodyPost_ret (v := strV (⟨#[]⟩, 15)) ?_ rfl ⟨rfl, (Below.refl _ _).alloc (Nat.le_refl _) _⟩
        simp [results, Tryz.f21, go_sem, strV]
      · have hb' : 4294967296 ≤ (n : Int) := by simp at hb; omega
        clear hb
        go_enter Tryz.func21, Tryz.ntmps21
        go_wp2_with (go_at_call 37; refine (h1 _).mono ?_; rintro e w1 ⟨rfl, rfl⟩)
        refine bodyPost_ret (v := strV (⟨#[]⟩, 15)) ?_ rfl ⟨rfl, (Below.refl _ _).alloc (Nat.le_refl _) _⟩
        simp [results, Tryz.f21, go_sem, strV]

theorem ttlF_nn (s : ByteArray) : ∀ (f i a : Nat) (m : Int), 0 ≤ m → ∀ r, ttlF s f i a m = some r → 0 ≤ r.2 := by
  intro f
  induction f with
  | zero =>
    intro i a m hm r h
    simp only [ttlF, Option.some.injEq] at h
    rw [← h]
    exact hm
  | succ f ih =>
    intro i a m hm r h
    rw [ttlF] at h
    split at h
    · split at h
      · exact ih _ _ _ hm r h
      · split at h
        · cases h
        · split at h
          · cases h
          · refine ih _ _ _ ?_ r h
            have := (unitS_bound s[i]).1
            have : 0 ≤ ((‹Nat› : Nat) : Int) * unitS s[i] := Int.mul_nonneg (by omega) this
            omega
    · simp only [Option.some.injEq] at h
      rw [← h]
      exact hm
theorem ttlG_rng (s : ByteArray) : 0 ≤ (ttlG s).1 ∧ (ttlG s).1 ≤ 4294967295 := by
  unfold ttlG
  cases e : ttlF s s.size 0 0 0 with
  | none => simp [ttlE]
  | some r =>
    have hn := ttlF_nn s _ _ _ _ (Int.le_refl 0) r e
    obtain ⟨a, m⟩ := r
    simp only at hn
    simp only [ttlE]
    split
    · simp
    · simp only; omega
theorem ttlS_rng (s : ByteArray) : 0 ≤ (ttlS s).1 ∧ (ttlS s).1 ≤ 4294967295 := by
  unfold ttlS
  split
  · simp
  · split
    · split
      · simp only; omega
      · exact ttlG_rng _
    · exact ttlG_rng _

set_option maxRecDepth 100000 in
set_option maxHeartbeats 800000 in
theorem l03Word_time (x o : ByteArray) (w : World) :
    Calls Tryz.prog 21 #[.int .u8 84, .agg #[.string x, .bool false], .string o] w fun e w' => e = .returned (strV (readPl 84 x o)) ∧ Below w.heap.size w w' := by
  have h1 := fun W => l03Number_any x 10 W (by decide)
  have h2 := fun W => specReadTTL_any x W
  have hr : readPl 84 x o = match numO x 10 with | some n => if n ≤ 4294967295 then (⟨(bigL n 4).toArray⟩, 0) else timW x | none => timW x := rfl
  rw [hr]
  clear hr
  have tim : ∀ (N : Option Nat), (∀ n, N = some n → 4294967295 < n ∧ n < 10000000000) → (∀ W : World, Calls Tryz.prog 37 #[.string x, .int .i64 10] W fun e w' => e = .returned (numV N) ∧ w' = W) → Calls Tryz.prog 21 #[.int .u8 84, .agg #[.string x, .bool false], .string o] w fun e w' => e = .returned (strV (timW x)) ∧ Below w.heap.size w w' := by
    intro N hN h1
    have ht : 0 ≤ (ttlS x).1 ∧ (ttlS x).1 ≤ 4294967295 := ttlS_rng x
    by_cases h0 : (ttlS x).2 = 0
    · have hr : timW x = (⟨(bigL (ttlS x).1.toNat 4).toArray⟩, 0) := if_pos h0
      rw [hr]
      obtain ⟨k, hk⟩ : ∃ k : Nat, (ttlS x).1 = (k : Int) := ⟨(ttlS x).1.toNat, by omega⟩
      have hkk : (ttlS x).1.toNat = k := by omega
      rw [hkk]
      have hp : ∀ W, Calls Tryz.prog 45 #[.int .i64 (k : Int), .int .i64 4] W fun e w' => e = .returned (.string ⟨(bigL k 4).toArray⟩) ∧ Below W.heap.size W w' := fun W => l02PutN_any k 4 W (by omega) (by decide) (by decide)
      unfold ttlV at h2
      rw [hk, h0] at h2
      clear hr hk hkk h0
      cases N with
      | none =>
        unfold numV at h1
        simp only [Option.getD_none, Option.isSome_none] at h1
        go_enter Tryz.func21, Tryz.ntmps21
        go_wp2_with (first | (go_at_call 37; refine (h1 _).mono ?_; rintro e w1 ⟨rfl, rfl⟩) | (go_at_call 46; refine (h2 _).mono ?_; rintro e w1 ⟨rfl, rfl⟩) | (go_at_call 45; refine (hp _).mono ?_; rintro e w2 ⟨rfl, hb2⟩))
        refine bodyPost_ret (v := strV (⟨(bigL k 4).toArray⟩, 0)) ?_ rfl ⟨rfl, Nm.below_two ((Below.refl _ _).alloc (Nat.le_refl _) _) hb2⟩
        simp [results, Tryz.f21, go_sem, strV]
      | some n =>
        unfold numV at h1
        simp only [Option.getD_some, Option.isSome_some] at h1
        have hn := (hN n rfl).1
        have hn' : 4294967295 < (n : Int) := by omega
        have dd : decide ((4294967295 : Int) < (n : Int)) = true := by simp; omega
        go_enter Tryz.func21, Tryz.ntmps21
        go_wp2_with (first | (go_at_call 37; refine (h1 _).mono ?_; rintro e w1 ⟨rfl, rfl⟩) | (go_at_call 46; refine (h2 _).mono ?_; rintro e w1 ⟨rfl, rfl⟩) | (go_at_call 45; refine (hp _).mono ?_; rintro e w2 ⟨rfl, hb2⟩))
        refine bodyPost_ret (v := strV (⟨(bigL k 4).toArray⟩, 0)) ?_ rfl ⟨rfl, Nm.below_two ((Below.refl _ _).alloc (Nat.le_refl _) _) hb2⟩
        simp [results, Tryz.f21, go_sem, strV]
    · have hr : timW x = (⟨#[]⟩, (ttlS x).2) := if_neg h0
      rw [hr]
      unfold ttlV at h2
      have h0' : ((ttlS x).2 == 0) = false := by simpa using h0
      generalize (ttlS x).1 = T1 at *
      generalize (ttlS x).2 = T2 at *
      clear hr
      cases N with
      | none =>
        unfold numV at h1
        simp only [Option.getD_none, Option.isSome_none] at h1
        go_enter Tryz.func21, Tryz.ntmps21
        go_wp2_with (first | (go_at_call 37; refine (h1 _).mono ?_; rintro e w1 ⟨rfl, rfl⟩) | (go_at_call 46; refine (h2 _).mono ?_; rintro e w1 ⟨rfl, rfl⟩))
        refine bodyPost_ret (v := strV (⟨#[]⟩, T2)) ?_ rfl ⟨rfl, (Below.refl _ _).alloc (Nat.le_refl _) _⟩
        simp [results, Tryz.f21, go_sem, strV]
      | some n =>
        unfold numV at h1
        simp only [Option.getD_some, Option.isSome_some] at h1
        have hn := (hN n rfl).1
        have hn' : 4294967295 < (n : Int) := by omega
        have dd : decide ((4294967295 : Int) < (n : Int)) = true := by simp; omega
        go_enter Tryz.func21, Tryz.ntmps21
        go_wp2_with (first | (go_at_call 37; refine (h1 _).mono ?_; rintro e w1 ⟨rfl, rfl⟩) | (go_at_call 46; refine (h2 _).mono ?_; rintro e w1 ⟨rfl, rfl⟩))
        refine bodyPost_ret (v := strV (⟨#[]⟩, T2)) ?_ rfl ⟨rfl, (Below.refl _ _).alloc (Nat.le_refl _) _⟩
        simp [results, Tryz.f21, go_sem, strV]
  cases hn : numO x 10 with
  | none => exact tim none (fun n h => by cases h) (fun W => by rw [← hn]; exact h1 W)
  | some n =>
    have hlt := numO_lt10 hn
    by_cases hb : n ≤ 4294967295
    · simp only [if_pos hb]
      have hp : ∀ W, Calls Tryz.prog 45 #[.int .i64 (n : Int), .int .i64 4] W fun e w' => e = .returned (.string ⟨(bigL n 4).toArray⟩) ∧ Below W.heap.size W w' := fun W => l02PutN_any n 4 W (by omega) (by decide) (by decide)
      rw [hn] at h1
      unfold numV at h1
      simp only [Option.getD_some, Option.isSome_some] at h1
      have hn' : (n : Int) ≤ 4294967295 := by omega
      have dd : decide ((4294967295 : Int) < (n : Int)) = false := by simp; omega
      clear h2 tim hn
      go_enter Tryz.func21, Tryz.ntmps21
      go_wp2_with (first | (go_at_call 37; refine (h1 _).mono ?_; rintro e w1 ⟨rfl, rfl⟩) | (go_at_call 45; refine (hp _).mono ?_; rintro e w2 ⟨rfl, hb2⟩))
      refine bodyPost_ret (v := strV (⟨(bigL n 4).toArray⟩, 0)) ?_ rfl ⟨rfl, Nm.below_two ((Below.refl _ _).alloc (Nat.le_refl _) _) hb2⟩
      simp [results, Tryz.f21, go_sem, strV]
    · simp only [if_neg hb]
      exact tim (some n) (fun m h => by cases h; exact ⟨by omega, hlt⟩) (fun W => by rw [← hn]; exact h1 W)
end Go.Proofs.YtddabafaejahbaaGreatDoor
