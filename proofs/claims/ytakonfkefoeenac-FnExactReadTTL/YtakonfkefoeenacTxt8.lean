/- spec.ReadTTL by its contract. -/
import Derived.Test.YtakonfkefoeenacTxt2
import Derived.Test.YtakonfkefoeenacTxt3
namespace Go.Proofs.Ytakonfkefoeenac
open Go.RowKit

/-- The parts of a time, from byte i on: where the last one ended, and the sum. -/
def ttlF (s : ByteArray) : Nat → Nat → Nat → Int → Option (Nat × Int)
  | 0, _, a, m => some (a, m)
  | f + 1, i, a, m => if h : i < s.size then
      (if Nm.digB s[i] = true then ttlF s f (i + 1) a m
      else match numO (s.extract a i) 10 with
        | none => none
        | some k => if unitS s[i] = 0 then none else ttlF s f (i + 1) (i + 1) (m + (k : Int) * unitS s[i]))
    else some (a, m)

def ttlE (s : ByteArray) : Option (Nat × Int) → Int × Int
  | none => (0, 18)
  | some (a, m) => if a ≠ s.size ∨ a = 0 ∨ 2147483647 < m then (0, 18) else (m, 0)

def ttlG (s : ByteArray) : Int × Int := ttlE s (ttlF s s.size 0 0 0)

def ttlS (s : ByteArray) : Int × Int :=
  if 60 < s.size then (0, 18) else match numO s 10 with
    | some n => if n ≤ 2147483647 then ((n : Int), 0) else ttlG s
    | none => ttlG s

theorem numO_lt {s : ByteArray} {k : Nat} (h : numO s 10 = some k) : k < 10000000000 := by
  by_cases hz : 1 ≤ s.size ∧ s.size ≤ 10
  · by_cases hd : ∀ j, (hj : j < s.size) → Nm.digB s[j] = true
    · rw [numO_good hz.1 hz.2 hd] at h
      have h1 := numD_take (s := s) (Nat.le_refl _) (fun j _ hj => hd j hj)
      rw [List.take_of_length_le (by simp)] at h1
      have h2 : 10 ^ s.size ≤ 10 ^ 10 := Nat.pow_le_pow_right (by decide) hz.2
      have h3 : (10 : Nat) ^ 10 = 10000000000 := by decide
      simp at h
      omega
    · have : ∃ j, ∃ hj : j < s.size, Nm.digB s[j] = false := by
        apply Classical.byContradiction
        intro hn
        apply hd
        intro j hj
        cases hb : Nm.digB s[j] with
        | true => rfl
        | false => exact absurd ⟨j, hj, hb⟩ hn
      obtain ⟨j, hj, hb⟩ := this
      rw [numO_bad hj hb] at h
      cases h
  · rw [numO_len hz] at h; cases h

theorem unitS_bound (c : UInt8) : 0 ≤ unitS c ∧ unitS c ≤ 604800 := by
  unfold unitS
  repeat' split
  all_goals omega

/-- Where the walk stands. -/
def LAt (s : ByteArray) (i a : Nat) (m : Int) : Prop := ttlG s = ttlE s (ttlF s (s.size - i) i a m)
theorem lat_start (s : ByteArray) : LAt s 0 0 0 := by simp [LAt, ttlG]
theorem lat_end {s : ByteArray} {i a : Nat} {m : Int} (h : LAt s i a m) (hi : s.size ≤ i) : ttlG s = ttlE s (some (a, m)) := by
  rw [LAt, Nat.sub_eq_zero_of_le hi] at h; exact h
theorem lat_dig {s : ByteArray} {i a : Nat} {m : Int} (h : LAt s i a m) (hi : i < s.size) (hd : Nm.digB s[i] = true) : LAt s (i + 1) a m := by
  rw [LAt] at h ⊢
  rw [h, show s.size - i = s.size - (i + 1) + 1 by omega, ttlF, dif_pos hi, if_pos hd]
theorem lat_none {s : ByteArray} {i a : Nat} {m : Int} (h : LAt s i a m) (hi : i < s.size) (hd : Nm.digB s[i] = false) (hn : numO (s.extract a i) 10 = none) : ttlG s = (0, 18) := by
  rw [LAt] at h
  rw [h, show s.size - i = s.size - (i + 1) + 1 by omega, ttlF, dif_pos hi, if_neg (by simp [hd]), hn]; rfl
theorem lat_unit {s : ByteArray} {i a k : Nat} {m : Int} (h : LAt s i a m) (hi : i < s.size) (hd : Nm.digB s[i] = false) (hn : numO (s.extract a i) 10 = some k) (hu : unitS s[i] = 0) : ttlG s = (0, 18) := by
  rw [LAt] at h
  rw [h, show s.size - i = s.size - (i + 1) + 1 by omega, ttlF, dif_pos hi, if_neg (by simp [hd]), hn]
  simp only [hu, if_true]; rfl
theorem lat_part {s : ByteArray} {i a k : Nat} {m : Int} (h : LAt s i a m) (hi : i < s.size) (hd : Nm.digB s[i] = false) (hn : numO (s.extract a i) 10 = some k) (hu : unitS s[i] ≠ 0) : LAt s (i + 1) (i + 1) (m + (k : Int) * unitS s[i]) := by
  rw [LAt] at h ⊢
  rw [h, show s.size - i = s.size - (i + 1) + 1 by omega, ttlF, dif_pos hi, if_neg (by simp [hd]), hn]
  simp only [hu, if_false]

def ttlV (p : Int × Int) : Value := .tuple #[.int .i64 p.1, .int .i64 p.2]

set_option maxRecDepth 100000 in
set_option maxHeartbeats 3000000 in
theorem specReadTTL_any (s : ByteArray) (w : World) :
    Calls Try.prog 22 #[.string s] w fun e w' => e = .returned (ttlV (ttlS s)) ∧ w' = w := by
  obtain ⟨R, HR⟩ : ∃ R, Hid (R = ttlV (ttlS s)) := ⟨_, rfl⟩
  rw [← HR.out]
  by_cases h60 : 60 < s.size
  · have HN : Hid (R = .tuple #[.int .i64 0, .int .i64 18]) := by show _ = _; rw [HR.out, ttlS, if_pos h60]; rfl
    have h1' : (60 : Int) < (s.size : Int) := by omega
    go_enter Try.func22, Try.ntmps22
    go_wp2
    go_ret2
    rw [HN.out]
    exact ⟨rfl, rfl⟩
  have h60' : (s.size : Int) ≤ 60 := by omega
  have hnum := fun W => l03Number_any s 10 W (by decide)
  by_cases hq : ∃ n, numO s 10 = some n ∧ n ≤ 2147483647
  · obtain ⟨n, hn, hle⟩ := hq
    have HN : Hid (R = .tuple #[.int .i64 n, .int .i64 0]) := by show _ = _; rw [HR.out, ttlS, if_neg h60, hn]; simp only [hle, if_true]; rfl
    rw [hn] at hnum
    have hle' : (n : Int) ≤ 2147483647 := by omega
    simp only [numV, Option.getD_some, Option.isSome_some] at hnum
    clear hn h60
    go_enter Try.func22, Try.ntmps22
    go_wp2_with (go_at_call 36; refine (hnum _).mono ?_; rintro e w1 ⟨rfl, hw⟩; obtain rfl : w = w1 := hw.symm; clear hw)
    go_ret2
    rw [HN.out]
    exact ⟨rfl, rfl⟩
  obtain ⟨x, b, hxb, hnum⟩ : ∃ (x : Nat) (b : Bool), (b && decide ((x : Int) ≤ 2147483647)) = false ∧ ∀ W, Calls Try.prog 36 #[.string s, .int .i64 10] W fun e w' => e = .returned (.tuple #[.int .i64 (x : Int), .bool b]) ∧ w' = W := by
    cases hn : numO s 10 with
    | none => rw [hn] at hnum; exact ⟨0, false, rfl, hnum⟩
    | some n =>
      rw [hn] at hnum
      refine ⟨n, true, ?_, hnum⟩
      have : ¬ n ≤ 2147483647 := fun h => hq ⟨n, hn, h⟩
      simp; omega
  have HS : Hid (R = ttlV (ttlG s)) := by
    show _ = _
    rw [HR.out, ttlS, if_neg h60]
    cases hn : numO s 10 with
    | none => rfl
    | some n => simp only; rw [if_neg (fun h => hq ⟨n, hn, h⟩)]
  have hst := lat_start s
  clear hq
  have hmid : ∀ (b' : Bool) (x' : Nat), b' = b → x' = x → (b' = false ∨ (b' = true ∧ (2147483647 : Int) < x')) := by
    intro b' x' e1 e2
    subst e1; subst e2
    cases b' with
    | false => exact Or.inl rfl
    | true => right; simp at hxb; exact ⟨rfl, by omega⟩
  have hmid := hmid b x rfl rfl
  clear hxb
  rcases hmid with rfl | ⟨rfl, hxx⟩
  all_goals
    go_enter Try.func22, Try.ntmps22
    go_wp2_with (go_at_call 36; refine (hnum _).mono ?_; rintro e w1 ⟨rfl, hw⟩; obtain rfl : w = w1 := hw.symm; clear hw)
    go_loop [6, 7, 8] (fun t u v => ∃ (i a : Nat) (m : Int), i ≤ s.size ∧ a ≤ i ∧ 0 ≤ m ∧ m ≤ (i : Int) * 6048000000000000 ∧ v = .int .i64 i ∧ u = .int .i64 a ∧ t = .int .i64 m ∧ Hid (LAt s i a m)) (fun _ _ v => s.size - (intOf v).toNat)
    case atStart => exact ⟨0, 0, 0, Nat.zero_le _, Nat.le_refl _, Int.le_refl _, by decide, rfl, rfl, rfl, hst⟩
    case round =>
      obtain ⟨i, a, m, hk, ha, hm0, hm1, rfl, rfl, rfl, HA⟩ := hrel
      clear hst hnum
      by_cases hlt : i < s.size
      · have hlt' : (i : Int) < (s.size : Int) := by omega
        have ha' : (a : Int) ≤ (i : Int) := by omega
        have hdig := l01Digit_any s[i]
        have hun := l03Unit_any s[i]
        have hno := fun W => l03Number_any (s.extract a i) 10 W (by decide)
        cases hD : Nm.digB s[i] with
        | true =>
          have HN := Nm.hide (lat_dig HA.out hlt hD)
          rw [hD] at hdig
          clear hD HA hun hno
          go_wp2_with (go_at_call 37; refine (hdig _).mono ?_; rintro e w1 ⟨rfl, hw⟩; obtain rfl : w = w1 := hw.symm; clear hw)
          go_round
          case rel => exact ⟨i + 1, a, m, by omega, by omega, hm0, by omega, by go_num, rfl, rfl, HN⟩
          case measure => simp [intOf]; omega
        | false =>
          rw [hD] at hdig
          cases hn : numO (s.extract a i) 10 with
          | none =>
            have HN : Hid (R = ttlV (0, 18)) := by show _ = _; rw [HS.out, lat_none HA.out hlt hD hn]
            rw [hn] at hno
            simp only [numV, Option.getD_none, Option.isSome_none] at hno
            clear hD hn HA hun
            go_wp2_with (first | (go_at_call 37; refine (hdig _).mono ?_; rintro e w1 ⟨rfl, hw⟩; obtain rfl : w = w1 := hw.symm; clear hw) | (go_at_call 36; refine (hno _).mono ?_; rintro e w1 ⟨rfl, hw⟩; obtain rfl : w = w1 := hw.symm; clear hw))
            go_ret2
            rw [HN.out]
            exact ⟨rfl, rfl⟩
          | some k =>
            have hkl := numO_lt hn
            rw [hn] at hno
            simp only [numV, Option.getD_some, Option.isSome_some] at hno
            by_cases hu : unitS s[i] = 0
            · have HN : Hid (R = ttlV (0, 18)) := by show _ = _; rw [HS.out, lat_unit HA.out hlt hD hn hu]
              rw [hu] at hun
              clear hD hn HA hu
              go_wp2_with (first | (go_at_call 37; refine (hdig _).mono ?_; rintro e w1 ⟨rfl, hw⟩; obtain rfl : w = w1 := hw.symm; clear hw) | (go_at_call 36; refine (hno _).mono ?_; rintro e w1 ⟨rfl, hw⟩; obtain rfl : w = w1 := hw.symm; clear hw) | (go_at_call 38; refine (hun _).mono ?_; rintro e w1 ⟨rfl, hw⟩; obtain rfl : w = w1 := hw.symm; clear hw))
              go_ret2
              rw [HN.out]
              exact ⟨rfl, rfl⟩
            · have HN := Nm.hide (lat_part HA.out hlt hD hn hu)
              obtain ⟨hu0, hu1⟩ := unitS_bound s[i]
              have hub : (unitS s[i] == 0) = false := by rw [beq_eq_false_iff_ne]; exact hu
              have hp0 : 0 ≤ (k : Int) * unitS s[i] := Int.mul_nonneg (by omega) hu0
              have hp1 : (k : Int) * unitS s[i] ≤ 6048000000000000 := by
                have h1 : (k : Int) * unitS s[i] ≤ (k : Int) * 604800 := Int.mul_le_mul_of_nonneg_left hu1 (by omega)
                omega
              clear hD hn HA hu
              generalize unitS s[i] = q at *
              have hw1 : IntKind.i64.wrap ((k : Int) * q) = (k : Int) * q := Go.wrap_small _ (by omega) (by omega)
              go_wp2_with (first | (go_at_call 37; refine (hdig _).mono ?_; rintro e w1 ⟨rfl, hw⟩; obtain rfl : w = w1 := hw.symm; clear hw) | (go_at_call 36; refine (hno _).mono ?_; rintro e w1 ⟨rfl, hw⟩; obtain rfl : w = w1 := hw.symm; clear hw) | (go_at_call 38; refine (hun _).mono ?_; rintro e w1 ⟨rfl, hw⟩; obtain rfl : w = w1 := hw.symm; clear hw))
              go_round
              case rel => exact ⟨i + 1, i + 1, m + (k : Int) * q, by omega, by omega, by omega, by omega, by go_num, by go_num, by go_num, HN⟩
              case measure => simp [intOf]; omega
      · have hlt' : (s.size : Int) ≤ (i : Int) := by omega
        have HE := Nm.hide (lat_end HA.out (by omega))
        have Hse := Nm.hide (show s.size = 0 → s = ByteArray.empty from fun h => by
          rcases s with ⟨⟨l⟩⟩
          cases l with
          | nil => rfl
          | cons x y => exact absurd h (by simp [ByteArray.size]))
        have Hes := Nm.hide (show s = ByteArray.empty → s.size = 0 from fun h => by rw [h]; rfl)
        have HX : Hid (((a ≠ s.size ∨ a = 0 ∨ 2147483647 < m) ∧ R = ttlV (0, 18)) ∨ ((a = s.size ∧ a ≠ 0 ∧ m ≤ 2147483647) ∧ R = ttlV (m, 0))) := by
          show _ ∨ _
          by_cases g : a ≠ s.size ∨ a = 0 ∨ 2147483647 < m
          · left; refine ⟨g, ?_⟩; rw [HS.out, HE.out, ttlE, if_pos g]
          · right; refine ⟨by omega, ?_⟩; rw [HS.out, HE.out, ttlE, if_neg g]
        clear HE HA
        go_wp2
        all_goals
          rename_i h3 h2 h1 h0
          rcases HX.out with ⟨g, HN⟩ | ⟨g, HN⟩
        all_goals first
          | (go_ret2; rw [HN]; exact ⟨rfl, rfl⟩)
          | (exfalso
             by_cases e : s.size = 0
             · have e2 := Hse.out e
               first | contradiction | omega
             · have e2 : ¬ s = ByteArray.empty := fun h => e (Hes.out h)
               have e3 : ((s.size : Int) == 0) = false := by rw [beq_eq_false_iff_ne]; omega
               first | contradiction | omega | (simp only [e3, Bool.false_eq_true, false_or] at h1; omega))
end Go.Proofs.Ytakonfkefoeenac
