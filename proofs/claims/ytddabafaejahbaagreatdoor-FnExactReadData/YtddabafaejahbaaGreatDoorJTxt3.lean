import Derived.Test.YtddabafaejahbaaGreatDoorJMath
import Derived.Test.YtddabafaejahbaaGreatDoorRows
import Derived.WalkSpells
import Derived.WalkLawsBesides
import Derived.RegionTactic
import Derived.BigRegion
import Derived.BigQuiet
import Derived.Deep.QuietTactic
import Derived.WalkKit
/- spec.l03Unit, l03Mnemonic, l03Hex, l03Script by their contracts. -/
namespace Go.Proofs.YtddabafaejahbaaGreatDoor
open Go.RowKit

def unitS (c : UInt8) : Int :=
  if c.toNat = 115 ∨ c.toNat = 83 then 1 else if c.toNat = 109 ∨ c.toNat = 77 then 60 else if c.toNat = 104 ∨ c.toNat = 72 then 3600
  else if c.toNat = 100 ∨ c.toNat = 68 then 86400 else if c.toNat = 119 ∨ c.toNat = 87 then 604800 else 0

set_option maxRecDepth 100000 in
set_option maxHeartbeats 1600000 in
theorem l03Unit_any (c : UInt8) (w : World) :
    Calls Tryz.prog 87 #[.int .u8 c.toNat] w fun e w' => e = .returned (.int .i64 (unitS c)) ∧ w' = w := by
  have HU : ∀ z, unitS c = z → Hid (unitS c = z) := fun _ h => h
  by_cases h : c.toNat = 115 ∨ c.toNat = 83 ∨ c.toNat = 109 ∨ c.toNat = 77 ∨ c.toNat = 104 ∨ c.toNat = 72 ∨ c.toNat = 100 ∨ c.toNat = 68 ∨ c.toNat = 119 ∨ c.toNat = 87
  · rcases h with h | h | h | h | h | h | h | h | h | h
    all_goals
      have HE : ∃ z, Hid (unitS c = z) ∧ z = unitS c := ⟨_, rfl, rfl⟩
      simp only [unitS, h]
      go_enter Tryz.func87, Tryz.ntmps87
      go_wp2
      go_ret
      exact ⟨rfl, rfl⟩
  · have HA : Hid (unitS c = 0) := by
      show _ = _
      unfold unitS
      rw [if_neg (by omega), if_neg (by omega), if_neg (by omega), if_neg (by omega), if_neg (by omega)]
    have b1 : ((c.toNat : Int) == 115) = false := by rw [beq_eq_false_iff_ne]; omega
    have b2 : ((c.toNat : Int) == 83) = false := by rw [beq_eq_false_iff_ne]; omega
    have b3 : ((c.toNat : Int) == 109) = false := by rw [beq_eq_false_iff_ne]; omega
    have b4 : ((c.toNat : Int) == 77) = false := by rw [beq_eq_false_iff_ne]; omega
    have b5 : ((c.toNat : Int) == 104) = false := by rw [beq_eq_false_iff_ne]; omega
    have b6 : ((c.toNat : Int) == 72) = false := by rw [beq_eq_false_iff_ne]; omega
    have b7 : ((c.toNat : Int) == 100) = false := by rw [beq_eq_false_iff_ne]; omega
    have b8' : ((c.toNat : Int) == 68) = false := by rw [beq_eq_false_iff_ne]; omega
    have b9 : ((c.toNat : Int) == 119) = false := by rw [beq_eq_false_iff_ne]; omega
    have b10 : ((c.toNat : Int) == 87) = false := by rw [beq_eq_false_iff_ne]; omega
    clear h HU
    go_enter Tryz.func87, Tryz.ntmps87
    go_wp2
    go_ret
    rw [HA.out]
    exact ⟨rfl, rfl⟩
end Go.Proofs.YtddabafaejahbaaGreatDoor
/- spec.ReadTTL by its contract. -/
namespace Go.Proofs.YtddabafaejahbaaGreatDoor
open Go.RowKit

/-- The parts of a time, from byte i on: where the last one ended, and the sum. -/
def ttlF (s : ByteArray) : Nat → Nat → Nat → Int → Option (Nat × Int)
  | 0, _, a, m => some (a, m)
  | f + 1, i, a, m => if h : i < s.size then
      (if Nm.digB s[i] = true then ttlF s f (i + 1) a m
      else match numO (s.extract a i) 10 with
        | none => none
        | some k => if unitS s[i] = 0 then none else ttlF s f (i + 1) (i + 1) (m + (k : Int) * unitS s[i]))
    else some (a, m)

def ttlE (s : ByteArray) : Option (Nat × Int) → Int × Int
  | none => (0, 18)
  | some (a, m) => if a ≠ s.size ∨ a = 0 ∨ 2147483647 < m then (0, 18) else (m, 0)

def ttlG (s : ByteArray) : Int × Int := ttlE s (ttlF s s.size 0 0 0)

def ttlS (s : ByteArray) : Int × Int :=
  if 60 < s.size then (0, 18) else match numO s 10 with
    | some n => if n ≤ 2147483647 then ((n : Int), 0) else ttlG s
    | none => ttlG s

theorem numO_lt {s : ByteArray} {k : Nat} (h : numO s 10 = some k) : k < 10000000000 := by
  by_cases hz : 1 ≤ s.size ∧ s.size ≤ 10
  · by_cases hd : ∀ j, (hj : j < s.size) → Nm.digB s[j] = true
    · rw [numO_good hz.1 hz.2 hd] at h
      have h1 := numD_take (s := s) (Nat.le_refl _) (fun j _ hj => hd j hj)
      rw [List.take_of_length_le (by simp)] at h1
      have h2 : 10 ^ s.size ≤ 10 ^ 10 := Nat.pow_le_pow_right (by decide) hz.2
      have h3 : (10 : Nat) ^ 10 = 10000000000 := by decide
      simp at h
      omega
    · have : ∃ j, ∃ hj : j < s.size, Nm.digB s[j] = false := by
        apply Classical.byContradiction
        intro hn
        apply hd
        intro j hj
        cases hb : Nm.digB s[j] with
        | true => rfl
        | false => exact absurd ⟨j, hj, hb⟩ hn
      obtain ⟨j, hj, hb⟩ := this
      rw [numO_bad hj hb] at h
      cases h
  · rw [numO_len hz] at h; cases h

theorem unitS_bound (c : UInt8) : 0 ≤ unitS c ∧ unitS c ≤ 604800 := by
  unfold unitS
  repeat' split
  all_goals omega

/-- Where the walk stands. -/
def LAt (s : ByteArray) (i a : Nat) (m : Int) : Prop := ttlG s = ttlE s (ttlF s (s.size - i) i a m)
theorem lat_start (s : ByteArray) : LAt s 0 0 0 := by simp [LAt, ttlG]
theorem lat_end {s : ByteArray} {i a : Nat} {m : Int} (h : LAt s i a m) (hi : s.size ≤ i) : ttlG s = ttlE s (some (a, m)) := by
  rw [LAt, Nat.sub_eq_zero_of_le hi] at h; exact h
theorem lat_dig {s : ByteArray} {i a : Nat} {m : Int} (h : LAt s i a m) (hi : i < s.size) (hd : Nm.digB s[i] = true) : LAt s (i + 1) a m := by
  rw [LAt] at h ⊢
  rw [h, show s.size - i = s.size - (i + 1) + 1 by omega, ttlF, dif_pos hi, if_pos hd]
theorem lat_none {s : ByteArray} {i a : Nat} {m : Int} (h : LAt s i a m) (hi : i < s.size) (hd : Nm.digB s[i] = false) (hn : numO (s.extract a i) 10 = none) : ttlG s = (0, 18) := by
  rw [LAt] at h
  rw [h, show s.size - i = s.size - (i + 1) + 1 by omega, ttlF, dif_pos hi, if_neg (by simp [hd]), hn]; rfl
theorem lat_unit {s : ByteArray} {i a k : Nat} {m : Int} (h : LAt s i a m) (hi : i < s.size) (hd : Nm.digB s[i] = false) (hn : numO (s.extract a i) 10 = some k) (hu : unitS s[i] = 0) : ttlG s = (0, 18) := by
  rw [LAt] at h
  rw [h, show s.size - i = s.size - (i + 1) + 1 by omega, ttlF, dif_pos hi, if_neg (by simp [hd]), hn]
  simp only [hu, if_true]; rfl
theorem lat_part {s : ByteArray} {i a k : Nat} {m : Int} (h : LAt s i a m) (hi : i < s.size) (hd : Nm.digB s[i] = false) (hn : numO (s.extract a i) 10 = some k) (hu : unitS s[i] ≠ 0) : LAt s (i + 1) (i + 1) (m + (k : Int) * unitS s[i]) := by
  rw [LAt] at h ⊢
  rw [h, show s.size - i = s.size - (i + 1) + 1 by omega, ttlF, dif_pos hi, if_neg (by simp [hd]), hn]
  simp only [hu, if_false]

def ttlV (p : Int × Int) : Value := .tuple #[.int .i64 p.1, .int .i64 p.2]

set_option maxRecDepth 100000 in
set_option maxHeartbeats 3000000 in
theorem specReadTTL_any (s : ByteArray) (w : World) :
    Calls Tryz.prog 46 #[.string s] w fun e w' => e = .returned (ttlV (ttlS s)) ∧ w' = w := by
  obtain ⟨R, HR⟩ : ∃ R, Hid (R = ttlV (ttlS s)) := ⟨_, rfl⟩
  rw [← HR.out]
  by_cases h60 : 60 < s.size
  · have HN : Hid (R = .tuple #[.int .i64 0, .int .i64 18]) := by show _ = _; rw [HR.out, ttlS, if_pos h60]; rfl
    have h1' : (60 : Int) < (s.size : Int) := by omega
    go_enter Tryz.func46, Tryz.ntmps46
    go_wp2
    go_ret2
    rw [HN.out]
    exact ⟨rfl, rfl⟩
  have h60' : (s.size : Int) ≤ 60 := by omega
  have hnum := fun W => l03Number_any s 10 W (by decide)
  by_cases hq : ∃ n, numO s 10 = some n ∧ n ≤ 2147483647
  · obtain ⟨n, hn, hle⟩ := hq
    have HN : Hid (R = .tuple #[.int .i64 n, .int .i64 0]) := by show _ = _; rw [HR.out, ttlS, if_neg h60, hn]; simp only [hle, if_true]; rfl
    rw [hn] at hnum
    have hle' : (n : Int) ≤ 2147483647 := by omega
    simp only [numV, Option.getD_some, Option.isSome_some] at hnum
    clear hn h60
    go_enter Tryz.func46, Tryz.ntmps46
    go_wp2_with (go_at_call 37; refine (hnum _).mono ?_; rintro e w1 ⟨rfl, hw⟩; obtain rfl : w = w1 := hw.symm; clear hw)
    go_ret2
    rw [HN.out]
    exact ⟨rfl, rfl⟩
  obtain ⟨x, b, hxb, hnum⟩ : ∃ (x : Nat) (b : Bool), (b && decide ((x : Int) ≤ 2147483647)) = false ∧ ∀ W, Calls Tryz.prog 37 #[.string s, .int .i64 10] W fun e w' => e = .returned (.tuple #[.int .i64 (x : Int), .bool b]) ∧ w' = W := by
    cases hn : numO s 10 with
    | none => rw [hn] at hnum; exact ⟨0, false, rfl, hnum⟩
    | some n =>
      rw [hn] at hnum
      refine ⟨n, true, ?_, hnum⟩
      have : ¬ n ≤ 2147483647 := fun h => hq ⟨n, hn, h⟩
      simp; omega
  have HS : Hid (R = ttlV (ttlG s)) := by
    show _ = _
    rw [HR.out, ttlS, if_neg h60]
    cases hn : numO s 10 with
    | none => rfl
    | some n => simp only; rw [if_neg (fun h => hq ⟨n, hn, h⟩)]
  have hst := lat_start s
  clear hq
  have hmid : ∀ (b' : Bool) (x' : Nat), b' = b → x' = x → (b' = false ∨ (b' = true ∧ (2147483647 : Int) < x')) := by
    intro b' x' e1 e2
    subst e1; subst e2
    cases b' with
    | false => exact Or.inl rfl
    | true => right; simp at hxb; exact ⟨rfl, by omega⟩
  have hmid := hmid b x rfl rfl
  clear hxb
  rcases hmid with rfl | ⟨rfl, hxx⟩
  all_goals
    go_enter Tryz.func46, Tryz.ntmps46
    go_wp2_with (go_at_call 37; refine (hnum _).mono ?_; rintro e w1 ⟨rfl, hw⟩; obtain rfl : w = w1 := hw.symm; clear hw)
    go_loop [6, 7, 8] (fun t u v => ∃ (i a : Nat) (m : Int), i ≤ s.size ∧ a ≤ i ∧ 0 ≤ m ∧ m ≤ (i : Int) * 6048000000000000 ∧ v = .int .i64 i ∧ u = .int .i64 a ∧ t = .int .i64 m ∧ Hid (LAt s i a m)) (fun _ _ v => s.size - (intOf v).toNat)
    case atStart => exact ⟨0, 0, 0, Nat.zero_le _, Nat.le_refl _, Int.le_refl _, by decide, rfl, rfl, rfl, hst⟩
    case round =>
      obtain ⟨i, a, m, hk, ha, hm0, hm1, rfl, rfl, rfl, HA⟩ := hrel
      clear hst hnum
      by_cases hlt : i < s.size
      · have hlt' : (i : Int) < (s.size : Int) := by omega
        have ha' : (a : Int) ≤ (i : Int) := by omega
        have hdig := l01Digit_any s[i]
        have hun := l03Unit_any s[i]
        have hno := fun W => l03Number_any (s.extract a i) 10 W (by decide)
        cases hD : Nm.digB s[i] with
        | true =>
          have HN := Nm.hide (lat_dig HA.out hlt hD)
          rw [hD] at hdig
          clear hD HA hun hno
          go_wp2_with (go_at_call 79; refine (hdig _).mono ?_; rintro e w1 ⟨rfl, hw⟩; obtain rfl : w = w1 := hw.symm; clear hw)
          go_round
          case rel => exact ⟨i + 1, a, m, by omega, by omega, hm0, by omega, by go_num, rfl, rfl, HN⟩
          case measure => simp [intOf]; omega
        | false =>
          rw [hD] at hdig
          cases hn : numO (s.extract a i) 10 with
          | none =>
            have HN : Hid (R = ttlV (0, 18)) := by show _ = _; rw [HS.out, lat_none HA.out hlt hD hn]
            rw [hn] at hno
            simp only [numV, Option.getD_none, Option.isSome_none] at hno
            clear hD hn HA hun
            go_wp2_with (first | (go_at_call 79; refine (hdig _).mono ?_; rintro e w1 ⟨rfl, hw⟩; obtain rfl : w = w1 := hw.symm; clear hw) | (go_at_call 37; refine (hno _).mono ?_; rintro e w1 ⟨rfl, hw⟩; obtain rfl : w = w1 := hw.symm; clear hw))
            go_ret2
            rw [HN.out]
            exact ⟨rfl, rfl⟩
          | some k =>
            have hkl := numO_lt hn
            rw [hn] at hno
            simp only [numV, Option.getD_some, Option.isSome_some] at hno
            by_cases hu : unitS s[i] = 0
            · have HN : Hid (R = ttlV (0, 18)) := by show _ = _; rw [HS.out, lat_unit HA.out hlt hD hn hu]
              rw [hu] at hun
              clear hD hn HA hu
              go_wp2_with (first | (go_at_call 79; refine (hdig _).mono ?_; rintro e w1 ⟨rfl, hw⟩; obtain rfl : w = w1 := hw.symm; clear hw) | (go_at_call 37; refine (hno _).mono ?_; rintro e w1 ⟨rfl, hw⟩; obtain rfl : w = w1 := hw.symm; clear hw) | (go_at_call 87; refine (hun _).mono ?_; rintro e w1 ⟨rfl, hw⟩; obtain rfl : w = w1 := hw.symm; clear hw))
              go_ret2
              rw [HN.out]
              exact ⟨rfl, rfl⟩
            · have HN := Nm.hide (lat_part HA.out hlt hD hn hu)
              obtain ⟨hu0, hu1⟩ := unitS_bound s[i]
              have hub : (unitS s[i] == 0) = false := by rw [beq_eq_false_iff_ne]; exact hu
              have hp0 : 0 ≤ (k : Int) * unitS s[i] := Int.mul_nonneg (by omega) hu0
              have hp1 : (k : Int) * unitS s[i] ≤ 6048000000000000 := by
                have h1 : (k : Int) * unitS s[i] ≤ (k : Int) * 604800 := Int.mul_le_mul_of_nonneg_left hu1 (by omega)
                omega
              clear hD hn HA hu
              generalize unitS s[i] = q at *
              have hw1 : IntKind.i64.wrap ((k : Int) * q) = (k : Int) * q := Go.wrap_small _ (by omega) (by omega)
              go_wp2_with (first | (go_at_call 79; refine (hdig _).mono ?_; rintro e w1 ⟨rfl, hw⟩; obtain rfl : w = w1 := hw.symm; clear hw) | (go_at_call 37; refine (hno _).mono ?_; rintro e w1 ⟨rfl, hw⟩; obtain rfl : w = w1 := hw.symm; clear hw) | (go_at_call 87; refine (hun _).mono ?_; rintro e w1 ⟨rfl, hw⟩; obtain rfl : w = w1 := hw.symm; clear hw))
              go_round
              case rel => exact ⟨i + 1, i + 1, m + (k : Int) * q, by omega, by omega, by omega, by omega, by go_num, by go_num, by go_num, HN⟩
              case measure => simp [intOf]; omega
      · have hlt' : (s.size : Int) ≤ (i : Int) := by omega
        have HE := Nm.hide (lat_end HA.out (by omega))
        have Hse := Nm.hide (show s.size = 0 → s = ByteArray.empty from fun h => by
          rcases s with ⟨⟨l⟩⟩
          cases l with
          | nil => rfl
          | cons x y => exact absurd h (by simp [ByteArray.size]))
        have Hes := Nm.hide (show s = ByteArray.empty → s.size = 0 from fun h => by rw [h]; rfl)
        have HX : Hid (((a ≠ s.size ∨ a = 0 ∨ 2147483647 < m) ∧ R = ttlV (0, 18)) ∨ ((a = s.size ∧ a ≠ 0 ∧ m ≤ 2147483647) ∧ R = ttlV (m, 0))) := by
          show _ ∨ _
          by_cases g : a ≠ s.size ∨ a = 0 ∨ 2147483647 < m
          · left; refine ⟨g, ?_⟩; rw [HS.out, HE.out, ttlE, if_pos g]
          · right; refine ⟨by omega, ?_⟩; rw [HS.out, HE.out, ttlE, if_neg g]
        clear HE HA
        go_wp2
        all_goals
          rename_i h3 h2 h1 h0
          rcases HX.out with ⟨g, HN⟩ | ⟨g, HN⟩
        all_goals first
          | (go_ret2; rw [HN]; exact ⟨rfl, rfl⟩)
          | (exfalso
             by_cases e : s.size = 0
             · have e2 := Hse.out e
               first | contradiction | omega
             · have e2 : ¬ s = ByteArray.empty := fun h => e (Hes.out h)
               have e3 : ((s.size : Int) == 0) = false := by rw [beq_eq_false_iff_ne]; omega
               first | contradiction | omega | (simp only [e3, Bool.false_eq_true, false_or] at h1; omega))
end Go.Proofs.YtddabafaejahbaaGreatDoor
/- Escapes: what is shared. -/
namespace Go.Proofs.YtddabafaejahbaaGreatDoor
open Go.RowKit

def escB : Option (UInt8 × Nat) → Int
  | none => 0
  | some (b, _) => b.toNat
def escN : Option (UInt8 × Nat) → Int
  | none => 0
  | some (_, n) => n
def escM : Option (UInt8 × Nat) → Int
  | none => 0
  | some (_, n) => ((n + 1 : Nat) : Int)
def escO : Option (UInt8 × Nat) → Bool
  | none => false
  | some _ => true

theorem dig_bounds {c : UInt8} (h : Nm.digB c = true) : 48 ≤ c.toNat ∧ c.toNat ≤ 57 := by
  simp [Nm.digB] at h
  omega

theorem drop_three {t : ByteArray} {k : Nat} (h : k + 3 ≤ t.size) : t.data.toList.drop k = t[k] :: t[k + 1] :: t[k + 2] :: t.data.toList.drop (k + 3) := by
  rw [Nm.drop_at (by omega : k < t.size), Nm.drop_at (by omega : k + 1 < t.size), Nm.drop_at (by omega : k + 1 + 1 < t.size)]

end Go.Proofs.YtddabafaejahbaaGreatDoor
/- spec.l01Digit, spec.l01Escape by their contracts. -/
namespace Go.Proofs.YtddabafaejahbaaGreatDoor
open Go.RowKit

set_option maxRecDepth 100000 in
set_option maxHeartbeats 800000 in
theorem l01Escape_any (t : ByteArray) (r : Option (UInt8 × Nat)) (w : World) (hr : Hid (Nm.escF t.data.toList = r)) (hs : t.size ≤ 1000000000) :
    Calls Tryz.prog 88 #[.string t] w fun e w' => e = .returned (.tuple #[.int .u8 (escB r), .int .i64 (escN r)]) ∧ ∃ m, w' = w.drewN m := by
  by_cases h1 : t.size = 0
  · have HE : r = none := by
      rw [← hr.out, List.length_eq_zero_iff.1 (show t.data.toList.length = 0 by simpa using h1)]; rfl
    have he := Nm.tl_empty h1
    subst HE
    go_enter Tryz.func88, Tryz.ntmps88
    go_wp2
    go_ret2
    exact ⟨rfl, 0, rfl⟩
  · have hp1 : 0 < t.size := by omega
    have he := Nm.tl_not_empty hp1
    cases hd : Nm.digB t[0] with
    | false =>
      have HE : r = some (t[0], 1) := by
        rw [← hr.out, ← List.drop_zero (l := t.data.toList), Nm.drop_at hp1]; exact Nm.esc_byte _ hd
      subst HE
      go_enter Tryz.func88, Tryz.ntmps88
      go_wp2_with (go_at_call 79; refine (l01Digit_any _ _).mono ?_; rintro e w1 ⟨rfl, rfl⟩)
      go_ret2
      exact ⟨rfl, 0, rfl⟩
    | true =>
      by_cases h4 : t.size < 3
      · have HE : r = none := by
          rw [← hr.out, ← List.drop_zero (l := t.data.toList), Nm.drop_at hp1]; exact Nm.esc_short hd (by simp; omega)
        have h4' : decide ((t.size : Int) < 3) = true := by simp; omega
        subst HE
        go_enter Tryz.func88, Tryz.ntmps88
        go_wp2_with (go_at_call 79; refine (l01Digit_any _ _).mono ?_; rintro e w1 ⟨rfl, rfl⟩)
        go_ret2
        exact ⟨rfl, 0, rfl⟩
      · have h4' : decide ((t.size : Int) < 3) = false := by simp; omega
        have hp2 : 1 < t.size := by omega
        have hp3 : 2 < t.size := by omega
        have hthree : Nm.escF t.data.toList = if Nm.digB t[1] = true ∧ Nm.digB t[2] = true then (if Nm.num3 t[0] t[1] t[2] ≤ 255 then some (UInt8.ofNat (Nm.num3 t[0] t[1] t[2]), 3) else none) else none := by
          rw [← List.drop_zero (l := t.data.toList), drop_three (by omega : 0 + 3 ≤ t.size)]
          exact Nm.esc_three hd
        cases hd2 : Nm.digB t[1] with
        | false =>
          have HE : r = none := by rw [← hr.out, hthree, if_neg (by simp [hd2])]
          clear hthree
          subst HE
          go_enter Tryz.func88, Tryz.ntmps88
          go_wp2_with (go_at_call 79; refine (l01Digit_any _ _).mono ?_; rintro e w1 ⟨rfl, rfl⟩)
          go_ret2
          exact ⟨rfl, 0, rfl⟩
        | true =>
          cases hd3 : Nm.digB t[2] with
          | false =>
            have HE : r = none := by rw [← hr.out, hthree, if_neg (by simp [hd3])]
            clear hthree
            subst HE
            go_enter Tryz.func88, Tryz.ntmps88
            go_wp2_with (go_at_call 79; refine (l01Digit_any _ _).mono ?_; rintro e w1 ⟨rfl, rfl⟩)
            go_ret2
            exact ⟨rfl, 0, rfl⟩
          | true =>
            have b1 := dig_bounds hd
            have b2 := dig_bounds hd2
            have b3 := dig_bounds hd3
            have i1 : (0 : Int) < (t.size : Int) := by omega
            have i2 : (1 : Int) < (t.size : Int) := by omega
            have i3 : (2 : Int) < (t.size : Int) := by omega
            rw [if_pos ⟨hd2, hd3⟩] at hthree
            have HN : Hid (((t[0].toNat : Int) - (48 : Int)) * (100 : Int) + ((t[1].toNat : Int) - (48 : Int)) * (10 : Int) + ((t[2].toNat : Int) - (48 : Int)) = (Nm.num3 t[0] t[1] t[2] : Int)) := by
              show _ = _
              unfold Nm.num3; omega
            by_cases hN : Nm.num3 t[0] t[1] t[2] ≤ 255
            · have HE : r = some (UInt8.ofNat (Nm.num3 t[0] t[1] t[2]), 3) := by rw [← hr.out, hthree, if_pos hN]
              have hle : ((t[0].toNat : Int) - (48 : Int)) * (100 : Int) + ((t[1].toNat : Int) - (48 : Int)) * (10 : Int) + ((t[2].toNat : Int) - (48 : Int)) ≤ (255 : Int) := by have := HN.out; omega
              have HV : Hid (((UInt8.ofNat (Nm.num3 t[0] t[1] t[2])).toNat : Int) = ((t[0].toNat : Int) - (48 : Int)) * (100 : Int) + ((t[1].toNat : Int) - (48 : Int)) * (10 : Int) + ((t[2].toNat : Int) - (48 : Int))) := by
                show _ = _
                have h1 := HN.out
                have h2 : (UInt8.ofNat (Nm.num3 t[0] t[1] t[2])).toNat = Nm.num3 t[0] t[1] t[2] := by simp; omega
                rw [h2]; omega
              clear hthree hN
              subst HE
              go_enter Tryz.func88, Tryz.ntmps88
              go_wp2_with (go_at_call 79; refine (l01Digit_any _ _).mono ?_; rintro e w1 ⟨rfl, rfl⟩)
              go_region
              go_wp2
              go_ret2
              simp only [escB, HV.out]
              exact ⟨rfl, 1, rfl⟩
            · have HE : r = none := by rw [← hr.out, hthree, if_neg hN]
              have hgt : (255 : Int) < ((t[0].toNat : Int) - (48 : Int)) * (100 : Int) + ((t[1].toNat : Int) - (48 : Int)) * (10 : Int) + ((t[2].toNat : Int) - (48 : Int)) := by have := HN.out; omega
              clear hthree hN
              subst HE
              go_enter Tryz.func88, Tryz.ntmps88
              go_wp2_with (go_at_call 79; refine (l01Digit_any _ _).mono ?_; rintro e w1 ⟨rfl, rfl⟩)
              go_region
              go_wp2
              go_ret2
              exact ⟨rfl, 1, rfl⟩
end Go.Proofs.YtddabafaejahbaaGreatDoor
/- A row of strings of the call's own. -/
namespace Go.Proofs.YtddabafaejahbaaGreatDoor
open Go.RowKit

theorem Tryz.infoStr : (Tryz.prog.info? 9).map (fun i => (i.zero, i.size, i.bytes)) = some (some (.string ByteArray.empty), 1, 16) := by kernel_rfl

theorem own_step {W wr w1 : World} {v v' : Value} {B e : Nat} {ls : List ByteArray} {x : ByteArray} (hB : B ≤ wr.heap.size)
    (hown : wr.ownsRow B e 1 v ls.length (ls.map Value.string)) (hbel : Below B W wr) (o : Obj)
    (hown' : w1.ownsRow B e 1 v' (ls.length + 1) (ls.map Value.string ++ [.string x])) (hgrow : (wr.alloc o).grownBy w1 v.ownBlock) :
    w1.ownsRow B e 1 v' (ls ++ [x]).length ((ls ++ [x]).map Value.string) ∧ Below B W w1 := by
  refine ⟨by simpa using hown', ?_⟩
  refine (hbel.alloc hB o).grown hgrow (by simp; omega) ?_
  intro k hk
  exact (hown.lt k hk).1

theorem cell_new1 (w : World) (x : Value) (e : Nat) : ∀ (j : Nat) (u : Value), [x][j]? = some u → (w.alloc (.cells #[x] e)).cell? ((⟨w.heap.size, 0, none⟩ : Addr).add j) = some u := by
  intro j u hj
  match j, hj with
  | 0, hj => simp at hj; subst hj; simp [Addr.add]

theorem own_below {w w' : World} {B e s n : Nat} {v : Value} {xs : List Value} (h : w.ownsRow B e s v n xs) (hb : Below w.heap.size w w') : w'.ownsRow B e s v n xs :=
  h.kept (row := none) ⟨hb.os, hb.tape, hb.output, hb.size, fun k hk _ => hb.block k hk⟩ (by cases v.ownBlock <;> simp)

theorem own_base {w : World} {B B' e s n : Nat} {v : Value} {xs : List Value} (h : w.ownsRow B e s v n xs) (hb : B' ≤ B) : w.ownsRow B' e s v n xs := by
  refine ⟨h.1, ?_⟩
  rcases h.2 with hn | ⟨g, cap, cur, hv, hbg, rest⟩
  · exact .inl hn
  · exact .inr ⟨g, cap, cur, hv, Nat.le_trans hb hbg, rest⟩
end Go.Proofs.YtddabafaejahbaaGreatDoor
