import Derived.Test.YtddabafaejahbaaGreatDoorJMath
import Derived.Test.YtddabafaejahbaaGreatDoorRows
import Derived.WalkSpells
import Derived.WalkLawsBesides
import Derived.RegionTactic
import Derived.BigRegion
import Derived.BigQuiet
import Derived.Deep.QuietTactic
import Derived.WalkKit
import Derived.Laws.OwnMore
import Derived.Deep.AppendLies
import Derived.Deep.WholeRow
import Derived.Deep.OwnRows
import Derived.OpenShut
/- spec.ReadTTL by its contract. -/
namespace Go.Proofs.YtddabafaejahbaaGreatDoor
open Go.RowKit
/-- The parts of a time, from byte i on: where the last one ended, and the sum. -/
def ttlF (s : ByteArray) : Nat → Nat → Nat → Int → Option (Nat × Int)
 | 0, _, a, m => some (a, m)
 | f + 1, i, a, m => if h : i < s.size then
     (if Nm.digB s[i] = true then ttlF s f (i + 1) a m
     else match numO (s.extract a i) 10 with
      | none => none
      | some k => if unitS s[i] = 0 then none else ttlF s f (i + 1) (i + 1) (m + (k : Int) * unitS s[i]))
   else some (a, m)
def ttlE (s : ByteArray) : Option (Nat × Int) → Int × Int
 | none => (0, 18)
 | some (a, m) => if a ≠ s.size ∨ a = 0 ∨ 2147483647 < m then (0, 18) else (m, 0)
def ttlG (s : ByteArray) : Int × Int := ttlE s (ttlF s s.size 0 0 0)
def ttlS (s : ByteArray) : Int × Int :=
 if 60 < s.size then (0, 18) else match numO s 10 with
  | some n => if n ≤ 2147483647 then ((n : Int), 0) else ttlG s
  | none => ttlG s
theorem numO_lt {s : ByteArray} {k : Nat} (h : numO s 10 = some k) : k < 10000000000 := by
 by_cases hz : 1 ≤ s.size ∧ s.size ≤ 10
 · by_cases hd : ∀ j, (hj : j < s.size) → Nm.digB s[j] = true
   · rw [numO_good hz.1 hz.2 hd] at h; have h1 := numD_take (s := s) (Nat.le_refl _) (fun j _ hj => hd j hj); rw [List.take_of_length_le (by simp)] at h1; have h2 : 10 ^ s.size ≤ 10 ^ 10 := Nat.pow_le_pow_right (by decide) hz.2; have h3 : (10 : Nat) ^ 10 = 10000000000 := by decide
     simp at h; omega
   · have : ∃ j, ∃ hj : j < s.size, Nm.digB s[j] = false := by
      apply Classical.byContradiction; intro hn; apply hd; intro j hj
      cases hb : Nm.digB s[j] with
      | true => rfl
      | false => exact absurd ⟨j, hj, hb⟩ hn
     obtain ⟨j, hj, hb⟩ := this; rw [numO_bad hj hb] at h; cases h
 · rw [numO_len hz] at h; cases h
theorem unitS_bound (c : UInt8) : 0 ≤ unitS c ∧ unitS c ≤ 604800 := by
 unfold unitS
 repeat' split
 all_goals omega
/-- Where the walk stands. -/
def LAt (s : ByteArray) (i a : Nat) (m : Int) : Prop := ttlG s = ttlE s (ttlF s (s.size - i) i a m)
theorem lat_start (s : ByteArray) : LAt s 0 0 0 := by simp [LAt, ttlG]
theorem lat_end {s : ByteArray} {i a : Nat} {m : Int} (h : LAt s i a m) (hi : s.size ≤ i) : ttlG s = ttlE s (some (a, m)) := by
 rw [LAt, Nat.sub_eq_zero_of_le hi] at h; exact h
theorem lat_dig {s : ByteArray} {i a : Nat} {m : Int} (h : LAt s i a m) (hi : i < s.size) (hd : Nm.digB s[i] = true) : LAt s (i + 1) a m := by
 rw [LAt] at h ⊢; rw [h, show s.size - i = s.size - (i + 1) + 1 by omega, ttlF, dif_pos hi, if_pos hd]
theorem lat_none {s : ByteArray} {i a : Nat} {m : Int} (h : LAt s i a m) (hi : i < s.size) (hd : Nm.digB s[i] = false) (hn : numO (s.extract a i) 10 = none) : ttlG s = (0, 18) := by
 rw [LAt] at h; rw [h, show s.size - i = s.size - (i + 1) + 1 by omega, ttlF, dif_pos hi, if_neg (by simp [hd]), hn]; rfl
theorem lat_unit {s : ByteArray} {i a k : Nat} {m : Int} (h : LAt s i a m) (hi : i < s.size) (hd : Nm.digB s[i] = false) (hn : numO (s.extract a i) 10 = some k) (hu : unitS s[i] = 0) : ttlG s = (0, 18) := by
 rw [LAt] at h; rw [h, show s.size - i = s.size - (i + 1) + 1 by omega, ttlF, dif_pos hi, if_neg (by simp [hd]), hn]; simp only [hu, if_true]; rfl
theorem lat_part {s : ByteArray} {i a k : Nat} {m : Int} (h : LAt s i a m) (hi : i < s.size) (hd : Nm.digB s[i] = false) (hn : numO (s.extract a i) 10 = some k) (hu : unitS s[i] ≠ 0) : LAt s (i + 1) (i + 1) (m + (k : Int) * unitS s[i]) := by
 rw [LAt] at h ⊢; rw [h, show s.size - i = s.size - (i + 1) + 1 by omega, ttlF, dif_pos hi, if_neg (by simp [hd]), hn]; simp only [hu, if_false]
def ttlV (p : Int × Int) : Value := .tuple #[.int .i64 p.1, .int .i64 p.2]
set_option maxRecDepth 100000 in
set_option maxHeartbeats 3000000 in
theorem specReadTTL_any (s : ByteArray) (w : World) :
 Calls Tryz.prog 46 #[.string s] w fun e w' => e = .returned (ttlV (ttlS s)) ∧ w' = w := by
 obtain ⟨R, HR⟩ : ∃ R, Hid (R = ttlV (ttlS s)) := ⟨_, rfl⟩; rw [← HR.out]
 by_cases h60 : 60 < s.size
 · have HN : Hid (R = .tuple #[.int .i64 0, .int .i64 18]) := by show _ = _; rw [HR.out, ttlS, if_pos h60]; rfl
   have h1' : (60 : Int) < (s.size : Int) := by omega
   go_enter Tryz.func46, Tryz.ntmps46; go_wp2; go_ret2; rw [HN.out]; exact ⟨rfl, rfl⟩
 have h60' : (s.size : Int) ≤ 60 := by omega
 have hnum := fun W => l03Number_any s 10 W (by decide)
 by_cases hq : ∃ n, numO s 10 = some n ∧ n ≤ 2147483647
 · obtain ⟨n, hn, hle⟩ := hq; have HN : Hid (R = .tuple #[.int .i64 n, .int .i64 0]) := by show _ = _; rw [HR.out, ttlS, if_neg h60, hn]; simp only [hle, if_true]; rfl
   rw [hn] at hnum; have hle' : (n : Int) ≤ 2147483647 := by omega
   simp only [numV, Option.getD_some, Option.isSome_some] at hnum; clear hn h60; go_enter Tryz.func46, Tryz.ntmps46; go_wp2_with (go_at_call 37; refine (hnum _).mono ?_; rintro e w1 ⟨rfl, hw⟩; obtain rfl : w = w1 := hw.symm; clear hw)
   go_ret2; rw [HN.out]; exact ⟨rfl, rfl⟩
 obtain ⟨x, b, hxb, hnum⟩ : ∃ (x : Nat) (b : Bool), (b && decide ((x : Int) ≤ 2147483647)) = false ∧ ∀ W, Calls Tryz.prog 37 #[.string s, .int .i64 10] W fun e w' => e = .returned (.tuple #[.int .i64 (x : Int), .bool b]) ∧ w' = W := by
  cases hn : numO s 10 with
  | none => rw [hn] at hnum; exact ⟨0, false, rfl, hnum⟩
  | some n =>
    rw [hn] at hnum; refine ⟨n, true, ?_, hnum⟩; have : ¬ n ≤ 2147483647 := fun h => hq ⟨n, hn, h⟩
    simp; omega
 have HS : Hid (R = ttlV (ttlG s)) := by
  show _ = _
  rw [HR.out, ttlS, if_neg h60]
  cases hn : numO s 10 with
  | none => rfl
  | some n => simp only; rw [if_neg (fun h => hq ⟨n, hn, h⟩)]
 have hst := lat_start s; clear hq
 have hmid : ∀ (b' : Bool) (x' : Nat), b' = b → x' = x → (b' = false ∨ (b' = true ∧ (2147483647 : Int) < x')) := by
  intro b' x' e1 e2; subst e1; subst e2
  cases b' with
  | false => exact Or.inl rfl
  | true => right; simp at hxb; exact ⟨rfl, by omega⟩
 have hmid := hmid b x rfl rfl; clear hxb
 rcases hmid with rfl | ⟨rfl, hxx⟩
 all_goals
  go_enter Tryz.func46, Tryz.ntmps46; go_wp2_with (go_at_call 37; refine (hnum _).mono ?_; rintro e w1 ⟨rfl, hw⟩; obtain rfl : w = w1 := hw.symm; clear hw)
  go_loop [6, 7, 8] (fun t u v => ∃ (i a : Nat) (m : Int), i ≤ s.size ∧ a ≤ i ∧ 0 ≤ m ∧ m ≤ (i : Int) * 6048000000000000 ∧ v = .int .i64 i ∧ u = .int .i64 a ∧ t = .int .i64 m ∧ Hid (LAt s i a m)) (fun _ _ v => s.size - (intOf v).toNat)
  case atStart => exact ⟨0, 0, 0, Nat.zero_le _, Nat.le_refl _, Int.le_refl _, by decide, rfl, rfl, rfl, hst⟩
  case round =>
   obtain ⟨i, a, m, hk, ha, hm0, hm1, rfl, rfl, rfl, HA⟩ := hrel; clear hst hnum
   by_cases hlt : i < s.size
   · have hlt' : (i : Int) < (s.size : Int) := by omega
     have ha' : (a : Int) ≤ (i : Int) := by omega
     have hdig := l01Digit_any s[i]; have hun := l03Unit_any s[i]; have hno := fun W => l03Number_any (s.extract a i) 10 W (by decide)
     cases hD : Nm.digB s[i] with
     | true =>
       have HN := Nm.hide (lat_dig HA.out hlt hD); rw [hD] at hdig; clear hD HA hun hno; go_wp2_with (go_at_call 79; refine (hdig _).mono ?_; rintro e w1 ⟨rfl, hw⟩; obtain rfl : w = w1 := hw.symm; clear hw)
       go_round
       case rel => exact ⟨i + 1, a, m, by omega, by omega, hm0, by omega, by go_num, rfl, rfl, HN⟩
       case measure => simp [intOf]; omega
     | false =>
       rw [hD] at hdig
       cases hn : numO (s.extract a i) 10 with
       | none =>
         have HN : Hid (R = ttlV (0, 18)) := by show _ = _; rw [HS.out, lat_none HA.out hlt hD hn]
         rw [hn] at hno; simp only [numV, Option.getD_none, Option.isSome_none] at hno; clear hD hn HA hun; go_wp2_with (first | (go_at_call 79; refine (hdig _).mono ?_; rintro e w1 ⟨rfl, hw⟩; obtain rfl : w = w1 := hw.symm; clear hw) | (go_at_call 37; refine (hno _).mono ?_; rintro e w1 ⟨rfl, hw⟩; obtain rfl : w = w1 := hw.symm; clear hw))
         go_ret2; rw [HN.out]
         exact ⟨rfl, rfl⟩
       | some k =>
         have hkl := numO_lt hn; rw [hn] at hno; simp only [numV, Option.getD_some, Option.isSome_some] at hno
         by_cases hu : unitS s[i] = 0
         · have HN : Hid (R = ttlV (0, 18)) := by show _ = _; rw [HS.out, lat_unit HA.out hlt hD hn hu]
           rw [hu] at hun; clear hD hn HA hu; go_wp2_with (first | (go_at_call 79; refine (hdig _).mono ?_; rintro e w1 ⟨rfl, hw⟩; obtain rfl : w = w1 := hw.symm; clear hw) | (go_at_call 37; refine (hno _).mono ?_; rintro e w1 ⟨rfl, hw⟩; obtain rfl : w = w1 := hw.symm; clear hw) | (go_at_call 87; refine (hun _).mono ?_; rintro e w1 ⟨rfl, hw⟩; obtain rfl : w = w1 := hw.symm; clear hw))
           go_ret2; rw [HN.out]; exact ⟨rfl, rfl⟩
         · have HN := Nm.hide (lat_part HA.out hlt hD hn hu); obtain ⟨hu0, hu1⟩ := unitS_bound s[i]; have hub : (unitS s[i] == 0) = false := by rw [beq_eq_false_iff_ne]; exact hu
           have hp0 : 0 ≤ (k : Int) * unitS s[i] := Int.mul_nonneg (by omega) hu0
           have hp1 : (k : Int) * unitS s[i] ≤ 6048000000000000 := by
            have h1 : (k : Int) * unitS s[i] ≤ (k : Int) * 604800 := Int.mul_le_mul_of_nonneg_left hu1 (by omega); omega
           clear hD hn HA hu; generalize unitS s[i] = q at *; have hw1 : IntKind.i64.wrap ((k : Int) * q) = (k : Int) * q := Go.wrap_small _ (by omega) (by omega); go_wp2_with (first | (go_at_call 79; refine (hdig _).mono ?_; rintro e w1 ⟨rfl, hw⟩; obtain rfl : w = w1 := hw.symm; clear hw) | (go_at_call 37; refine (hno _).mono ?_; rintro e w1 ⟨rfl, hw⟩; obtain rfl : w = w1 := hw.symm; clear hw) | (go_at_call 87; refine (hun _).mono ?_; rintro e w1 ⟨rfl, hw⟩; obtain rfl : w = w1 := hw.symm; clear hw))
           go_round
           case rel => exact ⟨i + 1, i + 1, m + (k : Int) * q, by omega, by omega, by omega, by omega, by go_num, by go_num, by go_num, HN⟩
           case measure => simp [intOf]; omega
   · have hlt' : (s.size : Int) ≤ (i : Int) := by omega
     have HE := Nm.hide (lat_end HA.out (by omega))
     have Hse := Nm.hide (show s.size = 0 → s = ByteArray.empty from fun h => by
      rcases s with ⟨⟨l⟩⟩
      cases l with
      | nil => rfl
      | cons x y => exact absurd h (by simp [ByteArray.size]))
     have Hes := Nm.hide (show s = ByteArray.empty → s.size = 0 from fun h => by rw [h]; rfl)
     have HX : Hid (((a ≠ s.size ∨ a = 0 ∨ 2147483647 < m) ∧ R = ttlV (0, 18)) ∨ ((a = s.size ∧ a ≠ 0 ∧ m ≤ 2147483647) ∧ R = ttlV (m, 0))) := by
      show _ ∨ _
      by_cases g : a ≠ s.size ∨ a = 0 ∨ 2147483647 < m
      · left; refine ⟨g, ?_⟩; rw [HS.out, HE.out, ttlE, if_pos g]
      · right; refine ⟨by omega, ?_⟩; rw [HS.out, HE.out, ttlE, if_neg g]
     clear HE HA; go_wp2
     all_goals
      rename_i h3 h2 h1 h0
      rcases HX.out with ⟨g, HN⟩ | ⟨g, HN⟩
     all_goals first
      | (go_ret2; rw [HN]; exact ⟨rfl, rfl⟩)
      | (exfalso
         by_cases e : s.size = 0
         · have e2 := Hse.out e
           first | contradiction | omega
         · have e2 : ¬ s = ByteArray.empty := fun h => e (Hes.out h)
           have e3 : ((s.size : Int) == 0) = false := by rw [beq_eq_false_iff_ne]; omega
           first | contradiction | omega | (simp only [e3, Bool.false_eq_true, false_or] at h1; omega))
end Go.Proofs.YtddabafaejahbaaGreatDoor
/- Escapes: what is shared. -/
namespace Go.Proofs.YtddabafaejahbaaGreatDoor
open Go.RowKit
def escB : Option (UInt8 × Nat) → Int
 | none => 0
 | some (b, _) => b.toNat
def escN : Option (UInt8 × Nat) → Int
 | none => 0
 | some (_, n) => n
def escM : Option (UInt8 × Nat) → Int
 | none => 0
 | some (_, n) => ((n + 1 : Nat) : Int)
def escO : Option (UInt8 × Nat) → Bool
 | none => false
 | some _ => true
theorem dig_bounds {c : UInt8} (h : Nm.digB c = true) : 48 ≤ c.toNat ∧ c.toNat ≤ 57 := by
 simp [Nm.digB] at h
 omega
theorem drop_three {t : ByteArray} {k : Nat} (h : k + 3 ≤ t.size) : t.data.toList.drop k = t[k] :: t[k + 1] :: t[k + 2] :: t.data.toList.drop (k + 3) := by
 rw [Nm.drop_at (by omega : k < t.size), Nm.drop_at (by omega : k + 1 < t.size), Nm.drop_at (by omega : k + 1 + 1 < t.size)]
end Go.Proofs.YtddabafaejahbaaGreatDoor
/- spec.l01Digit, spec.l01Escape by their contracts. -/
namespace Go.Proofs.YtddabafaejahbaaGreatDoor
open Go.RowKit
set_option maxRecDepth 100000 in
set_option maxHeartbeats 800000 in
theorem l01Escape_any (t : ByteArray) (r : Option (UInt8 × Nat)) (w : World) (hr : Hid (Nm.escF t.data.toList = r)) (hs : t.size ≤ 1000000000) :
 Calls Tryz.prog 88 #[.string t] w fun e w' => e = .returned (.tuple #[.int .u8 (escB r), .int .i64 (escN r)]) ∧ ∃ m, w' = w.drewN m := by
 by_cases h1 : t.size = 0
 · have HE : r = none := by
    rw [← hr.out, List.length_eq_zero_iff.1 (show t.data.toList.length = 0 by simpa using h1)]; rfl
   have he := Nm.tl_empty h1; subst HE; go_enter Tryz.func88, Tryz.ntmps88; go_wp2; go_ret2; exact ⟨rfl, 0, rfl⟩
 · have hp1 : 0 < t.size := by omega
   have he := Nm.tl_not_empty hp1
   cases hd : Nm.digB t[0] with
   | false =>
     have HE : r = some (t[0], 1) := by
      rw [← hr.out, ← List.drop_zero (l := t.data.toList), Nm.drop_at hp1]; exact Nm.esc_byte _ hd
     subst HE; go_enter Tryz.func88, Tryz.ntmps88; go_wp2_with (go_at_call 79; refine (l01Digit_any _ _).mono ?_; rintro e w1 ⟨rfl, rfl⟩)
     go_ret2
     exact ⟨rfl, 0, rfl⟩
   | true =>
     by_cases h4 : t.size < 3
     · have HE : r = none := by
        rw [← hr.out, ← List.drop_zero (l := t.data.toList), Nm.drop_at hp1]; exact Nm.esc_short hd (by simp; omega)
       have h4' : decide ((t.size : Int) < 3) = true := by simp; omega
       subst HE; go_enter Tryz.func88, Tryz.ntmps88; go_wp2_with (go_at_call 79; refine (l01Digit_any _ _).mono ?_; rintro e w1 ⟨rfl, rfl⟩)
       go_ret2; exact ⟨rfl, 0, rfl⟩
     · have h4' : decide ((t.size : Int) < 3) = false := by simp; omega
       have hp2 : 1 < t.size := by omega
       have hp3 : 2 < t.size := by omega
       have hthree : Nm.escF t.data.toList = if Nm.digB t[1] = true ∧ Nm.digB t[2] = true then (if Nm.num3 t[0] t[1] t[2] ≤ 255 then some (UInt8.ofNat (Nm.num3 t[0] t[1] t[2]), 3) else none) else none := by
        rw [← List.drop_zero (l := t.data.toList), drop_three (by omega : 0 + 3 ≤ t.size)]; exact Nm.esc_three hd
       cases hd2 : Nm.digB t[1] with
       | false =>
         have HE : r = none := by rw [← hr.out, hthree, if_neg (by simp [hd2])]
         clear hthree; subst HE; go_enter Tryz.func88, Tryz.ntmps88; go_wp2_with (go_at_call 79; refine (l01Digit_any _ _).mono ?_; rintro e w1 ⟨rfl, rfl⟩)
         go_ret2
         exact ⟨rfl, 0, rfl⟩
       | true =>
         cases hd3 : Nm.digB t[2] with
         | false =>
           have HE : r = none := by rw [← hr.out, hthree, if_neg (by simp [hd3])]
           clear hthree; subst HE; go_enter Tryz.func88, Tryz.ntmps88; go_wp2_with (go_at_call 79; refine (l01Digit_any _ _).mono ?_; rintro e w1 ⟨rfl, rfl⟩)
           go_ret2
           exact ⟨rfl, 0, rfl⟩
         | true =>
           have b1 := dig_bounds hd; have b2 := dig_bounds hd2; have b3 := dig_bounds hd3; have i1 : (0 : Int) < (t.size : Int) := by omega
           have i2 : (1 : Int) < (t.size : Int) := by omega
           have i3 : (2 : Int) < (t.size : Int) := by omega
           rw [if_pos ⟨hd2, hd3⟩] at hthree
           have HN : Hid (((t[0].toNat : Int) - (48 : Int)) * (100 : Int) + ((t[1].toNat : Int) - (48 : Int)) * (10 : Int) + ((t[2].toNat : Int) - (48 : Int)) = (Nm.num3 t[0] t[1] t[2] : Int)) := by
            show _ = _
            unfold Nm.num3; omega
           by_cases hN : Nm.num3 t[0] t[1] t[2] ≤ 255
           · have HE : r = some (UInt8.ofNat (Nm.num3 t[0] t[1] t[2]), 3) := by rw [← hr.out, hthree, if_pos hN]
             have hle : ((t[0].toNat : Int) - (48 : Int)) * (100 : Int) + ((t[1].toNat : Int) - (48 : Int)) * (10 : Int) + ((t[2].toNat : Int) - (48 : Int)) ≤ (255 : Int) := by have := HN.out; omega
             have HV : Hid (((UInt8.ofNat (Nm.num3 t[0] t[1] t[2])).toNat : Int) = ((t[0].toNat : Int) - (48 : Int)) * (100 : Int) + ((t[1].toNat : Int) - (48 : Int)) * (10 : Int) + ((t[2].toNat : Int) - (48 : Int))) := by
              show _ = _
              have h1 := HN.out; have h2 : (UInt8.ofNat (Nm.num3 t[0] t[1] t[2])).toNat = Nm.num3 t[0] t[1] t[2] := by simp; omega
              rw [h2]; omega
             clear hthree hN; subst HE; go_enter Tryz.func88, Tryz.ntmps88; go_wp2_with (go_at_call 79; refine (l01Digit_any _ _).mono ?_; rintro e w1 ⟨rfl, rfl⟩)
             go_region
             go_wp2; go_ret2; simp only [escB, HV.out]; exact ⟨rfl, 1, rfl⟩
           · have HE : r = none := by rw [← hr.out, hthree, if_neg hN]
             have hgt : (255 : Int) < ((t[0].toNat : Int) - (48 : Int)) * (100 : Int) + ((t[1].toNat : Int) - (48 : Int)) * (10 : Int) + ((t[2].toNat : Int) - (48 : Int)) := by have := HN.out; omega
             clear hthree hN; subst HE; go_enter Tryz.func88, Tryz.ntmps88; go_wp2_with (go_at_call 79; refine (l01Digit_any _ _).mono ?_; rintro e w1 ⟨rfl, rfl⟩)
             go_region
             go_wp2; go_ret2; exact ⟨rfl, 1, rfl⟩
end Go.Proofs.YtddabafaejahbaaGreatDoor
/- A row of strings of the call's own. -/
namespace Go.Proofs.YtddabafaejahbaaGreatDoor
open Go.RowKit
theorem Tryz.infoStr : (Tryz.prog.info? 9).map (fun i => (i.zero, i.size, i.bytes)) = some (some (.string ByteArray.empty), 1, 16) := by kernel_rfl
theorem own_step {W wr w1 : World} {v v' : Value} {B e : Nat} {ls : List ByteArray} {x : ByteArray} (hB : B ≤ wr.heap.size)
 (hown : wr.ownsRow B e 1 v ls.length (ls.map Value.string)) (hbel : Below B W wr) (o : Obj)
 (hown' : w1.ownsRow B e 1 v' (ls.length + 1) (ls.map Value.string ++ [.string x])) (hgrow : (wr.alloc o).grownBy w1 v.ownBlock) :
 w1.ownsRow B e 1 v' (ls ++ [x]).length ((ls ++ [x]).map Value.string) ∧ Below B W w1 := by
 refine ⟨by simpa using hown', ?_⟩; refine (hbel.alloc hB o).grown hgrow (by simp; omega) ?_; intro k hk; exact (hown.lt k hk).1
theorem cell_new1 (w : World) (x : Value) (e : Nat) : ∀ (j : Nat) (u : Value), [x][j]? = some u → (w.alloc (.cells #[x] e)).cell? ((⟨w.heap.size, 0, none⟩ : Addr).add j) = some u := by
 intro j u hj
 match j, hj with
 | 0, hj => simp at hj; subst hj; simp [Addr.add]
theorem own_below {w w' : World} {B e s n : Nat} {v : Value} {xs : List Value} (h : w.ownsRow B e s v n xs) (hb : Below w.heap.size w w') : w'.ownsRow B e s v n xs :=
 h.kept (row := none) ⟨hb.os, hb.tape, hb.output, hb.size, fun k hk _ => hb.block k hk⟩ (by cases v.ownBlock <;> simp)
theorem own_base {w : World} {B B' e s n : Nat} {v : Value} {xs : List Value} (h : w.ownsRow B e s v n xs) (hb : B' ≤ B) : w.ownsRow B' e s v n xs := by
 refine ⟨h.1, ?_⟩
 rcases h.2 with hn | ⟨g, cap, cur, hv, hbg, rest⟩
 · exact .inl hn
 · exact .inr ⟨g, cap, cur, hv, Nat.le_trans hb hbg, rest⟩
end Go.Proofs.YtddabafaejahbaaGreatDoor
/- One byte behind a row of bytes of the call's own. -/
namespace Go.Proofs.YtddabafaejahbaaGreatDoor
open Go.RowKit
theorem Tryz.infoU8x : (Tryz.prog.info? 5).map (fun i => (i.zero, i.size, i.bytes)) = some (some (.int .u8 0), 1, 1) := by kernel_rfl
/-- What one append of a byte onto a row of the call's own leaves. -/
theorem one_step {W wr w1 : World} {v v' : Value} {B n : Nat} {l : List UInt8} {c : UInt8} (hB : B ≤ wr.heap.size)
 (hown : wr.ownsRow B 5 1 v n (Nm.bys l)) (hbel : Below B W wr) (o : Obj)
 (hown' : w1.ownsRow B 5 1 v' (n + 1) (Nm.bys l ++ [.int .u8 (c.toNat : Int)])) (hgrow : (wr.alloc o).grownBy w1 v.ownBlock) :
 ∃ X, Hid (X = l ++ [c]) ∧ w1.ownsRow B 5 1 v' (n + 1) (Nm.bys X) ∧ Below B W w1 ∧ B ≤ w1.heap.size := by
 have hb : Below B W w1 := by
  refine (hbel.alloc hB o).grown hgrow (by simp; omega) ?_; intro k hk; exact (hown.lt k hk).1
 refine ⟨l ++ [c], rfl, by rw [Nm.bys_append]; exact hown', hb, ?_⟩; have := hgrow.size; simp at this; omega
end Go.Proofs.YtddabafaejahbaaGreatDoor
/- spec.ReadText by its contract. -/
namespace Go.Proofs.YtddabafaejahbaaGreatDoor
open Go.RowKit
/-- A text with its escapes taken; none: an escape is none. -/
def rtF : Nat → List UInt8 → Option (List UInt8)
 | 0, _ => some []
 | _ + 1, [] => some []
 | f + 1, c :: r => if c.toNat = 92 then (match Nm.escF r with
     | none => none
     | some (b, n) => (rtF f (r.drop n)).map (fun t => b :: t))
   else (rtF f r).map (fun t => c :: t)
theorem rtF_enough : ∀ (f g : Nat) (l : List UInt8), l.length < f → l.length < g → rtF f l = rtF g l := by
 intro f
 induction f with
 | zero => intro g l h; omega
 | succ f ih =>
   intro g l hf hg
   cases g with
   | zero => omega
   | succ g =>
     cases l with
     | nil => rfl
     | cons c r =>
       simp only [List.length_cons] at hf hg; rw [rtF, rtF]
       by_cases hc : c.toNat = 92
       · rw [if_pos hc, if_pos hc]
         cases he : Nm.escF r with
         | none => rfl
         | some p =>
           obtain ⟨b, n⟩ := p; simp only
           rw [ih g (r.drop n) (by simp; omega) (by simp; omega)]
       · rw [if_neg hc, if_neg hc, ih g r (by omega) (by omega)]
def readTextL (l : List UInt8) : Option (List UInt8) := rtF (l.length + 1) l
def readTextR (s : ByteArray) : ByteArray × Int :=
 match readTextL s.data.toList with
 | none => (⟨#[]⟩, 4)
 | some l => (⟨l.toArray⟩, 0)
/-- Where the reading stands. -/
def RAt (s : ByteArray) (o : List UInt8) (i : Nat) : Prop := readTextL s.data.toList = (readTextL (s.data.toList.drop i)).map (fun t => o ++ t)
theorem rat_start (s : ByteArray) : RAt s [] 0 := by simp [RAt]
theorem rat_end {s : ByteArray} {o : List UInt8} {i : Nat} (h : RAt s o i) (hi : s.size ≤ i) : readTextR s = (⟨o.toArray⟩, 0) := by
 have e : s.data.toList.drop i = [] := List.drop_eq_nil_of_le (by simpa using hi); rw [RAt, e] at h; rw [readTextR, h]; simp [readTextL, rtF]
theorem rat_drop {s : ByteArray} {i : Nat} (h : i < s.size) : s.data.toList.drop i = s[i] :: s.data.toList.drop (i + 1) := by
 rw [List.drop_eq_getElem_cons (by simpa using h)]; rfl
theorem rat_own {s : ByteArray} {o : List UInt8} {i : Nat} (h : RAt s o i) (hi : i < s.size) (hc : s[i].toNat ≠ 92) : RAt s (o ++ [s[i]]) (i + 1) := by
 rw [RAt] at h ⊢; rw [h, rat_drop hi, readTextL, List.length_cons, rtF, if_neg hc, Option.map_map]; have e : rtF ((s.data.toList.drop (i + 1)).length + 1) (s.data.toList.drop (i + 1)) = readTextL (s.data.toList.drop (i + 1)) := rfl; rw [e]; congr 1; funext t; simp
theorem rat_bad {s : ByteArray} {o : List UInt8} {i : Nat} (h : RAt s o i) (hi : i < s.size) (hc : s[i].toNat = 92) (he : Nm.escF (s.data.toList.drop (i + 1)) = none) : readTextR s = (⟨#[]⟩, 4) := by
 have e : readTextL (s.data.toList.drop i) = none := by rw [rat_drop hi, readTextL, List.length_cons, rtF, if_pos hc, he]
 rw [RAt, e] at h; rw [readTextR, h]; rfl
theorem rat_esc {s : ByteArray} {o : List UInt8} {i n : Nat} {b : UInt8} (h : RAt s o i) (hi : i < s.size) (hc : s[i].toNat = 92) (he : Nm.escF (s.data.toList.drop (i + 1)) = some (b, n)) : RAt s (o ++ [b]) (i + n + 1) := by
 rw [RAt] at h ⊢; rw [h, rat_drop hi]; have hz := (Nm.esc_len he).1; rw [readTextL, List.length_cons, rtF, if_pos hc, he]; simp only
 rw [Option.map_map, List.drop_drop]
 have e : rtF ((s.data.toList.drop (i + 1)).length + 1) (s.data.toList.drop (i + 1 + n)) = readTextL (s.data.toList.drop (i + n + 1)) := by
  rw [show i + 1 + n = i + n + 1 by omega, readTextL]; exact rtF_enough _ _ _ (by simp; omega) (by omega)
 rw [e]; congr 1; funext t; simp
theorem ext_tail {s : ByteArray} {i : Nat} : (s.extract i s.size).data.toList = s.data.toList.drop i := by
 simp only [ByteArray.data_extract, Array.toList_extract]; rw [List.extract_eq_take_drop, List.take_of_length_le (by simp)]
set_option maxRecDepth 100000 in
set_option maxHeartbeats 4000000 in
theorem specReadText_any (s : ByteArray) (w : World) (hs : s.size ≤ 1000000000) :
 Calls Tryz.prog 48 #[.string s] w fun e w' => e = .returned (.tuple #[.string (readTextR s).1, .int .i64 (readTextR s).2]) ∧ Below w.heap.size w w' := by
 obtain ⟨i0, hi, hz0, hz1, hz2⟩ := info_parts Tryz.infoU8x; have hst := rat_start s; go_enter Tryz.func48, Tryz.ntmps48; go_wp2
 go_loopw [4, 5] (fun v u wr => ∃ (i n : Nat) (l : List UInt8), i ≤ s.size ∧ u = .int .i64 i ∧ n ≤ i ∧ Hid (l.length = n) ∧ Hid (RAt s l i) ∧ wr.ownsRow w.heap.size 5 1 v n (Nm.bys l) ∧ Below w.heap.size w wr)
  (fun _ u _ => s.size - (intOf u).toNat)
 case atStart => exact ⟨0, 0, [], Nat.zero_le _, rfl, Nat.le_refl _, rfl, hst, World.ownsRow_made w #[] 0 (Nat.le_refl _) (by decide) rfl, (Below.refl _ _).alloc (Nat.le_refl _) _⟩
 case round =>
  obtain ⟨i, n, l, hk, rfl, hn, HL, HA, hown, hbel⟩ := hrel; clear hst; have hsz := hbel.size
  by_cases hlt : i < s.size
  · have hlt' : (i : Int) < (s.size : Int) := by omega
    have hc : (s[i].toNat : Int) < 256 := by have := s[i].toNat_lt; omega
    by_cases h92 : s[i].toNat = 92
    · have q1 : ((s[i].toNat : Int) == 92) = true := by rw [beq_iff_eq]; omega
      have hle' : (i : Int) + 1 ≤ (s.size : Int) := by omega
      have hle : i + 1 ≤ s.size := by omega
      have htl : (s.extract (i + 1) s.size).data.toList = s.data.toList.drop (i + 1) := ext_tail
      cases he : Nm.escF (s.data.toList.drop (i + 1)) with
      | none =>
        have HR := Nm.hide (rat_bad HA.out hlt h92 he); have hes := fun W => l01Escape_any (s.extract (i + 1) s.size) none W (by show _ = _; rw [htl, he]) (by simp; omega)
        clear h92 he htl HA; go_wp2_with (go_at_call 88; refine (hes _).mono ?_; rintro e w3 ⟨rfl, m, hw3⟩; have HB : Hid (Below w.heap.size w w3) := (by show Below _ _ _; rw [hw3]; exact Go.below_drewN hbel m); clear hw3)
        go_ret2; rw [HR.out]
        exact ⟨rfl, HB.out⟩
      | some p =>
        obtain ⟨b, q⟩ := p; have hq := Nm.esc_len he; have hql : (s.data.toList.drop (i + 1)).length = s.size - (i + 1) := by simp
        have HN := Nm.hide (rat_esc HA.out hlt h92 he); have hes := fun W => l01Escape_any (s.extract (i + 1) s.size) (some (b, q)) W (by show _ = _; rw [htl, he]) (by simp; omega)
        simp only [escB, escN] at hes; have hq0 : ((q : Int) == 0) = false := by rw [beq_eq_false_iff_ne]; omega
        have hq1 : i + q + 1 ≤ s.size := by omega
        have hbb : (b.toNat : Int) < 256 := by have := b.toNat_lt; omega
        have HL2 : Hid ((l ++ [b]).length = n + 1) := by show _ = _; rw [List.length_append, HL.out]; rfl
        clear h92 he htl HA HL hql; go_wp2_with (first | (go_at_call 88; refine (hes _).mono ?_; rintro e w3 ⟨rfl, m, hw3⟩; have hb3 : Below wr.heap.size wr w3 := (by rw [hw3]; exact Go.below_drewN (Below.refl _ _) m); have hown3 := own_below hown hb3; have hbel3 := Nm.below_two hbel hb3; have hsz3 := hbel3.size; clear hw3 hb3) | (at_builtin; refine wpList_append_own _ rfl (.tmp 35) (.tmp 37) 87 rfl w.heap.size 5 i0 (.int .u8 0) 1 1 Tryz.underlying87 hi hz0 hz1 hz2 rfl (by decide) _ _ _ rfl (hown3.alloc _) ⟨w3.heap.size, 0, none⟩ 1 1 [.int .u8 (b.toNat : Int)] rfl rfl (cell_new1 _ _ _) (Nm.one_cell _ rfl) (by unfold maxLen; omega) (by omega) (by simp; omega) ?_))
        intro v' w4 hown' hgrow _; obtain ⟨X, HX, o4, b4, z4⟩ := one_step (c := b) hsz3 hown3 hbel3 _ hown' hgrow; clear hown' hgrow hown3 hbel3 hown hbel; go_wp2; go_roundw
        case rel => exact ⟨i + q + 1, n + 1, X, hq1, by go_num, by omega, by show _ = _; rw [HX.out]; exact HL2.out, by show RAt _ _ _; rw [HX.out]; exact HN.out, o4, b4⟩
        case measure => simp [intOf]; omega
    · have q1 : ((s[i].toNat : Int) == 92) = false := by rw [beq_eq_false_iff_ne]; omega
      have HN := Nm.hide (rat_own HA.out hlt h92); have HL2 : Hid ((l ++ [s[i]]).length = n + 1) := by show _ = _; rw [List.length_append, HL.out]; rfl
      clear h92 HA HL; go_wp2_with (at_builtin; refine wpList_append_own _ rfl (.tmp 35) (.tmp 37) 87 rfl w.heap.size 5 i0 (.int .u8 0) 1 1 Tryz.underlying87 hi hz0 hz1 hz2 rfl (by decide) _ _ _ rfl (hown.alloc _) ⟨wr.heap.size, 0, none⟩ 1 1 [.int .u8 (s[i].toNat : Int)] rfl rfl (cell_new1 _ _ _) (Nm.one_cell _ rfl) (by unfold maxLen; omega) (by omega) (by simp; omega) ?_)
      intro v' w4 hown' hgrow _; obtain ⟨X, HX, o4, b4, z4⟩ := one_step (c := s[i]) hsz hown hbel _ hown' hgrow; clear hown' hgrow hown hbel; go_wp2; go_roundw
      case rel => exact ⟨i + 1, n + 1, X, by omega, by go_num, by omega, by show _ = _; rw [HX.out]; exact HL2.out, by show RAt _ _ _; rw [HX.out]; exact HN.out, o4, b4⟩
      case measure => simp [intOf]; omega
  · have hlt' : (s.size : Int) ≤ (i : Int) := by omega
    have HR := Nm.hide (rat_end HA.out (by omega))
    rcases Nat.eq_zero_or_pos n with hn0 | hnp
    · have hl0 : l = [] := List.length_eq_zero_iff.1 (by rw [HL.out]; exact hn0); subst hn0; subst hl0
      rcases hown.2 with ⟨rfl, _⟩ | ⟨g, cp, cur, rfl, _, _, _, _, _⟩
      · have hcv : (convert 87 9 (.slice none 0 0)).run Tryz.prog wr = .ok (.string ⟨#[]⟩) wr := by
         rw [run_convert_bytes_string _ 87 9 5 _ _ _ Tryz.underlying87 Tryz.underlying5 Tryz.underlying9]; rfl
        clear hown HA; go_wp2; go_ret2; rw [HR.out]; exact ⟨rfl, hbel⟩
      · have hcv : (convert 87 9 (.slice (some ⟨g, 0, none⟩) 0 cp)).run Tryz.prog wr = .ok (.string ⟨#[]⟩) wr := run_convert_bytes_back (P := Tryz.prog) wr 87 9 5 ⟨g, 0, none⟩ cp [] Tryz.underlying87 Tryz.underlying5 Tryz.underlying9 (by intro j hj; simp at hj); clear hown HA; go_wp2; go_ret2; rw [HR.out]; exact ⟨rfl, hbel⟩
    · obtain ⟨g, cp, rfl, hcv⟩ := Nm.conv_own (P := Tryz.prog) (src := 87) (dst := 9) Tryz.underlying87 Tryz.underlying5 Tryz.underlying9 hown hnp; obtain ⟨R, HRR, hcv⟩ : ∃ R, Hid (R = (⟨l.toArray⟩ : ByteArray)) ∧ (convert 87 9 (.slice (some ⟨g, 0, none⟩) n cp)).run Tryz.prog wr = .ok (.string R) wr := ⟨_, rfl, hcv⟩; clear hown HA; go_wp2; go_ret2; rw [HR.out, ← HRR.out]; exact ⟨rfl, hbel⟩
end Go.Proofs.YtddabafaejahbaaGreatDoor
/- Rows of cells that are read; marks. -/
namespace Go.Proofs.YtddabafaejahbaaGreatDoor
open Go.RowKit
/-- The cells 'cs' (n elements of s cells) lie where the slice 'v' leads. -/
def CRow (w : World) (v : Value) (n s : Nat) (cs : List Value) : Prop :=
 cs.length = n * s ∧ ∃ a cap, v = .slice a n cap ∧ n ≤ cap ∧ cap ≤ maxLen ∧
  (0 < n → ∃ b off, a = some ⟨b, off, none⟩ ∧ ∀ (i : Nat) (x : Value), cs[i]? = some x → w.cell? ⟨b, off + i, none⟩ = some x)
theorem CRow.of_owns {w : World} {B e s n : Nat} {v : Value} {cs : List Value} (h : w.ownsRow B e s v n cs) : CRow w v n s cs := by
 refine ⟨h.1, ?_⟩
 rcases h.2 with ⟨rfl, h0⟩ | ⟨g, cap, cur, rfl, hb, hg, hn, hm, hs, ht⟩
 · subst h0; exact ⟨none, 0, rfl, Nat.le_refl _, by decide, fun h => by omega⟩
 · refine ⟨_, cap, rfl, hn, hm, fun _ => ⟨g, 0, rfl, ?_⟩⟩; intro i x hx; have hi : i < n * s := by rw [← h.1]; exact (List.getElem?_eq_some_iff.1 hx).1
   rw [Nat.zero_add, h.cellAt i hi]; exact hx
theorem CRow.below {w w' : World} {v : Value} {n s : Nat} {cs : List Value} (h : CRow w v n s cs) (hb : Below w.heap.size w w') : CRow w' v n s cs := by
 obtain ⟨h0, a, cap, rfl, h1, h2, h3⟩ := h; refine ⟨h0, a, cap, rfl, h1, h2, fun hp => ?_⟩; obtain ⟨b, off, rfl, hc⟩ := h3 hp; refine ⟨b, off, rfl, fun i x hx => ?_⟩; have := hc i x hx; rw [hb.cell (World.block_lt_of_cell? w _ this)]; exact this
end Go.Proofs.YtddabafaejahbaaGreatDoor
/- Variables that lie in blocks of their own. -/
namespace Go.Proofs.YtddabafaejahbaaGreatDoor
open Go.RowKit
set_option linter.unusedVariables false
/-- A variable's cells lie in block b. -/
def Blk (w : World) (b : Nat) (cs : Array Value) (T : TypeId) : Prop := w.heap[b]? = some (.cells cs T (0, 0))
theorem blk_lt {w : World} {b : Nat} {cs : Array Value} {T : TypeId} (h : Blk w b cs T) : b < w.heap.size := (Array.getElem?_eq_some_iff.1 h).1
theorem blk_grown {w w1 : World} {b : Nat} {cs : Array Value} {T : TypeId} {row : Option Nat} (h : Blk w b cs T) (hg : w.grownBy w1 row) (hr : row ≠ some b) : Blk w1 b cs T := by
 unfold Blk; rw [hg.block b (blk_lt h) (fun e => hr e.symm)]; exact h
theorem blk_below {w w1 : World} {b : Nat} {cs : Array Value} {T : TypeId} (h : Blk w b cs T) (hb : Below w.heap.size w w1) : Blk w1 b cs T := by
 unfold Blk; rw [hb.block b (blk_lt h)]; exact h
theorem blk_new (w : World) (cs : Array Value) (T : TypeId) : Blk (w.alloc (.cells cs T)) w.heap.size cs T := by
 unfold Blk; show (w.heap.push _)[w.heap.size]? = _; simp
theorem blk_alloc {w : World} {b : Nat} {cs : Array Value} {T : TypeId} (h : Blk w b cs T) (o : Obj) : Blk (w.alloc o) b cs T :=
 blk_below h ((Below.refl _ _).alloc (Nat.le_refl _) o)
theorem blk_cell {w : World} {b : Nat} {cs : Array Value} {T : TypeId} (h : Blk w b cs T) (i : Nat) : w.cell? ⟨b, i, none⟩ = cs[i]? := cell_of_row _ _ _ _ _ _ h
theorem blk_frozen {w : World} {b : Nat} {cs : Array Value} {T : TypeId} (h : Blk w b cs T) (i : Nat) : w.frozen? ⟨b, i, none⟩ = false := frozen_of_row w b i _ _ h
theorem blk_set {w : World} {b : Nat} {cs : Array Value} {T : TypeId} (h : Blk w b cs T) (i : Nat) (v : Value) : Blk (w.setCell ⟨b, i, none⟩ v) b (cs.setIfInBounds i v) T := heap_setCell_same w b i _ _ v h
theorem blk_far {w : World} {b c i : Nat} {cs : Array Value} {T : TypeId} {v : Value} (h : Blk w b cs T) (hne : b ≠ c) : Blk (w.setCell ⟨c, i, none⟩ v) b cs T := by
 unfold Blk; rw [heap_setCell_other w ⟨c, i, none⟩ b _ (by simpa using hne)]; exact h
end Go.Proofs.YtddabafaejahbaaGreatDoor
/- Words that are joined. -/
namespace Go.Proofs.YtddabafaejahbaaGreatDoor
open Go.RowKit
end Go.Proofs.YtddabafaejahbaaGreatDoor
/- Words of 32 bits, and the sum Sha256: mathematics. -/
namespace Go.Proofs.YtddabafaejahbaaGreatDoor
open Go.RowKit
set_option linter.unusedVariables false
abbrev Wd := BitVec 32
def wV (x : Wd) : Value := .int .u32 (x.toNat : Int)
/-- Eight words. -/
structure Sv where
 a : Wd
 b : Wd
 c : Wd
 d : Wd
 e : Wd
 f : Wd
 g : Wd
 h : Wd
def H0 : Sv := ⟨1779033703, 3144134277, 1013904242, 2773480762, 1359893119, 2600822924, 528734635, 1541459225⟩
/-- The word of four bytes at a place. -/
def bW (t : List UInt8) (k : Nat) : Wd := BitVec.ofNat 32 ((t[k]?).getD 0).toNat
def hvA (s : Sv) : Array Value := #[wV s.a, wV s.b, wV s.c, wV s.d, wV s.e, wV s.f, wV s.g, wV s.h]
end Go.Proofs.YtddabafaejahbaaGreatDoor
/- spec.l09K by its contract. -/
namespace Go.Proofs.YtddabafaejahbaaGreatDoor
open Go.RowKit
set_option linter.unusedVariables false
theorem Tryz.infoBy : (Tryz.prog.info? 5).map (fun i => (i.zero, i.size, i.bytes)) = some (some (.int .u8 0), 1, 1) := by kernel_rfl
end Go.Proofs.YtddabafaejahbaaGreatDoor
