import Derived.Test.YtddabafaejahbaaGreatDoorJTxt8
import Derived.Test.YtddabafaejahbaaGreatDoorJOwnT
import Derived.Test.YtddabafaejahbaaGreatDoorJEsc
import Derived.Test.YtddabafaejahbaaGreatDoorJMath
import Derived.Test.YtddabafaejahbaaGreatDoorRows
import Derived.WalkSpells
import Derived.WalkLawsBesides
import Derived.RegionTactic
import Derived.ChangeAlike
import Derived.BigRegion
import Derived.Deep.RegionWith
import Derived.Deep.RegionHeld3
import Derived.BigQuiet
import Derived.Deep.QuietTactic
import Derived.Deep.AppendSrc
import Derived.Deep.Upon
/- impl.readParts, impl.ReadTTL by their contracts. -/
namespace Go.Proofs.YtddabafaejahbaaGreatDoor
open Go.RowKit
theorem rest_get {s r : ByteArray} {a j : Nat} (hr : r = s.extract a s.size) (ha : a ≤ s.size) (hj : j < r.size) : ∃ h : a + j < s.size, r[j] = s[a + j] := by
 subst hr; have hz : (s.extract a s.size).size = s.size - a := by simp
 refine ⟨by omega, ?_⟩; rw [ByteArray.getElem_extract]
theorem rest_front {s r : ByteArray} {a j : Nat} (hr : r = s.extract a s.size) (ha : a ≤ s.size) (hj : j ≤ r.size) : r.extract 0 j = s.extract a (a + j) := by
 subst hr; have hz : (s.extract a s.size).size = s.size - a := by simp
 rw [ByteArray.extract_extract]; congr 1; omega
theorem rest_back {s r : ByteArray} {a j : Nat} (hr : r = s.extract a s.size) (hj : j < r.size) : r.extract (j + 1) r.size = s.extract (a + j + 1) s.size := by
 subst hr; have hz : (s.extract a s.size).size = s.size - a := by simp
 rw [ByteArray.extract_extract]; congr 1; omega
theorem lat_over {s : ByteArray} {i a : Nat} {m : Int} (h : LAt s i a m) (hi : s.size ≤ i) (ha : a < s.size) : ttlG s = (0, 18) := by
 rw [lat_end h hi, ttlE, if_pos (.inl (by omega))]
theorem lat_done {s : ByteArray} {i : Nat} {m : Int} (h : LAt s i s.size m) (hi : s.size ≤ i) (hp : 0 < s.size) : ttlG s = if m ≤ 2147483647 then (m, 0) else (0, 18) := by
 rw [lat_end h hi, ttlE]
 by_cases hm : m ≤ 2147483647
 · rw [if_neg (by omega), if_pos hm]
 · rw [if_pos (by omega), if_neg hm]
theorem lat_empty {s : ByteArray} (h : s.size = 0) : ttlG s = (0, 18) := by
 rw [ttlG, h, ttlF, ttlE, if_pos (.inr (.inl rfl))]
/-- What readParts tells. -/
def PartsR (s : ByteArray) (m : Int) (b : Bool) : Prop := ttlG s = if b = true ∧ m ≤ 2147483647 then (m, 0) else (0, 18)
/-- How readParts ends. -/
def PartsEnd (s : ByteArray) (e : Ending) : Prop := ∃ (m : Int) (b : Bool), e = .returned (.tuple #[.int .i64 m, .bool b]) ∧ PartsR s m b
theorem parts_bad {s : ByteArray} (h : ttlG s = (0, 18)) : PartsR s 0 false := by rw [PartsR, h]; simp
set_option maxRecDepth 100000 in
set_option maxHeartbeats 3000000 in
theorem readParts_any (s : ByteArray) (w : World) (hs : s.size ≤ 60) :
 Calls Tryz.prog 167 #[.string s] w fun e w' => PartsEnd s e ∧ w' = w := by
 have hst := Nm.hide (lat_start s); have hx0 : s = s.extract 0 s.size := by simp
 have HX0 := Nm.hide hx0; clear hx0; go_enter Tryz.func167, Tryz.ntmps167; go_wp2
 go_loop [4, 5] (fun u v => ∃ (a : Nat) (m : Int) (r : ByteArray), a ≤ s.size ∧ v = .string r ∧ Hid (r = s.extract a s.size) ∧ u = .int .i64 m ∧ 0 ≤ m ∧ m ≤ 6048000000000000 * (a : Int) ∧ Hid (LAt s a a m)) (fun _ v => match v with | .string r => r.size | _ => 0)
 case atStart => exact ⟨0, 0, s, Nat.zero_le _, rfl, HX0, rfl, by omega, by omega, hst⟩
 case round =>
  obtain ⟨a, m, r, ha, rfl, HR, rfl, hm0, hm1, HA⟩ := hrel; clear hst HX0; have hrz : r.size = s.size - a := by rw [HR.out]; simp
  have hrz1 : r.size ≤ s.size - a := by omega
  have hrz2 : s.size - a ≤ r.size := by omega
  clear hrz
  by_cases hend : a = s.size
  · obtain ⟨_, he⟩ := beq_empty (s := r) (by omega); rw [hend] at HA
    by_cases hz : s.size = 0
    · have HP : Hid (PartsR s m false) := by show PartsR _ _ _; rw [PartsR, lat_empty hz]; simp
      obtain ⟨_, hz'⟩ := beq_empty (s := s) hz; clear HA HR; go_wp2; go_ret2; exact ⟨⟨_, _, rfl, HP.out⟩, rfl⟩
    · have HP : Hid (PartsR s m true) := by show PartsR _ _ _; rw [PartsR, lat_done HA.out (Nat.le_refl _) (by omega)]; simp
      obtain ⟨_, hz'⟩ := not_empty (s := s) (by omega); clear HA HR; go_wp2; go_ret2; exact ⟨⟨_, _, rfl, HP.out⟩, rfl⟩
  · have hra : 0 < r.size := by omega
    obtain ⟨_, he⟩ := not_empty (s := r) hra; go_wp2
    go_loop [6] (fun v => ∃ j : Nat, j ≤ r.size ∧ v = .int .i64 j ∧ Hid (LAt s (a + j) a m)) (fun v => r.size - (intOf v).toNat)
    case atStart => exact ⟨0, Nat.zero_le _, rfl, HA⟩
    case round =>
     obtain ⟨j, hj, rfl, HJ⟩ := hrel; clear HA; have hj' : (j : Int) ≤ (r.size : Int) := by omega
     have hnum := fun W => readNumber_any (r.extract 0 j) 10 W (by decide)
     have HF := Nm.hide (rest_front HR.out ha hj)
     by_cases hlt : j < r.size
     · have hlt' : (j : Int) < (r.size : Int) := by omega
       obtain ⟨hsj, hget⟩ := rest_get HR.out ha hlt; have hdig := isDigit_any r[j]
       cases hD : Nm.digB r[j] with
       | true =>
         have HN := Nm.hide (lat_dig HJ.out hsj (by rw [← hget]; exact hD)); rw [hD] at hdig; clear hD hget hnum HF; go_wp2_with (go_at_call 92; refine (hdig _).mono ?_; rintro e w1 ⟨rfl, hw⟩; obtain rfl : w = w1 := hw.symm; clear hw)
         go_round
         case rel => exact ⟨j + 1, by omega, by go_num, HN⟩
         case measure => simp [intOf]; omega
       | false =>
         have hDs : Nm.digB s[a + j] = false := by rw [← hget]; exact hD
         rw [hD] at hdig
         cases hn : numO (r.extract 0 j) 10 with
         | none =>
           have HP : Hid (PartsR s 0 false) := parts_bad (lat_none HJ.out hsj hDs (by rw [← HF.out]; exact hn)); rw [hn] at hnum; simp only [numV, Option.getD_none, Option.isSome_none] at hnum; clear hD hget HF hn hDs; go_wp2_with (first | (go_at_call 92; refine (hdig _).mono ?_; rintro e w1 ⟨rfl, hw⟩; obtain rfl : w = w1 := hw.symm; clear hw) | (go_at_call 53; refine (hnum _).mono ?_; rintro e w1 ⟨rfl, hw⟩; obtain rfl : w = w1 := hw.symm; clear hw))
           go_ret2
           exact ⟨⟨_, _, rfl, HP.out⟩, rfl⟩
         | some k =>
           have hk := numO_lt hn; have hse := fun W => secondsOf_any r[j] W
           rw [hget] at hse; have hub := unitS_bound s[a + j]; rw [hn] at hnum; simp only [numV, Option.getD_some, Option.isSome_some] at hnum; have hje : ((j : Int) == (r.size : Int)) = false := by rw [beq_eq_false_iff_ne]; omega
           by_cases hu : unitS s[a + j] = 0
           · have HP : Hid (PartsR s 0 false) := parts_bad (lat_unit HJ.out hsj hDs (by rw [← HF.out]; exact hn) hu); rw [hu] at hse; clear hD HF hn hDs hub hu; rw [← hget] at hse; clear hget; go_wp2_with (first | (go_at_call 92; refine (hdig _).mono ?_; rintro e w1 ⟨rfl, hw⟩; obtain rfl : w = w1 := hw.symm; clear hw) | (go_at_call 53; refine (hnum _).mono ?_; rintro e w1 ⟨rfl, hw⟩; obtain rfl : w = w1 := hw.symm; clear hw) | (go_at_call 202; refine (hse _).mono ?_; rintro e w1 ⟨rfl, hw⟩; obtain rfl : w = w1 := hw.symm; clear hw))
             go_ret2; exact ⟨⟨_, _, rfl, HP.out⟩, rfl⟩
           · have HN := Nm.hide (lat_part HJ.out hsj hDs (by rw [← HF.out]; exact hn) hu); have HB := Nm.hide (rest_back HR.out hlt); have hse2 : ∀ W, Calls Tryz.prog 202 #[.int .u8 r[j].toNat] W fun e w' => e = .returned (.int .i64 (unitS s[a + j])) ∧ w' = W := by rw [hget]; exact hse
             clear hse; generalize unitS s[a + j] = z at *; have hz0 : (z == 0) = false := by rw [beq_eq_false_iff_ne]; exact hu
             have hzp : 0 ≤ (k : Int) * z := Int.mul_nonneg (by omega) hub.1
             have hzl : (k : Int) * z ≤ 6048000000000000 := by
              have h1 : (k : Int) * z ≤ (k : Int) * 604800 := Int.mul_le_mul_of_nonneg_left hub.2 (by omega); have h2 : (k : Int) * 604800 ≤ 10000000000 * 604800 := by omega
              omega
             have hlj' : (j : Int) + 1 ≤ (r.size : Int) := by omega
             have hlj : j + 1 ≤ r.size := by omega
             have hsum : m + (k : Int) * z ≤ 362880000000000000 := by omega
             have hsum0 : 0 ≤ m + (k : Int) * z := by omega
             have hsumA : m + (k : Int) * z ≤ 6048000000000000 * ((a + j + 1 : Nat) : Int) := by omega
             have hw1 : IntKind.i64.wrap ((k : Int) * z) = (k : Int) * z := Go.wrap_small _ (by omega) (by omega); clear hD HF hn hDs hub hu hget; go_wp2_with (first | (go_at_call 92; refine (hdig _).mono ?_; rintro e w1 ⟨rfl, hw⟩; obtain rfl : w = w1 := hw.symm; clear hw) | (go_at_call 53; refine (hnum _).mono ?_; rintro e w1 ⟨rfl, hw⟩; obtain rfl : w = w1 := hw.symm; clear hw) | (go_at_call 202; refine (hse2 _).mono ?_; rintro e w1 ⟨rfl, hw⟩; obtain rfl : w = w1 := hw.symm; clear hw))
             go_round
             case rel => exact ⟨a + j + 1, m + (k : Int) * z, _, by omega, rfl, HB, by go_num, hsum0, hsumA, HN⟩
             case measure => simp; omega
     · have hlt' : (r.size : Int) ≤ (j : Int) := by omega
       have hje : ((j : Int) == (r.size : Int)) = true := by rw [beq_iff_eq]; omega
       have HP : Hid (PartsR s 0 false) := parts_bad (lat_over HJ.out (by omega) (by omega))
       cases hn : numO (r.extract 0 j) 10 with
       | none =>
         rw [hn] at hnum; simp only [numV, Option.getD_none, Option.isSome_none] at hnum; clear HF hn HJ HR; go_wp2_with (go_at_call 53; refine (hnum _).mono ?_; rintro e w1 ⟨rfl, hw⟩; obtain rfl : w = w1 := hw.symm; clear hw)
         go_ret2
         exact ⟨⟨_, _, rfl, HP.out⟩, rfl⟩
       | some k =>
         rw [hn] at hnum; simp only [numV, Option.getD_some, Option.isSome_some] at hnum; clear HF hn HJ HR; go_wp2_with (go_at_call 53; refine (hnum _).mono ?_; rintro e w1 ⟨rfl, hw⟩; obtain rfl : w = w1 := hw.symm; clear hw)
         go_ret2; exact ⟨⟨_, _, rfl, HP.out⟩, rfl⟩
theorem ttl_digits {s : ByteArray} {n : Nat} (h : numO s 10 = some n) : ttlG s = (0, 18) := by
 have hz : 1 ≤ s.size ∧ s.data.toList.all Nm.digB = true := by
  unfold numO at h
  by_cases hc : 1 ≤ s.size ∧ s.size ≤ 10 ∧ s.data.toList.all Nm.digB = true
  · exact ⟨hc.1, hc.2.2⟩
  · rw [if_neg hc] at h; cases h
 have hd : ∀ j, (hj : j < s.size) → Nm.digB s[j] = true := fun j hj => List.all_eq_true.1 hz.2 s[j] (List.mem_of_getElem? (Nm.get_data hj))
 have key : ∀ k, k ≤ s.size → LAt s k 0 0 := by
  intro k
  induction k with
  | zero => intro _; exact lat_start s
  | succ k ih => intro hk; exact lat_dig (ih (by omega)) (by omega) (hd k (by omega))
 exact lat_over (key s.size (Nat.le_refl _)) (Nat.le_refl _) (by omega)
theorem ttl_num {s : ByteArray} {n : Nat} (h60 : ¬ 60 < s.size) (h : numO s 10 = some n) : ttlS s = if n ≤ 2147483647 then ((n : Int), 0) else (0, 18) := by
 rw [ttlS, if_neg h60, h]; simp only
 split
 · rfl
 · exact ttl_digits h
theorem ttl_parts {s : ByteArray} {m : Int} {b : Bool} (h60 : ¬ 60 < s.size) (h : numO s 10 = none) (hp : PartsR s m b) : ttlS s = if b = true ∧ m ≤ 2147483647 then (m, 0) else (0, 18) := by
 rw [ttlS, if_neg h60, h]; exact hp
set_option maxRecDepth 100000 in
set_option maxHeartbeats 1600000 in
theorem implReadTTL_any (s : ByteArray) (w : World) :
 Calls Tryz.prog 109 #[.string s] w fun e w' => e = .returned (ttlV (ttlS s)) ∧ w' = w := by
 obtain ⟨R, HR⟩ : ∃ R, Hid (R = ttlV (ttlS s)) := ⟨_, rfl⟩; rw [← HR.out]
 by_cases h60 : 60 < s.size
 · have HN : Hid (R = .tuple #[.int .i64 0, .int .i64 18]) := by show _ = _; rw [HR.out, ttlS, if_pos h60]; rfl
   have h1' : (60 : Int) < (s.size : Int) := by omega
   go_enter Tryz.func109, Tryz.ntmps109; go_wp2; go_ret2; rw [HN.out]; exact ⟨rfl, rfl⟩
 have h60' : (s.size : Int) ≤ 60 := by omega
 have hnum := fun W => readNumber_any s 10 W (by decide)
 cases hn : numO s 10 with
 | some n =>
   have HT := Nm.hide (ttl_num h60 hn); rw [hn] at hnum; simp only [numV, Option.getD_some, Option.isSome_some] at hnum; clear hn h60
   by_cases hle : n ≤ 2147483647
   · have HN : Hid (R = .tuple #[.int .i64 n, .int .i64 0]) := by show _ = _; rw [HR.out, HT.out, if_pos hle]; rfl
     have hle' : (n : Int) ≤ 2147483647 := by omega
     go_enter Tryz.func109, Tryz.ntmps109; go_wp2_with (go_at_call 53; refine (hnum _).mono ?_; rintro e w1 ⟨rfl, hw⟩; obtain rfl : w = w1 := hw.symm; clear hw)
     go_ret2; rw [HN.out]; exact ⟨rfl, rfl⟩
   · have HN : Hid (R = .tuple #[.int .i64 0, .int .i64 18]) := by show _ = _; rw [HR.out, HT.out, if_neg hle]; rfl
     have hle' : 2147483647 < (n : Int) := by omega
     go_enter Tryz.func109, Tryz.ntmps109; go_wp2_with (go_at_call 53; refine (hnum _).mono ?_; rintro e w1 ⟨rfl, hw⟩; obtain rfl : w = w1 := hw.symm; clear hw)
     go_ret2; rw [HN.out]
     exact ⟨rfl, rfl⟩
 | none =>
   have HT : Hid (∀ m b, PartsR s m b → ttlS s = if b = true ∧ m ≤ 2147483647 then (m, 0) else (0, 18)) := fun m b hp => ttl_parts h60 hn hp
   have hpa := fun W => readParts_any s W (by omega)
   rw [hn] at hnum; simp only [numV, Option.getD_none, Option.isSome_none] at hnum; clear hn h60; go_enter Tryz.func109, Tryz.ntmps109; go_wp2_with (first | (go_at_call 53; refine (hnum _).mono ?_; rintro e w1 ⟨rfl, hw⟩; obtain rfl : w = w1 := hw.symm; clear hw) | (go_at_call 167; refine (hpa _).mono ?_; rintro e w1 ⟨⟨m, b, rfl, hp⟩, hw⟩; obtain rfl : w = w1 := hw.symm; clear hw; refine Hid.out ?_))
   have HX := Nm.hide (HT.out m b hp); clear hp
   cases b with
   | false =>
     have HN : Hid (R = .tuple #[.int .i64 0, .int .i64 18]) := by show _ = _; rw [HR.out, HX.out]; simp [ttlV]
     refine Nm.hide ?_; go_wp2; go_ret2; rw [HN.out]
     exact ⟨rfl, rfl⟩
   | true =>
     by_cases hle : m ≤ 2147483647
     · have HN : Hid (R = .tuple #[.int .i64 m, .int .i64 0]) := by show _ = _; rw [HR.out, HX.out]; simp [ttlV, hle]
       refine Nm.hide ?_; go_wp2; go_ret2; rw [HN.out]; exact ⟨rfl, rfl⟩
     · have HN : Hid (R = .tuple #[.int .i64 0, .int .i64 18]) := by show _ = _; rw [HR.out, HX.out]; simp [ttlV, hle]
       have hle' : 2147483647 < m := by omega
       refine Nm.hide ?_; go_wp2; go_ret2; rw [HN.out]; exact ⟨rfl, rfl⟩
end Go.Proofs.YtddabafaejahbaaGreatDoor
/- spec.l03Cut by its contract. -/
namespace Go.Proofs.YtddabafaejahbaaGreatDoor
open Go.RowKit
set_option maxRecDepth 100000 in
set_option maxHeartbeats 1600000 in
theorem l03Cut_any (s : ByteArray) (c : UInt8) (w : World) (hs : s.size ≤ 2000000) :
 Calls Tryz.prog 82 #[.string s, .int .u8 c.toNat] w fun e w' => ∃ v, e = .returned v ∧
  w'.ownsRow w.heap.size 9 1 v (cutB s c).length ((cutB s c).map Value.string) ∧ Below w.heap.size w w' := by
 obtain ⟨i0, hi, hz0, hz1, hz2⟩ := info_parts Tryz.infoStr; obtain ⟨Z, HZ⟩ : ∃ Z, Hid (Z = cutB s c) := ⟨_, rfl⟩; rw [← HZ.out]; have hst := cut_start s c; go_enter Tryz.func82, Tryz.ntmps82; go_wp2
 go_loopw [5, 6, 7] (fun v x y wr => ∃ (ls : List ByteArray) (i a : Nat), i ≤ s.size ∧ a ≤ i ∧ ls.length ≤ i ∧ x = .int .i64 a ∧ y = .int .i64 i ∧ Hid (CutAt s c ls i a) ∧ wr.ownsRow w.heap.size 9 1 v ls.length (ls.map Value.string) ∧ Below w.heap.size w wr)
  (fun _ _ y _ => s.size - (intOf y).toNat)
 case atStart => exact ⟨[], 0, 0, Nat.zero_le _, Nat.le_refl _, Nat.le_refl _, rfl, rfl, hst, World.ownsRow_made w #[] 0 (Nat.le_refl _) (by decide) rfl, (Below.refl _ _).alloc (Nat.le_refl _) _⟩
 case round =>
  obtain ⟨ls, i, a, hk, ha, hl, rfl, rfl, HA, hown, hbel⟩ := hrel; clear hst; have hsz := hbel.size
  by_cases hlt : i < s.size
  · have hlt' : (i : Int) < (s.size : Int) := by omega
    have ha' : (a : Int) ≤ (i : Int) := by omega
    by_cases e : s[i].toNat = c.toNat
    · have q : ((s[i].toNat : Int) == (c.toNat : Int)) = true := by rw [beq_iff_eq]; omega
      have HN := Nm.hide (cut_here HA.out hlt e); clear e HA; go_wp2_with (at_builtin; refine wpList_append_own _ rfl (.tmp 20) (.tmp 25) 82 rfl w.heap.size 9 i0 (.string ByteArray.empty) 1 16 Tryz.underlying82 hi hz0 hz1 hz2 rfl (by decide) _ _ _ rfl (hown.alloc _) ⟨wr.heap.size, 0, none⟩ 1 1 [.string (s.extract a i)] rfl rfl ?c1 ?c2 ?c3 ?c4 ?c5 ?_)
      case c1 =>
       intro j u hj
       match j, hj with
       | 0, hj => simp at hj; subst hj; simp [Addr.add]
      case c2 => exact Nm.one_cell _ rfl
      case c3 => unfold maxLen; omega
      case c4 => omega
      case c5 => simp; omega
      · intro v' w1 hown' hgrow _; have R := own_step hsz hown hbel _ hown' hgrow; clear hown' hgrow hown hbel; go_wp2; go_roundw
        case rel => exact ⟨_, i + 1, i + 1, by omega, by omega, by simp; omega, by go_num, by go_num, HN, R.1, R.2⟩
        case measure => simp [intOf]; omega
    · have q : ((s[i].toNat : Int) == (c.toNat : Int)) = false := by rw [beq_eq_false_iff_ne]; omega
      have HN := Nm.hide (cut_on HA.out hlt e); clear e HA; go_wp2; go_roundw
      case rel => exact ⟨ls, i + 1, a, by omega, by omega, by omega, rfl, by go_num, HN, hown, hbel⟩
      case measure => simp [intOf]; omega
  · have hlt' : (s.size : Int) ≤ (i : Int) := by omega
    have hae : (a : Int) ≤ (s.size : Int) := by omega
    have HN : Hid (Z = ls ++ [s.extract a s.size]) := by show _ = _; rw [HZ.out, cut_end HA.out (by omega)]
    clear HA; go_wp2_with (at_builtin; refine wpList_append_own _ rfl (.tmp 29) (.tmp 33) 82 rfl w.heap.size 9 i0 (.string ByteArray.empty) 1 16 Tryz.underlying82 hi hz0 hz1 hz2 rfl (by decide) _ _ _ rfl (hown.alloc _) ⟨wr.heap.size, 0, none⟩ 1 1 [.string (s.extract a s.size)] rfl rfl ?c1 ?c2 ?c3 ?c4 ?c5 ?_)
    case c1 =>
     intro j u hj
     match j, hj with
     | 0, hj => simp at hj; subst hj; simp [Addr.add]
    case c2 => exact Nm.one_cell _ rfl
    case c3 => unfold maxLen; omega
    case c4 => omega
    case c5 => simp; omega
    · intro v' w1 hown' hgrow _; have R := own_step hsz hown hbel _ hown' hgrow; clear hown' hgrow hown hbel; go_wp2; go_ret; rw [HN.out]; exact ⟨_, rfl, R.1, R.2⟩
end Go.Proofs.YtddabafaejahbaaGreatDoor
/- string([]byte{c}), and small things. -/
namespace Go.Proofs.YtddabafaejahbaaGreatDoor
open Go.RowKit
theorem conv_one (n : Int) (W : World) :
 (convert 87 9 (.slice (some ⟨W.heap.size, 0, none⟩) 1 1)).run Tryz.prog (W.alloc (.cells #[.int .u8 n] 5)) = .ok (.string ⟨#[UInt8.ofNat n.toNat]⟩) (W.alloc (.cells #[.int .u8 n] 5)) := by
 rw [run_convert_bytes_string _ 87 9 5 _ _ _ Tryz.underlying87 Tryz.underlying5 Tryz.underlying9]; have hl := run_loadCells_list (P := Tryz.prog) (W.alloc (.cells #[.int .u8 n] 5)) ⟨W.heap.size, 0, none⟩ ([n].map (Value.int .u8)) (fun j v hj => cell_one_new W (.int .u8 n) 5 j v hj); rw [run_bytesToString _ _ 1 1 [n] hl]; rfl
theorem conv_one_drew (n : Int) (W : World) :
 (convert 87 9 (.slice (some ⟨W.heap.size, 0, none⟩) 1 1)).run Tryz.prog (W.alloc (.cells #[.int .u8 n] 5)).drew = .ok (.string ⟨#[UInt8.ofNat n.toNat]⟩) (W.alloc (.cells #[.int .u8 n] 5)).drew :=
 conv_one n W.drew
theorem ret_str {a b : ByteArray} (h : a = b) : Ending.returned (.string a) = .returned (.string b) := by rw [h]
theorem byte_mod (n : Nat) : UInt8.ofNat (n % 256) = UInt8.ofNat n := by
 apply UInt8.toNat_inj.1; simp
theorem ba_ext {a b : ByteArray} (h : a.data.toList = b.data.toList) : a = b := by
 apply ByteArray.ext; exact Array.toList_inj.1 h
theorem size_list (s : ByteArray) : s.data.toList.length = s.size := by simp
end Go.Proofs.YtddabafaejahbaaGreatDoor
/- spec.l03Dec by its contract. -/
namespace Go.Proofs.YtddabafaejahbaaGreatDoor
open Go.RowKit
theorem conv_kept {m : Int} {W w1 : World} (hb : Below (W.alloc (.cells #[.int .u8 m] 5)).drew.heap.size (W.alloc (.cells #[.int .u8 m] 5)).drew w1) :
 (convert 87 9 (.slice (some ⟨W.heap.size, 0, none⟩) 1 1)).run Tryz.prog w1 = .ok (.string ⟨#[UInt8.ofNat m.toNat]⟩) w1 := by
 have hc : w1.cell? ⟨W.heap.size, 0, none⟩ = some (.int .u8 m) := by
  rw [hb.cell (by simp)]; exact World.cell?_alloc_new W _ _ 0
 rw [run_convert_bytes_string _ 87 9 5 _ _ _ Tryz.underlying87 Tryz.underlying5 Tryz.underlying9]
 have hl := run_loadCells_list (P := Tryz.prog) w1 ⟨W.heap.size, 0, none⟩ ([m].map (Value.int .u8)) (fun j v hj => by
  match j, hj with
  | 0, hj => simp at hj; subst hj; rw [Nm.addr_add]; exact hc)
 rw [run_bytesToString _ _ 1 1 [m] hl]; rfl
set_option maxRecDepth 100000 in
set_option maxHeartbeats 1600000 in
theorem l03Dec_any : ∀ (n : Nat) (w : World), n < 9223372036854775808 →
 Calls Tryz.prog 83 #[.int .i64 (n : Int)] w fun e w' => e = .returned (.string (decS n)) ∧ Below w.heap.size w w' := by
 intro n
 induction n using Nat.strongRecOn with
 | _ n ih =>
   intro w hn
   by_cases h10 : n < 10
   · have hcv := fun m W => conv_one m W
     have HE : Hid (decS n = ⟨#[UInt8.ofNat (48 + n)]⟩) := by show _ = _; rw [decS, decL_small h10]
     have h10' : (n : Int) < 10 := by omega
     clear ih; go_enter Tryz.func83, Tryz.ntmps83; go_wp2; go_ret; rw [HE.out]; exact ⟨rfl, (Below.refl _ _).alloc (Nat.le_refl _) _⟩
   · have hcv := fun m W => conv_one m W
     have h10' : (10 : Int) ≤ (n : Int) := by omega
     have hih := fun w => ih (n / 10) (by omega) w (by omega)
     have hdz : (decS (n / 10)).size ≤ 20 := by
      have := decL_len20 (n := n / 10) (by omega); show (decL (n / 10)).toArray.size ≤ 20
      simpa using this
     have HE : Hid (decS n = decS (n / 10) ++ ⟨#[UInt8.ofNat (48 + n % 10)]⟩) := by
      show _ = _
      apply Nm.ba_ext; simp [decS, decL_step h10]
     have hcast : ((n / 10 : Nat) : Int) = (n : Int) / 10 := by omega
     rw [hcast] at hih; have hsum : (decS (n / 10)).size + 1 ≤ 9223372036854775807 := by omega
     have hcvd := fun m W => conv_one_drew m W
     have htm : (n : Int).tmod 10 = (n : Int) % 10 := Int.tmod_eq_emod_of_nonneg (by omega); have hw1 : IntKind.i64.wrap ((n : Int) / 10) = (n : Int) / 10 := Go.wrap_small _ (by omega) (by omega); have hw2 : IntKind.i64.wrap ((n : Int) % 10) = (n : Int) % 10 := Go.wrap_small _ (by omega) (by omega); have hw3 : IntKind.i64.wrap (48 + (n : Int) % 10) = 48 + (n : Int) % 10 := Go.wrap_small _ (by omega) (by omega); have hw4 : IntKind.u8.wrap (48 + (n : Int) % 10) = 48 + (n : Int) % 10 := by rw [IntKind.wrap_u8']; omega
     generalize decS (n / 10) = D at *; clear ih hcast; go_enter Tryz.func83, Tryz.ntmps83; go_wp2; go_region_with (go_at_call 83; refine (hih _).mono ?_; rintro e w1 ⟨rfl, hb1⟩; try (have hcx := conv_kept hb1))
     all_goals
      go_wp2; go_ret; rw [HE.out]
      have hbA : Below w.heap.size w w1 := by
       first
        | exact Nm.below_two ((Below.refl _ w).drew) hb1
        | exact Nm.below_two (((Below.refl _ w).alloc (Nat.le_refl _) _).drew) hb1
      refine ⟨by first | rfl | simp [Act.put], ?_⟩
      first
       | exact hbA
       | exact hbA.alloc hbA.size _
       | exact (hbA.alloc hbA.size _).drew
end Go.Proofs.YtddabafaejahbaaGreatDoor
/- spec.ReadV4 by its contract. -/
namespace Go.Proofs.YtddabafaejahbaaGreatDoor
open Go.RowKit
theorem str_eqB {a b : ByteArray} (h : a = b) : (a.toList == b.toList) = true := by simp [h]
theorem str_neB {a b : ByteArray} (h : a ≠ b) : (a.toList == b.toList) = false := by
 rw [beq_eq_false_iff_ne]; intro e; rw [ByteArray.toList_eq, ByteArray.toList_eq] at e; exact h (Nm.ba_ext e)
theorem byte_nat {n : Nat} (h : n ≤ 255) : ((UInt8.ofNat n).toNat : Int) = (n : Int) := by simp; omega
set_option maxRecDepth 100000 in
set_option maxHeartbeats 4000000 in
theorem specReadV4_any (s : ByteArray) (w : World) (hs : s.size ≤ 2000000) :
 Calls Tryz.prog 42 #[.string s] w fun e w' => e = .returned (strV (readV4S s)) ∧ Below w.heap.size w w' := by
 obtain ⟨R, HR⟩ : ∃ R, Hid (R = strV (readV4S s)) := ⟨_, rfl⟩; rw [← HR.out]; obtain ⟨i0, hi, hz0, hz1, hz2⟩ := info_parts Tryz.infoU8x
 by_cases h15 : 15 < s.size
 · have HN : Hid (R = .tuple #[.string ⟨#[]⟩, .int .i64 7]) := by show _ = _; rw [HR.out, v4_long h15]; rfl
   have h15' : (15 : Int) < (s.size : Int) := by omega
   go_enter Tryz.func42, Tryz.ntmps42; go_wp2; go_ret2; rw [HN.out]; exact ⟨rfl, Below.refl _ _⟩
 have h15' : (s.size : Int) ≤ 15 := by omega
 have hcut := l03Cut_any s 46 w hs; rw [show (((46 : UInt8).toNat : Nat) : Int) = 46 from rfl] at hcut
 by_cases h4 : (cutB s 46).length = 4
 · have hst := Nm.hide (v4_start (cutB s 46)); have HBAD : Hid (∀ k o p, V4At (cutB s 46) k o → (cutB s 46)[k]? = some p → v4Part p = none → R = .tuple #[.string ⟨#[]⟩, .int .i64 7]) := fun k o p h1 h2 h3 => by rw [HR.out, v4_bad h1 h2 h3]; rfl
   have HEND : Hid (∀ o, V4At (cutB s 46) 4 o → R = .tuple #[.string ⟨o.toArray⟩, .int .i64 0]) := fun o h1 => by rw [HR.out, v4_end h4 h1]; rfl
   clear HR; generalize cutB s 46 = ls at *; go_enter Tryz.func42, Tryz.ntmps42; go_wp2_with (go_at_call 82; refine hcut.mono ?_; rintro e w1 ⟨v, rfl, hown1, hb1⟩; refine Hid.out ?_)
   have hb1s := hb1.size; obtain ⟨a, cap, rfl, hcap, hmx, hnl, hc⟩ := Nm.SRow.of_owns hown1; obtain ⟨b, off, rfl, hcell⟩ := hc (by intro e; rw [e] at h4; simp at h4); rw [h4] at hcap; rw [h4]; have HH4 := Nm.hide h4; clear hown1 hc hnl h4 hcut; refine Nm.hide ?_; go_wp2
   go_loopw [5, 6] (fun v i wr => ∃ (k : Nat) (l : List UInt8), k ≤ 4 ∧ i = .int .i64 k ∧ Hid (l.length = k) ∧ Hid (V4At ls k l) ∧ wr.ownsRow w1.heap.size 5 1 v k (Nm.bys l) ∧ Below w1.heap.size w1 wr)
    (fun _ i _ => 4 - (intOf i).toNat)
   case atStart => exact ⟨0, [], by omega, rfl, rfl, hst, World.ownsRow_made w1 #[] 0 (Nat.le_refl _) (by decide) rfl, (Below.refl _ _).alloc (Nat.le_refl _) _⟩
   case round =>
    obtain ⟨k, l, hk, rfl, HL, HV, hown, hbel⟩ := hrel; clear hst; have hsz := hbel.size
    by_cases hlt : k < 4
    · have hlt' : (k : Int) < 4 := by omega
      obtain ⟨p, hp⟩ : ∃ p, ls[k]? = some p := ⟨_, List.getElem?_eq_getElem (by rw [HH4.out]; exact hlt)⟩; have hcp : wr.cell? ⟨b, off + k, none⟩ = some (.string p) := (hbel.cell (World.block_lt_of_cell? w1 _ (hcell k p hp))).trans (hcell k p hp); have hnum := fun W => l03Number_any p 3 W (by decide)
      rw [show ((3 : Nat) : Int) = 3 from rfl] at hnum
      cases hn : numO p 3 with
      | none =>
        have HN : Hid (R = .tuple #[.string ⟨#[]⟩, .int .i64 7]) := HBAD.out k l p HV.out hp (part_none hn); rw [hn] at hnum; simp only [numV, Option.getD_none, Option.isSome_none] at hnum; clear hn hp hown HV; go_wp2_with (go_at_call 37; refine (hnum _).mono ?_; rintro e w3 ⟨rfl, hw⟩; obtain rfl : wr = w3 := hw.symm; clear hw)
        go_quiet (fail)
        go_wp2; go_ret2; rw [HN.out]
        exact ⟨rfl, Nm.below_two hb1 (Go.below_drewN hbel _)⟩
      | some n =>
        rw [hn] at hnum; simp only [numV, Option.getD_some, Option.isSome_some] at hnum
        by_cases hbig : 255 < n
        · have HN : Hid (R = .tuple #[.string ⟨#[]⟩, .int .i64 7]) := HBAD.out k l p HV.out hp (part_big hn hbig); have hbig' : 255 < (n : Int) := by omega
          clear hn hp hown HV; go_wp2_with (go_at_call 37; refine (hnum _).mono ?_; rintro e w3 ⟨rfl, hw⟩; obtain rfl : wr = w3 := hw.symm; clear hw)
          go_quiet (fail)
          go_wp2; go_ret2; rw [HN.out]; exact ⟨rfl, Nm.below_two hb1 (Go.below_drewN hbel _)⟩
        · have hle' : (n : Int) ≤ 255 := by omega
          have hdb : decide (255 < (n : Int)) = false := by simp; omega
          have hdec := fun W => l03Dec_any n W (by omega)
          have HP : Hid (decS n = p → v4Part p = some n) := fun e => part_some hn (by omega) e
          have HQ : Hid (decS n ≠ p → v4Part p = none) := fun e => part_not hn e
          have HB := Nm.hide (byte_nat (n := n) (by omega)); clear hn; generalize decS n = D at *
          have hdec2 : ∀ W : World, (Below wr.heap.size wr W ∧ W.cell? ⟨b, off + k, none⟩ = some (.string p)) → Calls Tryz.prog 83 #[.int .i64 (n : Int)] W fun e w' => e = .returned (.string D) ∧ (Below wr.heap.size wr w' ∧ w'.cell? ⟨b, off + k, none⟩ = some (.string p)) := by
           intro W hW; refine (hdec W).mono ?_; rintro e w' ⟨rfl, hb⟩; exact ⟨rfl, Nm.below_two hW.1 hb, (hb.cell (World.block_lt_of_cell? W _ hW.2)).trans hW.2⟩
          have hS0 : Below wr.heap.size wr wr.drew ∧ wr.drew.cell? ⟨b, off + k, none⟩ = some (.string p) := ⟨(Below.refl _ _).drew, hcp⟩; clear hdec
          by_cases he : D = p
          · have HN := Nm.hide (v4_next HV.out hp (HP.out he)); have HL2 : Hid ((l ++ [UInt8.ofNat n]).length = k + 1) := by show _ = _; rw [List.length_append, HL.out]; rfl
            have hee := str_eqB he; clear hp HP HQ HV he; go_wp2_with (go_at_call 37; refine (hnum _).mono ?_; rintro e w3 ⟨rfl, hw⟩; obtain rfl : wr = w3 := hw.symm; clear hw)
            go_region_held3 (fun w' => Below wr.heap.size wr w' ∧ w'.cell? ⟨b, off + k, none⟩ = some (.string p)) (first | assumption | exact hS0) ((first | (go_at_call 83; refine (hdec2 _ (by first | assumption | exact hS0)).mono ?_; rintro e w' ⟨rfl, hS1⟩)))
            have hown3 := own_below hown hS1.1; have hbel3 := Nm.below_two hbel hS1.1; have hsz3 := hbel3.size; clear hown hbel hS0 hdec2 hnum hcp hS1; go_wp2_with (at_builtin; refine wpList_append_own _ rfl (.tmp 45) (.tmp 48) 87 rfl w1.heap.size 5 i0 (.int .u8 0) 1 1 Tryz.underlying87 hi hz0 hz1 hz2 rfl (by decide) _ _ _ rfl (hown3.alloc _) ⟨w'.heap.size, 0, none⟩ 1 1 [.int .u8 (n : Int)] rfl rfl (cell_new1 _ _ _) (Nm.one_cell _ rfl) (by unfold maxLen; omega) (by omega) (by simp; omega) ?_)
            intro v' w4 hown' hgrow _; rw [← HB.out] at hown'; obtain ⟨X, HX, o4, b4, z4⟩ := one_step (c := UInt8.ofNat n) hsz3 hown3 hbel3 _ hown' hgrow; clear hown' hgrow hown3 hbel3; go_wp2; go_roundw
            case rel => exact ⟨k + 1, X, by omega, by go_num, by show _ = _; rw [HX.out]; exact HL2.out, by show V4At _ _ _; rw [HX.out]; exact HN.out, o4, b4⟩
            case measure => simp [intOf]; omega
          · have HN : Hid (R = .tuple #[.string ⟨#[]⟩, .int .i64 7]) := HBAD.out k l p HV.out hp (HQ.out he); have hee := str_neB he; clear hp HP HQ HV he hown; go_wp2_with (go_at_call 37; refine (hnum _).mono ?_; rintro e w3 ⟨rfl, hw⟩; obtain rfl : wr = w3 := hw.symm; clear hw)
            go_region_held3 (fun w' => Below wr.heap.size wr w' ∧ w'.cell? ⟨b, off + k, none⟩ = some (.string p)) (first | assumption | exact hS0) ((first | (go_at_call 83; refine (hdec2 _ (by first | assumption | exact hS0)).mono ?_; rintro e w' ⟨rfl, hS1⟩)))
            have hbel3 := Nm.below_two hbel hS1.1; clear hS0 hdec2 hnum hcp hS1; go_wp2; go_ret2; rw [HN.out]; exact ⟨rfl, Nm.below_two hb1 hbel3⟩
    · have hke : k = 4 := by omega
      subst hke; have HN := Nm.hide (HEND.out l HV.out); obtain ⟨g, cp, rfl, hcv⟩ := Nm.conv_own (P := Tryz.prog) (src := 87) (dst := 9) Tryz.underlying87 Tryz.underlying5 Tryz.underlying9 hown (by omega); obtain ⟨RR, HRR, hcv⟩ : ∃ RR, Hid (RR = (⟨l.toArray⟩ : ByteArray)) ∧ (convert 87 9 (.slice (some ⟨g, 0, none⟩) 4 cp)).run Tryz.prog wr = .ok (.string RR) wr := ⟨_, rfl, hcv⟩; clear hown HV; go_wp2; go_ret2; rw [HN.out, ← HRR.out]; exact ⟨rfl, Nm.below_two hb1 hbel⟩
 · have HN : Hid (R = .tuple #[.string ⟨#[]⟩, .int .i64 7]) := by show _ = _; rw [HR.out, v4_count h4]; rfl
   have h4' : (((cutB s 46).length : Int) == 4) = false := by rw [beq_eq_false_iff_ne]; omega
   have h4'' : (((cutB s 46).length : Int) != 4) = true := by rw [bne_iff_ne]; omega
   clear HR h4; generalize cutB s 46 = ls at *; go_enter Tryz.func42, Tryz.ntmps42; go_wp2_with (go_at_call 82; refine hcut.mono ?_; rintro e w1 ⟨v, rfl, hown1, hb1⟩; refine Hid.out ?_)
   obtain ⟨a, cap, rfl, hcap, hmx, hnl, hc⟩ := Nm.SRow.of_owns hown1; clear hown1 hc hcut; refine Nm.hide ?_; go_wp2; go_ret2; rw [HN.out]; exact ⟨rfl, hb1⟩
end Go.Proofs.YtddabafaejahbaaGreatDoor
/- Bytes of a string, laid in a new row. -/
namespace Go.Proofs.YtddabafaejahbaaGreatDoor
open Go.RowKit
/-- The bytes 'l' lie at the head of block g, and may be written. -/
def BRow (w : World) (g : Nat) (l : List UInt8) : Prop := ∀ j c, l[j]? = some c → w.cell? ⟨g, j, none⟩ = some (.int .u8 c.toNat) ∧ w.frozen? ⟨g, j, none⟩ = false
theorem BRow.set {w : World} {g k : Nat} {l : List UInt8} {d : UInt8} (h : BRow w g l) (hk : k < l.length) : BRow (w.setCell ⟨g, k, none⟩ (.int .u8 d.toNat)) g (l.set k d) := by
 intro j c hj; obtain ⟨x, hx⟩ : ∃ x, l[k]? = some x := ⟨_, List.getElem?_eq_getElem hk⟩
 by_cases e : k = j
 · subst e; rw [List.getElem?_set_self hk] at hj; simp at hj; subst hj; exact ⟨World.cell?_setCell_same _ _ _ (h k x hx).1, by rw [World.frozen?_setCell]; exact (h k x hx).2⟩
 · rw [List.getElem?_set_ne e] at hj; refine ⟨?_, by rw [World.frozen?_setCell]; exact (h j c hj).2⟩; rw [World.cell?_setCell_other w ⟨g, k, none⟩ ⟨g, j, none⟩ _ (by intro h; cases h; exact e rfl)]; exact (h j c hj).1
theorem new_bytes (s : ByteArray) (w : World) : ∃ cap W, s.size ≤ cap ∧ (s.size ≤ maxLen → cap ≤ maxLen) ∧
 (convert 9 87 (.string s)).run Tryz.prog w = .ok (.slice (some ⟨w.heap.size, 0, none⟩) s.size cap) W ∧ BRow W w.heap.size s.data.toList ∧ Below w.heap.size w W := by
 refine ⟨_, _, grownCap_ge w s.size 0 5, grownCap_le_maxLen w s.size 0 5, run_bytes_of_string w 9 87 5 s Tryz.underlying9 Tryz.underlying87 Tryz.underlying5, ?_, ?_⟩
 · intro j c hj
   have hj' : j < s.data.size := by
    have := (List.getElem?_eq_some_iff.1 hj).1; simpa using this
   have hc : s.data[j] = c := by
    have := (List.getElem?_eq_some_iff.1 hj).2; simpa using this
   constructor
   · have e := cell_of_row (w.drew.alloc (.cells (bytesRow s (grownCap w s.size 0 5)) 5 ((bytesRow s (grownCap w s.size 0 5)).size, (bytesRow s (grownCap w s.size 0 5)).size + 1))) w.heap.size j _ 5 _ (heap_alloc_new w.drew _); rw [e, bytesRow_at s _ j hj', hc]
   · have e := World.frozen?_alloc_mark w.drew (bytesRow s (grownCap w s.size 0 5)) 5 (bytesRow s (grownCap w s.size 0 5)).size ((bytesRow s (grownCap w s.size 0 5)).size + 1) j; rw [show w.heap.size = w.drew.heap.size from rfl, e]; have : s.data.size ≤ (bytesRow s (grownCap w s.size 0 5)).size := by simp [bytesRow]
     simp; omega
 · exact ((Below.refl _ w).drew).alloc (Nat.le_refl _) _
end Go.Proofs.YtddabafaejahbaaGreatDoor
/- Rows of bytes that may be written up to their capacity; what an append leaves. -/
namespace Go.Proofs.YtddabafaejahbaaGreatDoor
open Go.RowKit
theorem Tryz.infoB : (Tryz.prog.info? 5).map (fun i => (i.zero, i.size, i.bytes)) = some (some (.int .u8 0), 1, 1) := by kernel_rfl
/-- The operation, for the walk. -/
theorem wpList_append_run {ops : Array Oper} {rest : List Oper} {o : Oper} {a : Act} {w : World} {Q : Exit → Act → World → Prop} (hgd : o.guard = none) (s x : Operand) (t u : TypeId)
 (ho : o.op = .call { callee := .builtin .append, args := #[s, x], argTypes := #[t, u] }) (v xv : Value) (hs : a.eval s = v) (hx : a.eval x = xv)
 (v' : Value) (w' : World) (hr : ∀ ty, (Builtin.append_ #[t, u] ty #[v, xv]).run Tryz.prog w = .ok v' w')
 (h : wpList Tryz.prog ops Q rest (a.put o.dst v') w') : wpList Tryz.prog ops Q (o :: rest) a w := by
 refine wpList_plain hgd fun K hK => ?_
 have hr := hr o.type; unfold Oper.wp execOp; simp only [ho, resolve, invoke, builtin, Sem.run_bind, Sem.run_pure, Result.andThen_ok, List.map_toArray, List.map_cons, List.map_nil, hs, hx, hr]; exact hK _ _ h
end Go.Proofs.YtddabafaejahbaaGreatDoor
