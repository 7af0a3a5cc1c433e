import Derived.Test.YtddabafaejahbaaGreatDoorJPut2
import Derived.Deep.RegionWith
import Derived.Test.YtddabafaejahbaaGreatDoorJOwnT
import Derived.Test.YtddabafaejahbaaGreatDoorRows
import Derived.WalkSpells
import Derived.WalkLawsBesides
import Derived.Test.YtddabafaejahbaaGreatDoorJTxt8
import Derived.WalkKit
import Derived.Test.YtddabafaejahbaaGreatDoorJMath
import Derived.Test.YtddabafaejahbaaGreatDoorJIParts
import Derived.RegionTactic
import Derived.ChangeAlike
import Derived.BigRegion
/- spec.ReadV6 by its contract. -/
namespace Go.Proofs.YtddabafaejahbaaGreatDoor
open Go.RowKit
theorem gap_bad1 {s : ByteArray} {i : Nat} (h : groupsS (s.extract 0 i) false = none) : v6Gap s i = (⟨#[]⟩, 7) := by rw [v6Gap, h]
theorem gap_bad2 {s : ByteArray} {i : Nat} (h : groupsS (s.extract (i + 2) s.size) true = none) : v6Gap s i = (⟨#[]⟩, 7) := by
 rw [v6Gap, h]; cases groupsS (s.extract 0 i) false <;> rfl
theorem gap_big {s : ByteArray} {i : Nat} {a b : List UInt8} (h1 : groupsS (s.extract 0 i) false = some a) (h2 : groupsS (s.extract (i + 2) s.size) true = some b) (h : 14 < a.length + b.length) : v6Gap s i = (⟨#[]⟩, 7) := by
 rw [v6Gap, h1, h2]; simp only; rw [if_pos h]
theorem gap_good {s : ByteArray} {i : Nat} {a b : List UInt8} (h1 : groupsS (s.extract 0 i) false = some a) (h2 : groupsS (s.extract (i + 2) s.size) true = some b) (h : ¬ 14 < a.length + b.length) : v6Gap s i = (⟨(a ++ List.replicate (16 - a.length - b.length) 0 ++ b).toArray⟩, 0) := by
 rw [v6Gap, h1, h2]; simp only; rw [if_neg h]
theorem whole_bad {s : ByteArray} (h : groupsS s true = none) : v6Whole s = (⟨#[]⟩, 7) := by rw [v6Whole, h]
theorem whole_len {s : ByteArray} {o : List UInt8} (h : groupsS s true = some o) (hl : o.length ≠ 16) : v6Whole s = (⟨#[]⟩, 7) := by rw [v6Whole, h]; simp only; rw [if_neg hl]
theorem whole_good {s : ByteArray} {o : List UInt8} (h : groupsS s true = some o) (hl : o.length = 16) : v6Whole s = (⟨o.toArray⟩, 0) := by rw [v6Whole, h]; simp only; rw [if_pos hl]
theorem arr_size (l : List UInt8) : (⟨l.toArray⟩ : ByteArray).size = l.length := rfl
set_option maxRecDepth 100000 in
set_option maxHeartbeats 4000000 in
theorem specReadV6_any (s : ByteArray) (w : World) :
 Calls Tryz.prog 43 #[.string s] w fun e w' => e = .returned (strV (readV6S s)) ∧ Below w.heap.size w w' := by
 obtain ⟨R, HR⟩ : ∃ R, Hid (R = strV (readV6S s)) := ⟨_, rfl⟩; rw [← HR.out]
 by_cases h100 : 100 < s.size
 · have HN : Hid (R = .tuple #[.string ⟨#[]⟩, .int .i64 7]) := by show _ = _; rw [HR.out, v6_long h100]; rfl
   have h100' : (100 : Int) < (s.size : Int) := by omega
   go_enter Tryz.func43, Tryz.ntmps43; go_wp2; go_ret2; rw [HN.out]; exact ⟨rfl, Below.refl _ _⟩
 have h100' : (s.size : Int) ≤ 100 := by omega
 have hs100 : s.size ≤ 100 := by omega
 have hst := Nm.hide (dd_start s); have HHIT : Hid (∀ i, NoDD s i → i + 2 ≤ s.size → ((s.extract i (i + 2)).toList == [58, 58]) = true → R = strV (v6Gap s i)) := fun i h1 h2 h3 => by rw [HR.out, dd_hit h1 h100 h2 h3]
 have HNONE : Hid (∀ i, NoDD s i → s.size < i + 2 → R = strV (v6Whole s)) := fun i h1 h2 => by rw [HR.out, dd_none h1 h100 h2]
 clear HR h100; go_enter Tryz.func43, Tryz.ntmps43; go_wp2
 go_loop [4] (fun v => ∃ i : Nat, i ≤ s.size + 1 ∧ v = .int .i64 (i : Int) ∧ Hid (NoDD s i)) (fun v => s.size + 1 - (intOf v).toNat)
 case atStart => exact ⟨0, by omega, rfl, hst⟩
 case round =>
  obtain ⟨i, hi, rfl, HD⟩ := hrel; clear hst
  by_cases hlt : i + 2 ≤ s.size
  · have hlt' : (i : Int) + 1 < (s.size : Int) := by omega
    have hlt2 : (i : Int) + 2 ≤ (s.size : Int) := by omega
    have hle : (i : Int) ≤ (s.size : Int) := by omega
    have hle2 : (i : Int) ≤ (i : Int) + 2 := by omega
    have hlen : i ≤ s.size := by omega
    cases hq : ((s.extract i (i + 2)).toList == [58, 58]) with
    | false =>
      have HN := Nm.hide (dd_next HD.out hlt hq); clear HD; go_wp2
      go_round
      case rel => exact ⟨i + 1, by omega, by go_num, HN⟩
      case measure => simp [intOf]; omega
    | true =>
      have HG := Nm.hide (HHIT.out i HD.out hlt hq); have hgA := l03Groups_any (s.extract 0 i) false w (by simp; omega); have hgB := fun W => l03Groups_any (s.extract (i + 2) s.size) true W (by simp; omega)
      clear HD HHIT HNONE
      cases hA : groupsS (s.extract 0 i) false with
      | none =>
        have HN : Hid (R = .tuple #[.string ⟨#[]⟩, .int .i64 7]) := by show _ = _; rw [HG.out, gap_bad1 hA]; rfl
        rw [hA] at hgA; simp only [grpV, Option.getD_none, Option.isSome_none] at hgA hgB; generalize (⟨((groupsS (s.extract (i + 2) s.size) true).getD []).toArray⟩ : ByteArray) = BS at *; generalize (groupsS (s.extract (i + 2) s.size) true).isSome = BB at *; clear HG hA; go_wp2_with (first | (go_at_call_of 84 (Value.bool false); refine hgA.mono ?_; rintro e w2 ⟨rfl, hb2⟩) | (go_at_call_of 84 (Value.bool true); refine (hgB _).mono ?_; rintro e w3 ⟨rfl, hb3⟩))
        go_ret2; rw [HN.out]
        exact ⟨rfl, Nm.below_two hb2 hb3⟩
      | some a =>
        rw [hA] at hgA
        cases hB : groupsS (s.extract (i + 2) s.size) true with
        | none =>
          have HN : Hid (R = .tuple #[.string ⟨#[]⟩, .int .i64 7]) := by show _ = _; rw [HG.out, gap_bad2 hB]; rfl
          rw [hB] at hgB; simp only [grpV, Option.getD_some, Option.isSome_some, Option.getD_none, Option.isSome_none] at hgA hgB; generalize (⟨a.toArray⟩ : ByteArray) = AS at *; clear HG hA hB; go_wp2_with (first | (go_at_call_of 84 (Value.bool false); refine hgA.mono ?_; rintro e w2 ⟨rfl, hb2⟩) | (go_at_call_of 84 (Value.bool true); refine (hgB _).mono ?_; rintro e w3 ⟨rfl, hb3⟩))
          go_ret2; rw [HN.out]
          exact ⟨rfl, Nm.below_two hb2 hb3⟩
        | some b =>
          rw [hB] at hgB; simp only [grpV, Option.getD_some, Option.isSome_some] at hgA hgB; have zA := arr_size a; have zB := arr_size b
          have lA : a.length ≤ 1000 := by
           have h1 := (groups_even hA).2; have h2 : (s.extract 0 i).size ≤ 100 := by simp; omega
           omega
          have lB : b.length ≤ 1000 := by
           have h1 := (groups_even hB).2; have h2 : (s.extract (i + 2) s.size).size ≤ 100 := by simp; omega
           omega
          by_cases hbig : 14 < a.length + b.length
          · have HN : Hid (R = .tuple #[.string ⟨#[]⟩, .int .i64 7]) := by show _ = _; rw [HG.out, gap_big hA hB hbig]; rfl
            generalize (⟨a.toArray⟩ : ByteArray) = AS at *; generalize (⟨b.toArray⟩ : ByteArray) = BS at *; have hbig' : (14 : Int) < (AS.size : Int) + (BS.size : Int) := by omega
            have hA1 : (AS.size : Int) ≤ 1000 := by omega
            have hB1 : (BS.size : Int) ≤ 1000 := by omega
            clear HG hA hB zA zB; go_wp2_with (first | (go_at_call_of 84 (Value.bool false); refine hgA.mono ?_; rintro e w2 ⟨rfl, hb2⟩) | (go_at_call_of 84 (Value.bool true); refine (hgB _).mono ?_; rintro e w3 ⟨rfl, hb3⟩))
            go_ret2; rw [HN.out]; exact ⟨rfl, Nm.below_two hb2 hb3⟩
          · have HN : Hid (R = .tuple #[.string ⟨(a ++ List.replicate (16 - a.length - b.length) 0 ++ b).toArray⟩, .int .i64 0]) := by show _ = _; rw [HG.out, gap_good hA hB hbig]; rfl
            obtain ⟨AS, HAS⟩ : ∃ X, Hid (X = (⟨a.toArray⟩ : ByteArray)) := ⟨_, rfl⟩; obtain ⟨BS, HBS⟩ : ∃ X, Hid (X = (⟨b.toArray⟩ : ByteArray)) := ⟨_, rfl⟩; rw [← HAS.out] at hgA zA; rw [← HBS.out] at hgB zB; have hbig' : (AS.size : Int) + (BS.size : Int) ≤ 14 := by omega
            have hal : a.length ≤ 14 := by omega
            have hbl : b.length ≤ 14 := by omega
            have hbz : BS.size ≤ 14 := by omega
            have HZA := Nm.hide zA; have HZB := Nm.hide zB; clear HG hA hB zA zB; go_wp2_with (first | (go_at_call_of 84 (Value.bool false); refine hgA.mono ?_; rintro e w2 ⟨rfl, hb2⟩) | (go_at_call_of 84 (Value.bool true); refine (hgB _).mono ?_; rintro e w3 ⟨rfl, hb3⟩))
            go_loop [5] (fun v => ∃ (k : Nat) (X : ByteArray), v = .string X ∧ Hid (X = ⟨(a ++ List.replicate k 0).toArray⟩) ∧ X.size + BS.size ≤ 16 ∧ Hid (X.size = a.length + k)) (fun v => match v with | .string X => 16 - X.size | _ => 0)
            case atStart => exact ⟨0, AS, rfl, by show _ = _; rw [HAS.out]; simp, by omega, by show _ = _; rw [HZA.out]; rfl⟩
            case round =>
             obtain ⟨k, X, rfl, HX, hx16, HXS⟩ := hrel
             by_cases hx : X.size + BS.size < 16
             · have hx' : (X.size : Int) + (BS.size : Int) < 16 := by omega
               have HC : Hid (X ++ ⟨#[0]⟩ = ⟨(a ++ List.replicate (k + 1) 0).toArray⟩) := by
                show _ = _
                rw [HX.out]; apply Nm.ba_ext; simp [List.replicate_succ']
               have hs1 : (X ++ ⟨#[0]⟩).size = X.size + 1 := by rw [ByteArray.size_append]; rfl
               have HS2 : Hid ((X ++ ⟨#[0]⟩ : ByteArray).size = a.length + (k + 1)) := by show _ = _; rw [hs1, HXS.out]; omega
               have ha : ∀ W, (Go.Op.stringOp .add X ⟨#[0]⟩).run Tryz.prog W = .ok (.string (X ++ ⟨#[0]⟩)) W := fun W => run_string_add_sum W _ _ (by show X.size + 1 ≤ _; omega)
               have hle1 : (X ++ ⟨#[0]⟩ : ByteArray).size + BS.size ≤ 16 := by omega
               generalize (X ++ ⟨#[0]⟩ : ByteArray) = Y at *; have hY1 : X.size < Y.size := by omega
               have hY2 : Y.size ≤ 16 := by omega
               clear hs1; go_wp2
               go_round
               case rel => exact ⟨k + 1, Y, rfl, HC, hle1, HS2⟩
               case measure => simp; omega
             · have hx' : (16 : Int) ≤ (X.size : Int) + (BS.size : Int) := by omega
               have hkk : k = 16 - a.length - b.length := by have h1 := HXS.out; have h2 := HZB.out; omega
               have HF : Hid (X ++ BS = ⟨(a ++ List.replicate (16 - a.length - b.length) 0 ++ b).toArray⟩) := by
                show _ = _
                rw [HX.out, HBS.out, cat_string, hkk]
               have ha : ∀ W, (Go.Op.stringOp .add X BS).run Tryz.prog W = .ok (.string (X ++ BS)) W := fun W => run_string_add_sum W _ _ (by omega)
               rw [← HF.out] at HN; generalize (X ++ BS : ByteArray) = Y at *; clear hkk; go_wp2; go_ret2; rw [HN.out]; exact ⟨rfl, Nm.below_two hb2 hb3⟩
  · have hlt' : (s.size : Int) ≤ (i : Int) + 1 := by omega
    have HG := Nm.hide (HNONE.out i HD.out (by omega)); have hg := l03Groups_any s true w (by omega); clear HD HHIT HNONE
    cases hO : groupsS s true with
    | none =>
      have HN : Hid (R = .tuple #[.string ⟨#[]⟩, .int .i64 7]) := by show _ = _; rw [HG.out, whole_bad hO]; rfl
      rw [hO] at hg; simp only [grpV, Option.getD_none, Option.isSome_none] at hg; clear HG hO; go_wp2_with (go_at_call 84; refine hg.mono ?_; rintro e w2 ⟨rfl, hb2⟩)
      go_ret2; rw [HN.out]
      exact ⟨rfl, hb2⟩
    | some o =>
      rw [hO] at hg; simp only [grpV, Option.getD_some, Option.isSome_some] at hg; have zO := arr_size o
      by_cases h16 : o.length = 16
      · have HN : Hid (R = .tuple #[.string ⟨o.toArray⟩, .int .i64 0]) := by show _ = _; rw [HG.out, whole_good hO h16]; rfl
        generalize (⟨o.toArray⟩ : ByteArray) = OS at *; have hne : ((OS.size : Int) != 16) = false := by simp; omega
        clear HG hO zO; go_wp2_with (go_at_call 84; refine hg.mono ?_; rintro e w2 ⟨rfl, hb2⟩)
        go_ret2; rw [HN.out]; exact ⟨rfl, hb2⟩
      · have HN : Hid (R = .tuple #[.string ⟨#[]⟩, .int .i64 7]) := by show _ = _; rw [HG.out, whole_len hO h16]; rfl
        generalize (⟨o.toArray⟩ : ByteArray) = OS at *; have hne : ((OS.size : Int) == 16) = false := by rw [beq_eq_false_iff_ne]; omega
        clear HG hO zO; go_wp2_with (go_at_call 84; refine hg.mono ?_; rintro e w2 ⟨rfl, hb2⟩)
        go_ret2; rw [HN.out]; exact ⟨rfl, hb2⟩
end Go.Proofs.YtddabafaejahbaaGreatDoor
/- impl.nameSize by its contract. -/
namespace Go.Proofs.YtddabafaejahbaaGreatDoor
open Go.RowKit
/-- A size and whether there is one, as Go tells them. -/
def szV (o : Option Nat) : Value := .tuple #[.int .i64 ((o.getD 0 : Nat) : Int), .bool o.isSome]
theorem nsz_none {s : ByteArray} {i : Nat} (h : Dt.nameAtS s = Dt.nameF 256 s i) (h1 : Dt.nameF 256 s i = ByteArray.empty) : szV (Dt.sz .nm s) = .tuple #[.int .i64 0, .bool false] := by
 have : (Dt.nameAtS s).size = 0 := by rw [h, h1]; rfl
 rw [Dt.sz, if_pos this]; rfl
theorem nsz_zero {s : ByteArray} {i : Nat} (h : Dt.nameAtS s = Dt.nameF 256 s i) (h1 : i < s.size) (h2 : i < 255) (h0 : s[i].toNat = 0) : szV (Dt.sz .nm s) = .tuple #[.int .i64 ((i : Int) + 1), .bool true] := by
 have e : Dt.nameF 256 s i = s.extract 0 (i + 1) := by rw [Dt.nameF, dif_pos ⟨h1, h2⟩, if_pos h0]
 have e1 : (Dt.nameAtS s).size = i + 1 := by rw [h, e]; simp; omega
 rw [Dt.sz, if_neg (by omega), e1]; rfl
theorem nsz_step {s : ByteArray} {i : Nat} (h : Dt.nameAtS s = Dt.nameF 256 s i) (h1 : i < s.size) (h2 : i < 255) (h0 : s[i].toNat ≠ 0) (h3 : s[i].toNat ≤ 63) : Dt.nameAtS s = Dt.nameF 256 s (i + (1 + s[i].toNat)) := by
 rw [h, Dt.nameF, dif_pos ⟨h1, h2⟩, if_neg h0, if_neg (by omega), show i + s[i].toNat + 1 = i + (1 + s[i].toNat) by omega]; exact Dt.nameF_enough _ _ _ _ (by omega) (by omega)
theorem nsz_big {s : ByteArray} {i : Nat} (h1 : i < s.size) (h2 : i < 255) (h0 : 63 < s[i].toNat) : Dt.nameF 256 s i = ByteArray.empty := by
 rw [Dt.nameF, dif_pos ⟨h1, h2⟩, if_neg (by omega), if_pos h0]
theorem nsz_end {s : ByteArray} {i : Nat} (h : ¬ (i < s.size ∧ i < 255)) : Dt.nameF 256 s i = ByteArray.empty := by
 rw [Dt.nameF, dif_neg h]
set_option maxRecDepth 100000 in
set_option maxHeartbeats 800000 in
theorem nameSize_any (s : ByteArray) (w : World) :
 Calls Tryz.prog 49 #[.string s] w fun e w' => e = .returned (szV (Dt.sz .nm s)) ∧ w' = w := by
 have H0 : Dt.nameAtS s = Dt.nameF 256 s 0 := rfl; go_enter Tryz.func49, Tryz.ntmps49; go_wp2
 go_loop [4] (fun v => ∃ i : Nat, i < 255 ∧ v = .int .i64 i ∧ Dt.nameAtS s = Dt.nameF 256 s i) (fun v => 400 - (intOf v).toNat)
 case atStart => exact ⟨0, by omega, rfl, H0⟩
 case round =>
  obtain ⟨i, hi, rfl, hn⟩ := hrel; clear H0
  by_cases h1 : i < s.size
  · have h1' : (i : Int) < (s.size : Int) := by omega
    have hc : (s[i].toNat : Int) < 256 := by have := s[i].toNat_lt; omega
    by_cases h3 : s[i].toNat = 0
    · have HN := Nm.hide (nsz_zero hn h1 hi h3); have h3' : ((s[i].toNat : Int) == 0) = true := by rw [beq_iff_eq]; omega
      clear hn h3; go_wp2; go_ret2; rw [HN.out]; exact ⟨rfl, rfl⟩
    · have h3' : ((s[i].toNat : Int) == 0) = false := by rw [beq_eq_false_iff_ne]; omega
      have h3'' : (0 : Int) < (s[i].toNat : Int) := by omega
      by_cases h4 : 63 < s[i].toNat
      · have HN := Nm.hide (nsz_none hn (nsz_big h1 hi h4)); have h4' : (63 : Int) < (s[i].toNat : Int) := by omega
        clear hn h3; go_wp2_with (go_at_call 89; go_in)
        go_ret2; rw [HN.out]; exact ⟨rfl, rfl⟩
      · have h4' : (s[i].toNat : Int) ≤ 63 := by omega
        have hst := nsz_step hn h1 hi h3 (by omega)
        by_cases h5 : 255 ≤ i + (1 + s[i].toNat)
        · have HN := Nm.hide (nsz_none hst (nsz_end (by omega))); have h5' : (255 : Int) ≤ (i : Int) + (1 + (s[i].toNat : Int)) := by omega
          clear hn h3 hst; go_wp2_with (go_at_call 89; go_in)
          go_ret2; rw [HN.out]; exact ⟨rfl, rfl⟩
        · have HN := Nm.hide hst; have h5' : (i : Int) + (1 + (s[i].toNat : Int)) < 255 := by omega
          clear hn h3 hst; go_wp2_with (go_at_call 89; go_in)
          go_round
          case rel => exact ⟨i + (1 + s[i].toNat), by omega, by go_num, HN.out⟩
          case measure => simp [intOf]; omega
  · have HN := Nm.hide (nsz_none hn (nsz_end (by omega))); have h1' : (s.size : Int) ≤ (i : Int) := by omega
    clear hn; go_wp2; go_ret2; rw [HN.out]; exact ⟨rfl, rfl⟩
end Go.Proofs.YtddabafaejahbaaGreatDoor
/- impl.NameOK by its contract. -/
namespace Go.Proofs.YtddabafaejahbaaGreatDoor
open Go.RowKit
theorem nok_true {s : ByteArray} (h : (Nm.split s).isSome = true) : Dt.sz .nm s = some s.size := by
 obtain ⟨h1, h2⟩ := (Dt.name_iff s).1 h; rw [Dt.sz, if_neg h1, h2]
theorem nok_false {s : ByteArray} (h : (Nm.split s).isSome = false) : Dt.sz .nm s = none ∨ ∃ n, Dt.sz .nm s = some n ∧ n ≠ s.size := by
 by_cases h0 : (Dt.nameAtS s).size = 0
 · left; rw [Dt.sz, if_pos h0]
 · right; refine ⟨_, by rw [Dt.sz, if_neg h0], ?_⟩; intro e; rw [(Dt.name_iff s).2 ⟨h0, e⟩] at h; simp at h
set_option maxRecDepth 100000 in
set_option maxHeartbeats 400000 in
theorem implNameOK_same (s : ByteArray) (w : World) :
 Calls Tryz.prog 24 #[.string s] w fun e w' => e = .returned (.bool (Nm.split s).isSome) ∧ w' = w := by
 have hcall := nameSize_any s
 cases hq : (Nm.split s).isSome with
 | true =>
   rw [nok_true hq] at hcall; simp only [szV, Option.getD_some, Option.isSome_some] at hcall; clear hq; go_enter Tryz.func24, Tryz.ntmps24; go_wp2_with (go_at_call 49; refine (hcall _).mono ?_; rintro e w1 ⟨rfl, rfl⟩)
   go_ret
   exact ⟨rfl, rfl⟩
 | false =>
   rcases nok_false hq with h | ⟨n, h, hn⟩
   · rw [h] at hcall; simp only [szV, Option.getD_none, Option.isSome_none] at hcall; clear hq h; go_enter Tryz.func24, Tryz.ntmps24; go_wp2_with (go_at_call 49; refine (hcall _).mono ?_; rintro e w1 ⟨rfl, rfl⟩)
     go_ret; exact ⟨rfl, rfl⟩
   · rw [h] at hcall; simp only [szV, Option.getD_some, Option.isSome_some] at hcall; have hb : ((n : Int) == (s.size : Int)) = false := by rw [beq_eq_false_iff_ne]; omega
     have hb2 : (n == s.size) = false := by rw [beq_eq_false_iff_ne]; omega
     clear hq h; go_enter Tryz.func24, Tryz.ntmps24; go_wp2_with (go_at_call 49; refine (hcall _).mono ?_; rintro e w1 ⟨rfl, rfl⟩)
     go_ret; exact ⟨rfl, rfl⟩
theorem implNameOK_any (s : ByteArray) (w : World) (_ : s.size ≤ maxLen) :
 Calls Tryz.prog 24 #[.string s] w fun e w' => e = .returned (.bool (Nm.split s).isSome) ∧ Below w.heap.size w w' := by
 refine (implNameOK_same s w).mono ?_; rintro e w' ⟨rfl, rfl⟩; exact ⟨rfl, Below.refl _ _⟩
end Go.Proofs.YtddabafaejahbaaGreatDoor
/- impl.splitName by its contract. -/
namespace Go.Proofs.YtddabafaejahbaaGreatDoor
open Go.RowKit
set_option maxRecDepth 100000 in
set_option maxHeartbeats 800000 in
theorem splitName_any (s : ByteArray) (w : World) (_ : s.size ≤ maxLen) :
 Calls Tryz.prog 158 #[.string s] w fun e w' => ∃ v, e = .returned (.tuple #[v, .bool (Nm.split s).isSome]) ∧
  w'.ownsRow w.heap.size 9 1 v ((Nm.split s).getD []).length (((Nm.split s).getD []).map Value.string) ∧ Below w.heap.size w w' := by
 obtain ⟨i0, hi, hz0, hz1, hz2⟩ := info_parts Tryz.infoStr; have hcall := implNameOK_same s
 cases hq : Nm.split s with
 | none =>
   rw [hq] at hcall; simp only [Option.isSome_none] at hcall; clear hq; go_enter Tryz.func158, Tryz.ntmps158; go_wp2_with (go_at_call 24; refine (hcall _).mono ?_; rintro e w1 ⟨rfl, hw⟩; obtain rfl : w = w1 := hw.symm; clear hw)
   go_ret2
   exact ⟨_, rfl, World.ownsRow_nil _ _ _ _, Below.refl _ _⟩
 | some L =>
   have hz := Nm.split_size hq; have hst := Nm.at_start s hz.2; have HQ := Nm.hide hq; rw [hq] at hcall; simp only [Option.isSome_some] at hcall; clear hq; have hz2' := hz.2; clear hz; go_enter Tryz.func158, Tryz.ntmps158; go_wp2_with (go_at_call 24; refine (hcall _).mono ?_; rintro e w1 ⟨rfl, hw⟩; obtain rfl : w = w1 := hw.symm; clear hw)
   go_loopw [4, 5] (fun v x wr => ∃ (ls : List ByteArray) (r : ByteArray), x = .string r ∧ Nm.At s ls r ∧ ls.length + r.size ≤ 255 ∧ wr.ownsRow w.heap.size 9 1 v ls.length (ls.map Value.string) ∧ Below w.heap.size w wr)
    (fun _ x _ => match x with | .string r => r.size | _ => 0)
   case atStart => exact ⟨[], s, rfl, hst, by simp; omega, World.ownsRow_nil _ _ _ _, Below.refl _ _⟩
   case round =>
    obtain ⟨ls, r, rfl, hat, hb, hown, hbel⟩ := hrel; clear hst; have hq := HQ.out
    by_cases h0 : r.size = 0
    · rw [Nm.at_empty hat h0] at hq; simp at hq
    · have hp : 0 < r.size := by omega
      have hn : (r[0].toNat : Int) < 256 := by have := r[0].toNat_lt; omega
      by_cases h1 : r.size = 1 ∧ r[0].toNat = 0
      · have hL : L = ls := by
         have := Nm.at_end hat hp h1.2 h1.1; rw [hq] at this; simpa using this
        have e1 := Nm.tl_one hp h1.1 h1.2; have e1' : (r.toList != [0]) = false := by rw [bne, e1]; rfl
        clear h1 hq HQ; go_wp2; go_ret2; rw [hL]; exact ⟨_, rfl, hown, hbel⟩
      · have e1 := Nm.tl_not_one hp h1; have e1' : (r.toList != [0]) = true := by rw [bne, e1]; rfl
        by_cases h2 : r[0].toNat = 0
        · rw [Nm.at_zero hat hp h2 (fun h => h1 ⟨h, h2⟩)] at hq; simp at hq
        · by_cases h3 : 63 < r[0].toNat ∨ r.size < r[0].toNat + 1
          · rw [Nm.at_bad hat hp h2 h3] at hq; simp at hq
          · have e4 : (r[0].toNat : Int) ≤ 63 := by omega
            have e5 : (r[0].toNat : Int) + 1 ≤ (r.size : Int) := by omega
            have e5' : 1 + r[0].toNat ≤ r.size := by omega
            have hi0 : (0 : Int) < (r.size : Int) := by omega
            have HN : Hid (Nm.At s (ls ++ [r.extract 1 (r[0].toNat + 1)]) (r.extract (r[0].toNat + 1) r.size)) := Nm.at_step hat hp h2 (by omega) (by omega); have hsz := hbel.size; clear h2 h1 h0 h3 hq HQ; go_wp2_with (at_builtin; refine wpList_append_own _ rfl (.tmp 16) (.tmp 21) 200 rfl w.heap.size 9 i0 (.string ByteArray.empty) 1 16 Tryz.underlying200 hi hz0 hz1 hz2 rfl (by decide) _ _ _ rfl (hown.alloc _) ⟨wr.heap.size, 0, none⟩ 1 1 [.string (r.extract 1 (1 + r[0].toNat))] rfl rfl (cell_new1 _ _ _) (Nm.one_cell _ rfl) (by unfold maxLen; omega) (by omega) (by simp; omega) ?_)
            intro v' w1 hown' hgrow _; have R := own_step hsz hown hbel _ hown' hgrow; clear hown' hgrow hown hbel; go_wp2; go_roundw
            case rel => exact ⟨_, _, rfl, by simpa [Nat.add_comm] using HN.out, by simp; omega, R.1, R.2⟩
            case measure => simp; omega
end Go.Proofs.YtddabafaejahbaaGreatDoor
/- Rows of the call's own, side by side. -/
namespace Go.Proofs.YtddabafaejahbaaGreatDoor
open Go.RowKit
theorem Tryz.infoU8r : (Tryz.prog.info? 5).map (fun i => (i.zero, i.size, i.bytes)) = some (some (.int .u8 0), 1, 1) := by kernel_rfl
theorem owns_apart {w w1 : World} {B e e' n n' : Nat} {v u : Value} {xs ys : List Value} (h : w.ownsRow B e 1 v n xs) (h' : w.ownsRow B e' 1 u n' ys) (hne : e ≠ e') (hg : w.grownBy w1 u.ownBlock) : w1.ownsRow B e 1 v n xs := by
 refine h.kept hg ?_
 rcases h.2 with ⟨rfl, _⟩ | ⟨g, cap, cur, rfl, _, hh, _⟩
 · exact .inl rfl
 · right
   rcases h'.2 with ⟨rfl, _⟩ | ⟨g', cap', cur', rfl, _, hh', _⟩
   · simp [Value.ownBlock]
   · simp only [Value.ownBlock, ne_eq, Option.some.injEq]; intro e2; subst e2; rw [hh] at hh'; simp at hh'; exact hne hh'.2
theorem owns_shape {w : World} {B e n : Nat} {v : Value} {xs : List Value} (h : w.ownsRow B e 1 v n xs) : ∃ a cap, v = .slice a n cap := by
 rcases h.2 with ⟨rfl, rfl⟩ | ⟨g, cap, cur, rfl, _⟩
 · exact ⟨_, _, rfl⟩
 · exact ⟨_, _, rfl⟩
theorem grow1 (w : World) (o : Obj) : w.heap.size ≤ (w.alloc o).heap.size := ((Below.refl w.heap.size w).alloc (Nat.le_refl _) o).size
theorem made2 (w : World) (o : Obj) (e : Nat) : ((w.alloc o).alloc (.cells #[] e)).ownsRow w.heap.size e 1 (.slice (some ⟨w.heap.size + 1, 0, none⟩) 0 0) 0 [] := by
 have h : (w.alloc o).heap.size = w.heap.size + 1 := by simp
 rw [← h]; exact World.ownsRow_made (w.alloc o) #[] 0 (grow1 w o) (by decide) rfl
theorem owns_bel {w w' : World} {B e n : Nat} {v : Value} {xs : List Value} (h : w.ownsRow B e 1 v n xs) (hb : Below w.heap.size w w') : w'.ownsRow B e 1 v n xs := by
 refine ⟨h.1, ?_⟩
 rcases h.2 with h0 | ⟨g, cap, cur, h1, h2, h3, h4⟩
 · exact .inl h0
 · exact .inr ⟨g, cap, cur, h1, h2, by rw [hb.block g (Array.getElem?_eq_some_iff.1 h3).1]; exact h3, h4⟩
theorem owns_base {w : World} {B B' e n : Nat} {v : Value} {xs : List Value} (h : w.ownsRow B e 1 v n xs) (hB : B' ≤ B) : w.ownsRow B' e 1 v n xs := by
 refine ⟨h.1, ?_⟩
 rcases h.2 with h0 | ⟨g, cap, cur, h1, h2, h3⟩
 · exact .inl h0
 · exact .inr ⟨g, cap, cur, h1, Nat.le_trans hB h2, h3⟩
theorem u8_ne {c : UInt8} {n : Nat} (hn : n < 256) (h : c ≠ UInt8.ofNat n) : ((c.toNat : Int) == (n : Int)) = false := by
 rw [beq_eq_false_iff_ne]; intro e; apply h; apply UInt8.toNat_inj.1; simp
 omega
theorem extract_drop (s : ByteArray) (k : Nat) : (s.extract k s.size).data.toList = s.data.toList.drop k := by
 simp only [ByteArray.data_extract, Array.toList_extract]; rw [List.extract_eq_take_drop, List.take_of_length_le (by simp)]
end Go.Proofs.YtddabafaejahbaaGreatDoor
/- spec.l01Read by its contract. -/
namespace Go.Proofs.YtddabafaejahbaaGreatDoor
open Go.RowKit
set_option maxRecDepth 100000 in
set_option maxHeartbeats 1600000 in
theorem l01Read_any (s : ByteArray) (w : World) (hs : s.size ≤ 1100) :
 Calls Tryz.prog 85 #[.string s] w fun e w' => ∃ v, e = .returned (.tuple #[v, .bool (Nm.scanS s).2.1, .int .i64 (Nm.scanS s).2.2]) ∧
  w'.ownsRow w.heap.size 9 1 v (Nm.scanS s).1.length ((Nm.scanS s).1.map Value.string) ∧ Below w.heap.size w w' := by
 obtain ⟨i0, hi, hz0, hz1, hz2⟩ := info_parts Tryz.infoStr; obtain ⟨j0, hj, k0, k1, k2⟩ := info_parts Tryz.infoU8r; have hst := Nm.sc_start s; generalize hR : Nm.scanS s = R at *; have HR := Nm.hide hR; clear hR; go_enter Tryz.func85, Tryz.ntmps85; go_wp2
 go_loopw [5, 6, 7, 8] (fun vo vn op i wr => ∃ (k : Nat) (now : List UInt8) (done : List ByteArray) (st : Bool), i = .int .i64 k ∧ op = .bool (!st) ∧ wr.ownsRow w.heap.size 9 1 vo done.length (done.map Value.string) ∧ wr.ownsRow w.heap.size 5 1 vn now.length (Nm.bys now) ∧ Nm.ScAt s st k now done ∧ done.length + now.length ≤ k ∧ Below w.heap.size w wr)
  (fun _ _ _ i _ => s.size - (intOf i).toNat)
 case atStart => exact ⟨0, [], [], false, rfl, rfl, (World.ownsRow_made w #[] 0 (Nat.le_refl _) (by decide) rfl).alloc _, made2 w _ _, hst, by simp, ((Below.refl _ _).alloc (Nat.le_refl _) _).alloc (grow1 w _) _⟩
 case round =>
  obtain ⟨k, now, done, st, rfl, rfl, hro, hrn, hat, hbd, hbel⟩ := hrel; have hks := hat.1; have hsz := hbel.size; clear hst
  by_cases hlt : k < s.size
  · have hcl : (s[k].toNat : Int) < 256 := by have := s[k].toNat_lt; omega
    by_cases hdot : s[k] = 46
    · have e1 : ((s[k].toNat : Int) == 46) = true := by rw [hdot]; rfl
      obtain ⟨a6, cap6, rfl⟩ := owns_shape hrn
      by_cases hf : 1 ≤ now.length ∧ now.length ≤ 63
      · have HN := Nm.hide (Nm.sc_dot hat hlt hdot (Nm.fits_yes hf.1 hf.2)); have d1 : decide ((now.length : Int) < 1) = false := by simp; omega
        have d2 : decide ((63 : Int) < (now.length : Int)) = false := by simp; omega
        obtain ⟨g6, cp6, ev, hcv⟩ := Nm.conv_own (P := Tryz.prog) Tryz.underlying87 Tryz.underlying5 Tryz.underlying9 hrn (by omega); simp only [Value.slice.injEq, true_and] at ev; obtain ⟨rfl, rfl⟩ := ev; have hnl : now.length ≤ 63 := hf.2; clear hat hdot hf hrn; go_wp2_with (at_builtin; refine wpList_append_own _ rfl (.tmp 32) (.tmp 35) 82 rfl w.heap.size 9 i0 (.string ByteArray.empty) 1 16 Tryz.underlying82 hi hz0 hz1 hz2 rfl (by decide) _ _ _ rfl (hro.alloc _) ⟨wr.heap.size, 0, none⟩ 1 1 [.string ⟨now.toArray⟩] rfl rfl (cell_one_new _ _ _) (Nm.one_cell _ rfl) (by unfold maxLen; omega) (by omega) (by simp; omega) ?_; intro v' w5 hown' hgrow hnl'; clear hnl'; have RR := own_step hsz hro hbel _ hown' hgrow; clear hown' hgrow)
        go_roundw
        case rel => exact ⟨k + 1, [], _, true, by go_num, rfl, RR.1.alloc _, World.ownsRow_made w5 #[] 0 RR.2.size (by decide) rfl, HN.out, by simp; omega, RR.2.alloc RR.2.size _⟩
        case measure => simp [intOf]; omega
      · have e : R = ([], false, 2) := HR.out.symm.trans (Nm.sc_dot_bad hat hlt hdot (Nm.fits_no hf)); subst e
        by_cases hlow : now.length < 1
        · have d1 : decide ((now.length : Int) < 1) = true := by simp; omega
          clear hat hdot hf hrn hro; go_wp2; go_ret3; exact ⟨_, rfl, World.ownsRow_nil _ _ _ _, hbel⟩
        · have d1 : decide ((now.length : Int) < 1) = false := by simp; omega
          have d2 : decide ((63 : Int) < (now.length : Int)) = true := by simp; omega
          clear hat hdot hf hrn hro; go_wp2; go_ret3; exact ⟨_, rfl, World.ownsRow_nil _ _ _ _, hbel⟩
    · have e1 : ((s[k].toNat : Int) == 46) = false := u8_ne (by decide) hdot
      by_cases hesc : s[k] = 92
      · have e2 : ((s[k].toNat : Int) == 92) = true := by rw [hesc]; rfl
        have hes := fun r hr W => l01Escape_any (s.extract (k + 1) s.size) r W hr (by simp; omega)
        rw [extract_drop] at hes
        cases hr : Nm.escF (s.data.toList.drop (k + 1)) with
        | none =>
          have e : R = ([], false, 4) := HR.out.symm.trans (Nm.sc_esc_bad hat hlt hesc hr); subst e; have he := hes none (Nm.hide hr) wr; clear hes hat hdot hesc hr hrn hro; go_wp2_with (go_at_call 88; refine he.mono ?_; rintro e w3 ⟨rfl, m, hw3⟩; have hb3 : Below wr.heap.size wr w3 := (by rw [hw3]; exact Go.below_drewN (Below.refl _ _) m); clear hw3)
          go_ret3
          exact ⟨_, rfl, World.ownsRow_nil _ _ _ _, hbel.trans (hb3.mono hsz)⟩
        | some bn =>
          obtain ⟨b, n⟩ := bn; have hln := Nm.esc_len hr; simp only [List.length_drop, Array.length_toList, ByteArray.size_data] at hln; have HN := Nm.hide (Nm.sc_esc hat hlt hesc hr); have he := hes (some (b, n)) (Nm.hide hr) wr; have hb256 : (b.toNat : Int) < 256 := by have := b.toNat_lt; omega
          have hnz : ((n : Int) == 0) = false := by rw [beq_eq_false_iff_ne]; omega
          simp only [escB, escN] at he; clear hes hat hdot hesc hr; go_wp2_with (first | (go_at_call 88; refine he.mono ?_; rintro e w3 ⟨rfl, m, hw3⟩; have hb3 : Below wr.heap.size wr w3 := (by rw [hw3]; exact Go.below_drewN (Below.refl _ _) m); clear hw3; have hro3 := owns_bel hro hb3; have hrn3 := owns_bel hrn hb3; have hbel3 := hbel.trans (hb3.mono hsz); have hsz3 := hbel3.size) | (at_builtin; refine wpList_append_own _ rfl (.tmp 57) (.tmp 59) 87 rfl w.heap.size 5 j0 (.int .u8 0) 1 1 Tryz.underlying87 hj k0 k1 k2 rfl (by decide) _ _ _ rfl (hrn3.alloc _) ⟨w3.heap.size, 0, none⟩ 1 1 [.int .u8 (b.toNat : Int)] rfl rfl (cell_one_new _ _ _) (Nm.one_cell _ rfl) (by unfold maxLen; omega) (by omega) (by simp; omega) ?_; intro vb wb hown2 hgrow2 hnl2; clear hnl2; have RO := owns_apart (hro3.alloc _) (hrn3.alloc _) (by decide) hgrow2; have R2 := Nm.bys_step (x := [b]) (by simp; omega) (hrn3.alloc _) (hbel3.alloc hsz3 _) hown2 hgrow2; clear hown2 hgrow2))
          go_roundw
          case rel => exact ⟨k + 1 + n, _, _, false, by go_num, rfl, RO, by simpa using R2.1, HN.out, by simp; omega, R2.2⟩
          case measure => simp [intOf]; omega
      · have e2 : ((s[k].toNat : Int) == 92) = false := u8_ne (by decide) hesc; have HN := Nm.hide (Nm.sc_plain hat hlt hdot hesc); clear hat hdot hesc; go_wp2_with (at_builtin; refine wpList_append_own _ rfl (.tmp 57) (.tmp 59) 87 rfl w.heap.size 5 j0 (.int .u8 0) 1 1 Tryz.underlying87 hj k0 k1 k2 rfl (by decide) _ _ _ rfl (hrn.alloc _) ⟨wr.heap.size, 0, none⟩ 1 1 [.int .u8 (s[k].toNat : Int)] rfl rfl (cell_one_new _ _ _) (Nm.one_cell _ rfl) (by unfold maxLen; omega) (by omega) (by simp; omega) ?_; intro vb wb hown2 hgrow2 hnl2; clear hnl2; have RO := owns_apart (hro.alloc _) (hrn.alloc _) (by decide) hgrow2; have R2 := Nm.bys_step (x := [s[k]]) (by simp; omega) (hrn.alloc _) (hbel.alloc hsz _) hown2 hgrow2; clear hown2 hgrow2)
        go_roundw
        case rel => exact ⟨k + 1, _, _, false, by go_num, rfl, RO, by simpa using R2.1, HN.out, by simp; omega, R2.2⟩
        case measure => simp [intOf]; omega
  · have hke : k = s.size := by omega
    subst hke
    cases st with
    | true =>
      have e : R = (done, true, 0) := HR.out.symm.trans (Nm.sc_abs hat rfl); subst e; clear hat hrn; go_wp2; go_ret3
      exact ⟨_, rfl, hro, hbel⟩
    | false =>
      obtain ⟨a6, cap6, rfl⟩ := owns_shape hrn
      by_cases hf : 1 ≤ now.length ∧ now.length ≤ 63
      · have e : R = (done ++ [⟨now.toArray⟩], false, 0) := HR.out.symm.trans (Nm.sc_rel hat rfl (Nm.fits_yes hf.1 hf.2)); subst e; have d1 : decide ((now.length : Int) < 1) = false := by simp; omega
        have d2 : decide ((63 : Int) < (now.length : Int)) = false := by simp; omega
        obtain ⟨g6, cp6, ev, hcv⟩ := Nm.conv_own (P := Tryz.prog) Tryz.underlying87 Tryz.underlying5 Tryz.underlying9 hrn (by omega); simp only [Value.slice.injEq, true_and] at ev; obtain ⟨rfl, rfl⟩ := ev; have hnl : now.length ≤ 63 := hf.2; clear hat hf hrn; go_wp2_with (at_builtin; refine wpList_append_own _ rfl (.tmp 72) (.tmp 75) 82 rfl w.heap.size 9 i0 (.string ByteArray.empty) 1 16 Tryz.underlying82 hi hz0 hz1 hz2 rfl (by decide) _ _ _ rfl (hro.alloc _) ⟨wr.heap.size, 0, none⟩ 1 1 [.string ⟨now.toArray⟩] rfl rfl (cell_one_new _ _ _) (Nm.one_cell _ rfl) (by unfold maxLen; omega) (by omega) (by simp; omega) ?_; intro v' w5 hown' hgrow hnl'; clear hnl'; have RR := own_step hsz hro hbel _ hown' hgrow; clear hown' hgrow)
        go_ret3; exact ⟨_, rfl, by simpa using RR.1, RR.2⟩
      · have e : R = ([], false, 2) := HR.out.symm.trans (Nm.sc_rel_bad hat rfl (Nm.fits_no hf)); subst e
        by_cases hlow : now.length < 1
        · have d1 : decide ((now.length : Int) < 1) = true := by simp; omega
          clear hat hf hrn hro; go_wp2; go_ret3; exact ⟨_, rfl, World.ownsRow_nil _ _ _ _, hbel⟩
        · have d1 : decide ((now.length : Int) < 1) = false := by simp; omega
          have d2 : decide ((63 : Int) < (now.length : Int)) = true := by simp; omega
          clear hat hf hrn hro; go_wp2; go_ret3; exact ⟨_, rfl, World.ownsRow_nil _ _ _ _, hbel⟩
end Go.Proofs.YtddabafaejahbaaGreatDoor
/- spec.l01Join by its contract. -/
namespace Go.Proofs.YtddabafaejahbaaGreatDoor
open Go.RowKit
set_option maxRecDepth 100000 in
set_option maxHeartbeats 800000 in
theorem l01Join_any (v : Value) (ls : List ByteArray) (w : World) (h : Nm.SRow w v ls) (hlen : Nm.wsum ls ≤ 1000000000) :
 Calls Tryz.prog 152 #[v] w fun e w' => e = .returned (.string ⟨(Nm.joinL ls).toArray⟩) ∧ Below w.heap.size w w' := by
 obtain ⟨a, cap, rfl, hcap, hmx, hnl, hc⟩ := h; have hll := Nm.length_le_wsum ls; go_enter Tryz.func152, Tryz.ntmps152; go_wp2
 go_loopw [3, 4] (fun t i wr => ∃ (k : Nat) (s : ByteArray), k ≤ ls.length ∧ i = .int .i64 k ∧ t = .string s ∧ Hid (s.data.toList = Nm.preL (ls.take k)) ∧ Below w.heap.size w wr)
  (fun _ i _ => ls.length - (intOf i).toNat)
 case atStart => exact ⟨0, _, Nat.zero_le _, rfl, rfl, rfl, Below.refl _ _⟩
 case round =>
  obtain ⟨k, s, hk, rfl, rfl, HS, hbel⟩ := hrel; have hw := Nm.wsum_take_le ls k; have hsz := hbel.size; have hss : s.size = Nm.wsum (ls.take k) := by rw [← size_list, HS.out, Nm.preL_length]
  have hss' : s.size ≤ 1000000000 := by omega
  by_cases hlt : k < ls.length
  · obtain ⟨x, hx⟩ : ∃ x, ls[k]? = some x := ⟨_, List.getElem?_eq_getElem hlt⟩; obtain ⟨b, off, rfl, hcell⟩ := hc (by intro h; rw [h] at hlt; simp at hlt); have hbk : b < wr.heap.size := Nat.lt_of_lt_of_le (World.block_lt_of_cell? w _ (hcell k x hx)) hsz; have hcx : wr.cell? ⟨b, off + k, none⟩ = some (.string x) := (hbel.cell (World.block_lt_of_cell? w _ (hcell k x hx))).trans (hcell k x hx); have HP : Hid (Nm.preL (ls.take (k + 1)) = Nm.preL (ls.take k) ++ (UInt8.ofNat x.size :: x.data.toList)) := Nm.preL_step hx
    have hw1 : s.size + (1 + x.size) ≤ 1000000000 := by
     have h1 := Nm.wsum_step hx; have h2 := Nm.wsum_take_le ls (k + 1); omega
    have hcv := fun n => conv_one_drew n wr
    clear hx hcell hc hnl hss hw; go_wp2; go_region
    all_goals
     go_wp2; go_roundw
     case rel => exact ⟨k + 1, _, by omega, by go_num, rfl, by show _ = _; rw [HP.out, ← HS.out]; simp [byte_mod], (hbel.alloc hsz _).drew⟩
     case measure => simp [intOf]; omega
  · have hkl : k = ls.length := by omega
    subst hkl; rw [List.take_length] at HS; clear hc hnl hw hlt hss; have hone : (ByteArray.mk #[0]).size = 1 := rfl; go_wp2; go_ret; exact ⟨ret_str (ba_ext (by simp [Nm.joinL, HS.out])), hbel⟩
end Go.Proofs.YtddabafaejahbaaGreatDoor
/- spec.MakeName by its contract. -/
namespace Go.Proofs.YtddabafaejahbaaGreatDoor
open Go.RowKit
set_option maxRecDepth 100000 in
set_option maxHeartbeats 800000 in
theorem specMakeName_any (v : Value) (ls : List ByteArray) (w : World) (h : Nm.SRow w v ls) :
 Calls Tryz.prog 86 #[v] w fun e w' => e = .returned (.tuple #[.string (makeS ls).1, .int .i64 (makeS ls).2]) ∧ Below w.heap.size w w' := by
 have hjoin := fun hq => l01Join_any v ls w h hq
 obtain ⟨a, cap, rfl, hcap, hmx, hnl, hc⟩ := h; unfold maxLen at hmx
 by_cases hm : 127 < ls.length
 · have HM : Hid (makeS ls = (ByteArray.empty, 3)) := make_many hm; have hm' : (127 : Int) < (ls.length : Int) := by omega
   clear hjoin; go_enter Tryz.func86, Tryz.ntmps86; go_wp2; go_ret2; rw [HM.out]; exact ⟨rfl, Below.refl _ _⟩
 · have hm' : (ls.length : Int) ≤ 127 := by omega
   go_enter Tryz.func86, Tryz.ntmps86; go_wp2
   go_loop [4] (fun i => ∃ k : Nat, k ≤ ls.length ∧ i = .int .i64 k ∧ Hid ((ls.take k).any badB = false)) (fun i => ls.length - (intOf i).toNat)
   case atStart => exact ⟨0, Nat.zero_le _, rfl, by show _ = _; simp⟩
   case round =>
    obtain ⟨k, hk, rfl, HG⟩ := hrel
    by_cases hlt : k < ls.length
    · obtain ⟨x, hx⟩ : ∃ x, ls[k]? = some x := ⟨_, List.getElem?_eq_getElem hlt⟩; obtain ⟨b, off, rfl, hcell⟩ := hc (by intro h; rw [h] at hlt; simp at hlt); have hcx := hcell k x hx
      by_cases hb : x.size < 1 ∨ 63 < x.size
      · have HM : Hid (makeS ls = (ByteArray.empty, 2)) := make_bad (by omega) (any_bad hx hb); clear hx hcell hc hjoin
        by_cases hb1 : x.size < 1
        · have h1 : decide ((x.size : Int) < 1) = true := by simp; omega
          clear hb; go_wp2; go_ret2; rw [HM.out]; exact ⟨rfl, Below.refl _ _⟩
        · have h1 : decide ((x.size : Int) < 1) = false := by simp; omega
          have h2 : decide ((63 : Int) < (x.size : Int)) = true := by simp; omega
          clear hb; go_wp2; go_ret2; rw [HM.out]; exact ⟨rfl, Below.refl _ _⟩
      · have HN : Hid ((ls.take (k + 1)).any badB = false) := any_step hx HG.out hb; have h1 : decide ((x.size : Int) < 1) = false := by simp; omega
        have h2 : decide ((63 : Int) < (x.size : Int)) = false := by simp; omega
        clear hx hcell hc hjoin hb; go_wp2
        go_round
        case rel => exact ⟨k + 1, by omega, by go_num, HN⟩
        case measure => simp [intOf]; omega
    · have hkl : k = ls.length := by omega
      subst hkl; rw [List.take_length] at HG; have hws := wsum_good ls HG.out; have Hj := hjoin (by omega); have hjl := Nm.joinL_length ls; have hsize : (ByteArray.mk (Nm.joinL ls).toArray).size = 1 + Nm.wsum ls := by rw [← size_list]; simp [hjl]; omega
      generalize hr : ByteArray.mk (Nm.joinL ls).toArray = r at *; clear hjoin hc
      by_cases hl : 255 < 1 + Nm.wsum ls
      · have HM : Hid (makeS ls = (ByteArray.empty, 3)) := make_long (by omega) HG.out hl; have hd : decide ((255 : Int) < (r.size : Int)) = true := by simp; omega
        clear hsize hr; go_wp2_with fail
        refine Hj.mono ?_; rintro e w2 ⟨rfl, hbel2⟩; go_wp2; go_ret2; rw [HM.out]; exact ⟨rfl, hbel2⟩
      · have HM : Hid (makeS ls = (r, 0)) := by show _ = _; rw [← hr]; exact make_good (by omega) HG.out hl
        have hd : decide ((255 : Int) < (r.size : Int)) = false := by simp; omega
        clear hsize hr; go_wp2_with fail
        refine Hj.mono ?_; rintro e w2 ⟨rfl, hbel2⟩; go_wp2; go_ret2; rw [HM.out]; exact ⟨rfl, hbel2⟩
end Go.Proofs.YtddabafaejahbaaGreatDoor
