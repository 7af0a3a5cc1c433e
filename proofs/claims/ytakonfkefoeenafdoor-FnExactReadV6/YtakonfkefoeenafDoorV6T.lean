/- spec.ReadV6 by its contract. -/
import Derived.Test.YtakonfkefoeenafDoorV6G
import Derived.Deep.RegionWith
namespace Go.Proofs.YtakonfkefoeenafDoor
open Go.RowKit

theorem gap_bad1 {s : ByteArray} {i : Nat} (h : groupsS (s.extract 0 i) false = none) : v6Gap s i = (⟨#[]⟩, 7) := by rw [v6Gap, h]
theorem gap_bad2 {s : ByteArray} {i : Nat} (h : groupsS (s.extract (i + 2) s.size) true = none) : v6Gap s i = (⟨#[]⟩, 7) := by
  rw [v6Gap, h]
  cases groupsS (s.extract 0 i) false <;> rfl
theorem gap_big {s : ByteArray} {i : Nat} {a b : List UInt8} (h1 : groupsS (s.extract 0 i) false = some a) (h2 : groupsS (s.extract (i + 2) s.size) true = some b) (h : 14 < a.length + b.length) : v6Gap s i = (⟨#[]⟩, 7) := by
  rw [v6Gap, h1, h2]; simp only; rw [if_pos h]
theorem gap_good {s : ByteArray} {i : Nat} {a b : List UInt8} (h1 : groupsS (s.extract 0 i) false = some a) (h2 : groupsS (s.extract (i + 2) s.size) true = some b) (h : ¬ 14 < a.length + b.length) : v6Gap s i = (⟨(a ++ List.replicate (16 - a.length - b.length) 0 ++ b).toArray⟩, 0) := by
  rw [v6Gap, h1, h2]; simp only; rw [if_neg h]
theorem whole_bad {s : ByteArray} (h : groupsS s true = none) : v6Whole s = (⟨#[]⟩, 7) := by rw [v6Whole, h]
theorem whole_len {s : ByteArray} {o : List UInt8} (h : groupsS s true = some o) (hl : o.length ≠ 16) : v6Whole s = (⟨#[]⟩, 7) := by rw [v6Whole, h]; simp only; rw [if_neg hl]
theorem whole_good {s : ByteArray} {o : List UInt8} (h : groupsS s true = some o) (hl : o.length = 16) : v6Whole s = (⟨o.toArray⟩, 0) := by rw [v6Whole, h]; simp only; rw [if_pos hl]
theorem arr_size (l : List UInt8) : (⟨l.toArray⟩ : ByteArray).size = l.length := rfl

set_option maxRecDepth 100000 in
set_option maxHeartbeats 4000000 in
theorem specReadV6_any (s : ByteArray) (w : World) :
    Calls Tryd.prog 4 #[.string s] w fun e w' => e = .returned (strV (readV6S s)) ∧ Below w.heap.size w w' := by
  obtain ⟨R, HR⟩ : ∃ R, Hid (R = strV (readV6S s)) := ⟨_, rfl⟩
  rw [← HR.out]
  by_cases h100 : 100 < s.size
  · have HN : Hid (R = .tuple #[.string ⟨#[]⟩, .int .i64 7]) := by show _ = _; rw [HR.out, v6_long h100]; rfl
    have h100' : (100 : Int) < (s.size : Int) := by omega
    go_enter Tryd.func4, Tryd.ntmps4
    go_wp2
    go_ret2
    rw [HN.out]
    exact ⟨rfl, Below.refl _ _⟩
  have h100' : (s.size : Int) ≤ 100 := by omega
  have hs100 : s.size ≤ 100 := by omega
  have hst := Nm.hide (dd_start s)
  have HHIT : Hid (∀ i, NoDD s i → i + 2 ≤ s.size → ((s.extract i (i + 2)).toList == [58, 58]) = true → R = strV (v6Gap s i)) := fun i h1 h2 h3 => by rw [HR.out, dd_hit h1 h100 h2 h3]
  have HNONE : Hid (∀ i, NoDD s i → s.size < i + 2 → R = strV (v6Whole s)) := fun i h1 h2 => by rw [HR.out, dd_none h1 h100 h2]
  clear HR h100
  go_enter Tryd.func4, Tryd.ntmps4
  go_wp2
  go_loop [4] (fun v => ∃ i : Nat, i ≤ s.size + 1 ∧ v = .int .i64 (i : Int) ∧ Hid (NoDD s i)) (fun v => s.size + 1 - (intOf v).toNat)
  case atStart => exact ⟨0, by omega, rfl, hst⟩
  case round =>
    obtain ⟨i, hi, rfl, HD⟩ := hrel
    clear hst
    by_cases hlt : i + 2 ≤ s.size
    · have hlt' : (i : Int) + 1 < (s.size : Int) := by omega
      have hlt2 : (i : Int) + 2 ≤ (s.size : Int) := by omega
      have hle : (i : Int) ≤ (s.size : Int) := by omega
      have hle2 : (i : Int) ≤ (i : Int) + 2 := by omega
      have hlen : i ≤ s.size := by omega
      cases hq : ((s.extract i (i + 2)).toList == [58, 58]) with
      | false =>
        have HN := Nm.hide (dd_next HD.out hlt hq)
        clear HD
        go_wp2
        go_round
        case rel => exact ⟨i + 1, by omega, by go_num, HN⟩
        case measure => simp [intOf]; omega
      | true =>
        have HG := Nm.hide (HHIT.out i HD.out hlt hq)
        have hgA := l03Groups_any (s.extract 0 i) false w (by simp; omega)
        have hgB := fun W => l03Groups_any (s.extract (i + 2) s.size) true W (by simp; omega)
        clear HD HHIT HNONE
        cases hA : groupsS (s.extract 0 i) false with
        | none =>
          have HN : Hid (R = .tuple #[.string ⟨#[]⟩, .int .i64 7]) := by show _ = _; rw [HG.out, gap_bad1 hA]; rfl
          rw [hA] at hgA
          simp only [grpV, Option.getD_none, Option.isSome_none] at hgA hgB
          generalize (⟨((groupsS (s.extract (i + 2) s.size) true).getD []).toArray⟩ : ByteArray) = BS at *
          generalize (groupsS (s.extract (i + 2) s.size) true).isSome = BB at *
          clear HG hA
          go_wp2_with (first | (go_at_call_of 6 (Value.bool false); refine hgA.mono ?_; rintro e w2 ⟨rfl, hb2⟩) | (go_at_call_of 6 (Value.bool true); refine (hgB _).mono ?_; rintro e w3 ⟨rfl, hb3⟩))
          go_ret2
          rw [HN.out]
          exact ⟨rfl, Nm.below_two hb2 hb3⟩
        | some a =>
          rw [hA] at hgA
          cases hB : groupsS (s.extract (i + 2) s.size) true with
          | none =>
            have HN : Hid (R = .tuple #[.string ⟨#[]⟩, .int .i64 7]) := by show _ = _; rw [HG.out, gap_bad2 hB]; rfl
            rw [hB] at hgB
            simp only [grpV, Option.getD_some, Option.isSome_some, Option.getD_none, Option.isSome_none] at hgA hgB
            generalize (⟨a.toArray⟩ : ByteArray) = AS at *
            clear HG hA hB
            go_wp2_with (first | (go_at_call_of 6 (Value.bool false); refine hgA.mono ?_; rintro e w2 ⟨rfl, hb2⟩) | (go_at_call_of 6 (Value.bool true); refine (hgB _).mono ?_; rintro e w3 ⟨rfl, hb3⟩))
            go_ret2
            rw [HN.out]
            exact ⟨rfl, Nm.below_two hb2 hb3⟩
          | some b =>
            rw [hB] at hgB
            simp only [grpV, Option.getD_some, Option.isSome_some] at hgA hgB
            have zA := arr_size a
            have zB := arr_size b
            have lA : a.length ≤ 1000 := by
              have h1 := (groups_even hA).2
              have h2 : (s.extract 0 i).size ≤ 100 := by simp; omega
              omega
            have lB : b.length ≤ 1000 := by
              have h1 := (groups_even hB).2
              have h2 : (s.extract (i + 2) s.size).size ≤ 100 := by simp; omega
              omega
            by_cases hbig : 14 < a.length + b.length
            · have HN : Hid (R = .tuple #[.string ⟨#[]⟩, .int .i64 7]) := by show _ = _; rw [HG.out, gap_big hA hB hbig]; rfl
              generalize (⟨a.toArray⟩ : ByteArray) = AS at *
              generalize (⟨b.toArray⟩ : ByteArray) = BS at *
              have hbig' : (14 : Int) < (AS.size : Int) + (BS.size : Int) := by omega
              have hA1 : (AS.size : Int) ≤ 1000 := by omega
              have hB1 : (BS.size : Int) ≤ 1000 := by omega
              clear HG hA hB zA zB
              go_wp2_with (first | (go_at_call_of 6 (Value.bool false); refine hgA.mono ?_; rintro e w2 ⟨rfl, hb2⟩) | (go_at_call_of 6 (Value.bool true); refine (hgB _).mono ?_; rintro e w3 ⟨rfl, hb3⟩))
              go_ret2
              rw [HN.out]
              exact ⟨rfl, Nm.below_two hb2 hb3⟩
            · have HN : Hid (R = .tuple #[.string ⟨(a ++ List.replicate (16 - a.length - b.length) 0 ++ b).toArray⟩, .int .i64 0]) := by show _ = _; rw [HG.out, gap_good hA hB hbig]; rfl
              obtain ⟨AS, HAS⟩ : ∃ X, Hid (X = (⟨a.toArray⟩ : ByteArray)) := ⟨_, rfl⟩
              obtain ⟨BS, HBS⟩ : ∃ X, Hid (X = (⟨b.toArray⟩ : ByteArray)) := ⟨_, rfl⟩
              rw [← HAS.out] at hgA zA
              rw [← HBS.out] at hgB zB
              have hbig' : (AS.size : Int) + (BS.size : Int) ≤ 14 := by omega
              have hal : a.length ≤ 14 := by omega
              have hbl : b.length ≤ 14 := by omega
              have hbz : BS.size ≤ 14 := by omega
              have HZA := Nm.hide zA
              have HZB := Nm.hide zB
              clear HG hA hB zA zB
              go_wp2_with (first | (go_at_call_of 6 (Value.bool false); refine hgA.mono ?_; rintro e w2 ⟨rfl, hb2⟩) | (go_at_call_of 6 (Value.bool true); refine (hgB _).mono ?_; rintro e w3 ⟨rfl, hb3⟩))
              go_loop [5] (fun v => ∃ (k : Nat) (X : ByteArray), v = .string X ∧ Hid (X = ⟨(a ++ List.replicate k 0).toArray⟩) ∧ X.size + BS.size ≤ 16 ∧ Hid (X.size = a.length + k)) (fun v => match v with | .string X => 16 - X.size | _ => 0)
              case atStart => exact ⟨0, AS, rfl, by show _ = _; rw [HAS.out]; simp, by omega, by show _ = _; rw [HZA.out]; rfl⟩
              case round =>
                obtain ⟨k, X, rfl, HX, hx16, HXS⟩ := hrel
                by_cases hx : X.size + BS.size < 16
                · have hx' : (X.size : Int) + (BS.size : Int) < 16 := by omega
                  have HC : Hid (X ++ ⟨#[0]⟩ = ⟨(a ++ List.replicate (k + 1) 0).toArray⟩) := by
                    show _ = _
                    rw [HX.out]
                    apply Nm.ba_ext
                    simp [List.replicate_succ']
                  have hs1 : (X ++ ⟨#[0]⟩).size = X.size + 1 := by rw [ByteArray.size_append]; rfl
                  have HS2 : Hid ((X ++ ⟨#[0]⟩ : ByteArray).size = a.length + (k + 1)) := by show _ = _; rw [hs1, HXS.out]; omega
                  have ha : ∀ W, (Go.Op.stringOp .add X ⟨#[0]⟩).run Tryd.prog W = .ok (.string (X ++ ⟨#[0]⟩)) W := fun W => run_string_add_sum W _ _ (by show X.size + 1 ≤ _; omega)
                  have hle1 : (X ++ ⟨#[0]⟩ : ByteArray).size + BS.size ≤ 16 := by omega
                  generalize (X ++ ⟨#[0]⟩ : ByteArray) = Y at *
                  have hY1 : X.size < Y.size := by omega
                  have hY2 : Y.size ≤ 16 := by omega
                  clear hs1
                  go_wp2
                  go_round
                  case rel => exact ⟨k + 1, Y, rfl, HC, hle1, HS2⟩
                  case measure => simp; omega
                · have hx' : (16 : Int) ≤ (X.size : Int) + (BS.size : Int) := by omega
                  have hkk : k = 16 - a.length - b.length := by have h1 := HXS.out; have h2 := HZB.out; omega
                  have HF : Hid (X ++ BS = ⟨(a ++ List.replicate (16 - a.length - b.length) 0 ++ b).toArray⟩) := by
                    show _ = _
                    rw [HX.out, HBS.out, cat_string, hkk]
                  have ha : ∀ W, (Go.Op.stringOp .add X BS).run Tryd.prog W = .ok (.string (X ++ BS)) W := fun W => run_string_add_sum W _ _ (by omega)
                  rw [← HF.out] at HN
                  generalize (X ++ BS : ByteArray) = Y at *
                  clear hkk
                  go_wp2
                  go_ret2
                  rw [HN.out]
                  exact ⟨rfl, Nm.below_two hb2 hb3⟩
    · have hlt' : (s.size : Int) ≤ (i : Int) + 1 := by omega
      have HG := Nm.hide (HNONE.out i HD.out (by omega))
      have hg := l03Groups_any s true w (by omega)
      clear HD HHIT HNONE
      cases hO : groupsS s true with
      | none =>
        have HN : Hid (R = .tuple #[.string ⟨#[]⟩, .int .i64 7]) := by show _ = _; rw [HG.out, whole_bad hO]; rfl
        rw [hO] at hg
        simp only [grpV, Option.getD_none, Option.isSome_none] at hg
        clear HG hO
        go_wp2_with (go_at_call 6; refine hg.mono ?_; rintro e w2 ⟨rfl, hb2⟩)
        go_ret2
        rw [HN.out]
        exact ⟨rfl, hb2⟩
      | some o =>
        rw [hO] at hg
        simp only [grpV, Option.getD_some, Option.isSome_some] at hg
        have zO := arr_size o
        by_cases h16 : o.length = 16
        · have HN : Hid (R = .tuple #[.string ⟨o.toArray⟩, .int .i64 0]) := by show _ = _; rw [HG.out, whole_good hO h16]; rfl
          generalize (⟨o.toArray⟩ : ByteArray) = OS at *
          have hne : ((OS.size : Int) != 16) = false := by simp; omega
          clear HG hO zO
          go_wp2_with (go_at_call 6; refine hg.mono ?_; rintro e w2 ⟨rfl, hb2⟩)
          go_ret2
          rw [HN.out]
          exact ⟨rfl, hb2⟩
        · have HN : Hid (R = .tuple #[.string ⟨#[]⟩, .int .i64 7]) := by show _ = _; rw [HG.out, whole_len hO h16]; rfl
          generalize (⟨o.toArray⟩ : ByteArray) = OS at *
          have hne : ((OS.size : Int) == 16) = false := by rw [beq_eq_false_iff_ne]; omega
          clear HG hO zO
          go_wp2_with (go_at_call 6; refine hg.mono ?_; rintro e w2 ⟨rfl, hb2⟩)
          go_ret2
          rw [HN.out]
          exact ⟨rfl, hb2⟩
end Go.Proofs.YtakonfkefoeenafDoor
