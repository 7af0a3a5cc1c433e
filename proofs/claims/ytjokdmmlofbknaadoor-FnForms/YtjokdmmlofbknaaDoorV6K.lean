import Derived.Test.YtjokdmmlofbknaaDoorIGrps
import Derived.Test.YtjokdmmlofbknaaDoorJZeros
import Derived.Test.YtjokdmmlofbknaaDoorJPut2
/- impl.ReadV6 by its contract. -/
namespace Go.Proofs.YtjokdmmlofbknaaDoor
open Go.RowKit

theorem cut_hit {s : ByteArray} (h : 0 ≤ Lib.index s.data.toList [58, 58]) :
    (⟨(Lib.cut s.data.toList [58, 58]).1.toArray⟩ : ByteArray) = s.extract 0 (Lib.index s.data.toList [58, 58]).toNat ∧ (⟨(Lib.cut s.data.toList [58, 58]).2.1.toArray⟩ : ByteArray) = s.extract ((Lib.index s.data.toList [58, 58]).toNat + 2) s.size ∧ (Lib.cut s.data.toList [58, 58]).2.2 = true := by
  rw [Lib.cut, if_pos h]
  refine ⟨Nm.ba_ext ?_, Nm.ba_ext ?_, rfl⟩
  · simp [List.extract_eq_take_drop]
  · simp [List.extract_eq_take_drop]
    rw [List.take_of_length_le (by simp)]
theorem cut_miss {s : ByteArray} (h : ¬ 0 ≤ Lib.index s.data.toList [58, 58]) :
    (⟨(Lib.cut s.data.toList [58, 58]).1.toArray⟩ : ByteArray) = s ∧ (⟨(Lib.cut s.data.toList [58, 58]).2.1.toArray⟩ : ByteArray) = ⟨#[]⟩ ∧ (Lib.cut s.data.toList [58, 58]).2.2 = false := by
  rw [Lib.cut, if_neg h]
  exact ⟨rfl, rfl, rfl⟩
theorem own_slice {w : World} {B e n : Nat} {v : Value} {xs : List Value} (h : w.ownsRow B e 1 v n xs) : ∃ o cap, v = .slice o n cap := by
  rcases h.2 with ⟨rfl, rfl⟩ | ⟨g, cap, cur, rfl, _⟩
  · exact ⟨none, 0, rfl⟩
  · exact ⟨_, _, rfl⟩
theorem own_two_apart {w2 w3 : World} {B e n m : Nat} {v u : Value} {xs ys : List Value} (hf : w2.ownsRow B e 1 v n xs) (hb : w3.ownsRow w2.heap.size e 1 u m ys) : u.ownBlock = none ∨ u.ownBlock ≠ v.ownBlock := by
  cases hu : u.ownBlock with
  | none => exact .inl rfl
  | some k =>
    right
    intro h
    have h1 := (hf.lt k h.symm).2
    have h2 := (hb.lt k hu).1
    omega
theorem v6_tail {w w1 w2 w3 : World} {v u : Value} {n m : Nat} {a b : List UInt8} (hb1 : Below w.heap.size w w1) (hb2 : Below w1.heap.size w1 w2) (hb3 : Below w2.heap.size w2 w3)
    (hf : w2.ownsRow w1.heap.size 5 1 v n (Nm.bys a)) (hk : w3.ownsRow w2.heap.size 5 1 u m (Nm.bys b)) (k : Nat) (hsum : n + k + m = 16) (x : Int) (hx : x = k) :
    ∃ v4 w4 g cp w5, (Builtin.append_ #[22, 3] 22 #[v, .int .i64 x]).run Tryd.prog w3 = .ok v4 w4 ∧ (Builtin.append_ #[22, 22] 22 #[v4, u]).run Tryd.prog w4 = .ok (.slice (some ⟨g, 0, none⟩) 16 cp) w5 ∧
      (convert 22 9 (.slice (some ⟨g, 0, none⟩) 16 cp)).run Tryd.prog w5 = .ok (.string ⟨(a ++ List.replicate k 0 ++ b).toArray⟩) w5 ∧ Below w.heap.size w w5 := by
  subst hx
  have s1 := hb1.size
  have s2 := hb2.size
  have s3 := hb3.size
  have f3 := own_base (own_below hf hb3) s1
  have ap := own_two_apart hf hk
  obtain ⟨v4, w4, r1, o4, g4⟩ := own_zeros f3 k (by omega) (by omega) (by omega)
  have k4 := hk.kept g4 ap
  have s4 := g4.size
  have B3 : Below w.heap.size w w3 := Nm.below_two hb1 (Nm.below_two hb2 hb3)
  have B4 : Below w.heap.size w w4 := B3.grown g4 (by omega) (fun j hj => (f3.lt j hj).1)
  obtain ⟨v5, w5, r2, o5, g5⟩ := own_both o4 k4 (by omega) (by omega) (by omega)
  have B5 : Below w.heap.size w w5 := B4.grown g5 (by omega) (fun j hj => (o4.lt j hj).1)
  rw [hsum] at o5
  obtain ⟨g, cp, rfl, hcv⟩ := Nm.conv_own (P := Tryd.prog) (src := 22) (dst := 9) Tryd.underlying22 Tryd.underlying5 Tryd.underlying9 o5 (by omega)
  exact ⟨v4, w4, g, cp, w5, r1, r2, hcv, B5⟩

set_option maxRecDepth 100000 in
set_option maxHeartbeats 4000000 in
theorem implReadV6_any (s : ByteArray) (w : World) (hsh : w.ShapedOpen Tryd.prog) :
    Calls Tryd.prog 6 #[.string s] w fun e w' => e = .returned (strV (readV6S s)) ∧ Below w.heap.size w w' := by
  obtain ⟨R, HR⟩ : ∃ R, Hid (R = strV (readV6S s)) := ⟨_, rfl⟩
  rw [← HR.out]
  by_cases h100 : 100 < s.size
  · have HN : Hid (R = .tuple #[.string ⟨#[]⟩, .int .i64 7]) := by show _ = _; rw [HR.out, v6_long h100]; rfl
    have h100' : (100 : Int) < (s.size : Int) := by omega
    clear HR hsh
    go_enter Tryd.func6, Tryd.ntmps6
    go_wp2
    go_ret2
    rw [HN.out]
    exact ⟨rfl, Below.refl _ _⟩
  have h100' : (s.size : Int) ≤ 100 := by omega
  have hs100 : s.size ≤ 100 := by omega
  have hcut0 := Tryd.strings_Cut_shaped s ⟨#[58, 58]⟩ w hsh (by omega)
  rw [show (⟨#[58, 58]⟩ : ByteArray).data.toList = [58, 58] from rfl] at hcut0
  by_cases hx : 0 ≤ Lib.index s.data.toList [58, 58]
  · obtain ⟨e1, e2, e3⟩ := cut_hit hx
    rw [e1, e2, e3] at hcut0
    have HG : Hid (R = strV (v6Gap s (Lib.index s.data.toList [58, 58]).toNat)) := by show _ = _; rw [HR.out, readV6S, if_neg h100, if_pos hx]
    generalize (Lib.index s.data.toList [58, 58]).toNat = i at *
    have hcut : Calls Tryd.prog 27 #[.string s, .string ⟨#[58, 58]⟩] w fun e w' => e = .returned (.tuple #[.string (s.extract 0 i), .string (s.extract (i + 2) s.size), .bool true]) ∧ Below w.heap.size w w' := by
      refine hcut0.mono ?_
      rintro e w' ⟨rfl, n, rfl⟩
      exact ⟨rfl, Go.below_drewN (Below.refl _ _) n⟩
    have zA : (s.extract 0 i).size ≤ 100 := by simp; omega
    have zB : (s.extract (i + 2) s.size).size ≤ 100 := by simp; omega
    have hgA := fun W (hW : Below w.heap.size w W) => readGroups_any (s.extract 0 i) false W (shaped_below hsh hW) (by omega)
    have hgB := fun W (hW : Below w.heap.size w W) => readGroups_any (s.extract (i + 2) s.size) true W (shaped_below hsh hW) (by omega)
    clear hcut0 e1 e2 e3 hx HR h100 hsh
    have lB : ((groupsS (s.extract (i + 2) s.size) true).getD []).length ≤ 1000 := by
      cases hB : groupsS (s.extract (i + 2) s.size) true with
      | none => simp
      | some b => have := (groups_even hB).2; simp; omega
    have lA : ((groupsS (s.extract 0 i) false).getD []).length ≤ 1000 := by
      cases hA : groupsS (s.extract 0 i) false with
      | none => simp
      | some a => have := (groups_even hA).2; simp; omega
    cases hA : groupsS (s.extract 0 i) false with
    | none =>
      have HN : Hid (R = .tuple #[.string ⟨#[]⟩, .int .i64 7]) := by show _ = _; rw [HG.out, gap_bad1 hA]; rfl
      rw [hA] at hgA
      simp only [Option.getD_none, Option.isSome_none, List.length_nil] at hgA
      generalize (groupsS (s.extract (i + 2) s.size) true).getD [] = b at *
      generalize (groupsS (s.extract (i + 2) s.size) true).isSome = BB at *
      have lB' : (b.length : Int) ≤ 1000 := by omega
      generalize b.length = m at *
      generalize s.extract 0 i = sa at *
      generalize s.extract (i + 2) s.size = sb at *
      clear HG hA lA zA zB
      go_enter Tryd.func6, Tryd.ntmps6
      go_wp2_with (first | (go_at_call 27; refine hcut.mono ?_; rintro e w1 ⟨rfl, hb1⟩) | (go_at_call 28; refine (hgB w2 (Nm.below_two hb1 hb2)).mono ?_; rintro e w3 ⟨vb, rfl, hback, hb3⟩; obtain ⟨ob, cb, rfl⟩ := own_slice hback) | (go_at_call 28; refine (hgA w1 hb1).mono ?_; rintro e w2 ⟨va, rfl, hfront, hb2⟩; obtain ⟨oa, ca, rfl⟩ := own_slice hfront))
      go_ret2
      rw [HN.out]
      exact ⟨rfl, Nm.below_two hb1 (Nm.below_two hb2 hb3)⟩
    | some a =>
      rw [hA] at hgA lA
      cases hB : groupsS (s.extract (i + 2) s.size) true with
      | none =>
        have HN : Hid (R = .tuple #[.string ⟨#[]⟩, .int .i64 7]) := by show _ = _; rw [HG.out, gap_bad2 hB]; rfl
        rw [hB] at hgB
        simp only [Option.getD_none, Option.isSome_none, Option.getD_some, Option.isSome_some, List.length_nil] at hgA hgB lA
        have lA' : (a.length : Int) ≤ 1000 := by omega
        generalize a.length = n at *
        generalize s.extract 0 i = sa at *
        generalize s.extract (i + 2) s.size = sb at *
        clear HG hA hB lB zA zB
        go_enter Tryd.func6, Tryd.ntmps6
        go_wp2_with (first | (go_at_call 27; refine hcut.mono ?_; rintro e w1 ⟨rfl, hb1⟩) | (go_at_call 28; refine (hgB w2 (Nm.below_two hb1 hb2)).mono ?_; rintro e w3 ⟨vb, rfl, hback, hb3⟩; obtain ⟨ob, cb, rfl⟩ := own_slice hback) | (go_at_call 28; refine (hgA w1 hb1).mono ?_; rintro e w2 ⟨va, rfl, hfront, hb2⟩; obtain ⟨oa, ca, rfl⟩ := own_slice hfront))
        go_ret2
        rw [HN.out]
        exact ⟨rfl, Nm.below_two hb1 (Nm.below_two hb2 hb3)⟩
      | some b =>
        rw [hB] at hgB lB
        have pA := (groups_even hA).1
        have pB := (groups_even hB).1
        simp only [Option.getD_some, Option.isSome_some] at hgA hgB lA lB
        by_cases hbig : 14 < a.length + b.length
        · have HN : Hid (R = .tuple #[.string ⟨#[]⟩, .int .i64 7]) := by show _ = _; rw [HG.out, gap_big hA hB hbig]; rfl
          have lA' : (a.length : Int) ≤ 1000 := by omega
          have lB' : (b.length : Int) ≤ 1000 := by omega
          have hl : (16 : Int) - (a.length : Int) - (b.length : Int) ≤ 0 := by omega
          generalize a.length = n at *
          generalize b.length = m at *
          generalize s.extract 0 i = sa at *
          generalize s.extract (i + 2) s.size = sb at *
          clear HG hA hB zA zB pA pB
          go_enter Tryd.func6, Tryd.ntmps6
          go_wp2_with (first | (go_at_call 27; refine hcut.mono ?_; rintro e w1 ⟨rfl, hb1⟩) | (go_at_call 28; refine (hgB w2 (Nm.below_two hb1 hb2)).mono ?_; rintro e w3 ⟨vb, rfl, hback, hb3⟩; obtain ⟨ob, cb, rfl⟩ := own_slice hback) | (go_at_call 28; refine (hgA w1 hb1).mono ?_; rintro e w2 ⟨va, rfl, hfront, hb2⟩; obtain ⟨oa, ca, rfl⟩ := own_slice hfront))
          go_ret2
          rw [HN.out]
          exact ⟨rfl, Nm.below_two hb1 (Nm.below_two hb2 hb3)⟩
        · obtain ⟨S, HS⟩ : ∃ S : ByteArray, Hid (S = ByteArray.mk (a ++ List.replicate (16 - a.length - b.length) (0 : UInt8) ++ b : List UInt8).toArray) := ⟨ByteArray.mk (a ++ List.replicate (16 - a.length - b.length) (0 : UInt8) ++ b : List UInt8).toArray, rfl⟩
          have HN : Hid (R = .tuple #[.string S, .int .i64 0]) := by show _ = _; rw [HG.out, gap_good hA hB hbig, HS.out]; rfl
          obtain ⟨K, HKK⟩ : ∃ K, K = 16 - a.length - b.length := ⟨_, rfl⟩
          rw [← HKK] at HS
          have HK : Hid (a.length + K + b.length = 16) := by show _ = _; omega
          have HX : Hid ((16 : Int) - (a.length : Int) - (b.length : Int) = (K : Int)) := by show _ = _; omega
          have lA' : (a.length : Int) ≤ 14 := by omega
          have lB' : (b.length : Int) ≤ 14 := by omega
          have hl : (0 : Int) < (16 : Int) - (a.length : Int) - (b.length : Int) := by omega
          generalize a.length = n at *
          generalize b.length = m at *
          generalize s.extract 0 i = sa at *
          generalize s.extract (i + 2) s.size = sb at *
          clear HG hA hB zA zB pA pB HKK
          go_enter Tryd.func6, Tryd.ntmps6
          go_wp2_with (first | (go_at_call 27; refine hcut.mono ?_; rintro e w1 ⟨rfl, hb1⟩) | (go_at_call 28; refine (hgB w2 (Nm.below_two hb1 hb2)).mono ?_; rintro e w3 ⟨vb, rfl, hback, hb3⟩; obtain ⟨ob, cb, rfl⟩ := own_slice hback; obtain ⟨v4, w4, g, cp, w5, r1, r2, hcv, B5⟩ := v6_tail hb1 hb2 hb3 hfront hback K HK.out (16 - (n : Int) - (m : Int)) HX.out; rw [← HS.out] at hcv) | (go_at_call 28; refine (hgA w1 hb1).mono ?_; rintro e w2 ⟨va, rfl, hfront, hb2⟩; obtain ⟨oa, ca, rfl⟩ := own_slice hfront) | (at_builtin; refine Lib.wpList_append_run _ rfl (.tmp 61) (.tmp 62) 22 3 rfl _ _ rfl rfl _ _ r1 ?_) | (at_builtin; refine Lib.wpList_append_run _ rfl (.tmp 64) (.tmp 65) 22 22 rfl _ _ rfl rfl _ _ r2 ?_))
          go_ret2
          rw [HN.out]
          exact ⟨rfl, B5⟩
  · obtain ⟨e1, e2, e3⟩ := cut_miss hx
    rw [e1, e2, e3] at hcut0
    have HG : Hid (R = strV (v6Whole s)) := by show _ = _; rw [HR.out, readV6S, if_neg h100, if_neg hx]
    have hcut : Calls Tryd.prog 27 #[.string s, .string ⟨#[58, 58]⟩] w fun e w' => e = .returned (.tuple #[.string s, .string ⟨#[]⟩, .bool false]) ∧ Below w.heap.size w w' := by
      refine hcut0.mono ?_
      rintro e w' ⟨rfl, n, rfl⟩
      exact ⟨rfl, Go.below_drewN (Below.refl _ _) n⟩
    have hgA := fun W (hW : Below w.heap.size w W) => readGroups_any s true W (shaped_below hsh hW) (by omega)
    have hgB := fun W (hW : Below w.heap.size w W) => readGroups_any ⟨#[]⟩ true W (shaped_below hsh hW) (by decide)
    rw [show groupsS ⟨#[]⟩ true = some [] from rfl] at hgB
    clear hcut0 e1 e2 e3 hx HR h100 hsh
    cases hA : groupsS s true with
    | none =>
      have HN : Hid (R = .tuple #[.string ⟨#[]⟩, .int .i64 7]) := by show _ = _; rw [HG.out, whole_bad hA]; rfl
      rw [hA] at hgA
      simp only [Option.getD_none, Option.isSome_none, Option.getD_some, Option.isSome_some, List.length_nil] at hgA hgB
      clear HG hA
      go_enter Tryd.func6, Tryd.ntmps6
      go_wp2_with (first | (go_at_call 27; refine hcut.mono ?_; rintro e w1 ⟨rfl, hb1⟩) | (go_at_call 28; refine (hgB w2 (Nm.below_two hb1 hb2)).mono ?_; rintro e w3 ⟨vb, rfl, hback, hb3⟩; obtain ⟨ob, cb, rfl⟩ := own_slice hback) | (go_at_call 28; refine (hgA w1 hb1).mono ?_; rintro e w2 ⟨va, rfl, hfront, hb2⟩; obtain ⟨oa, ca, rfl⟩ := own_slice hfront))
      go_ret2
      rw [HN.out]
      exact ⟨rfl, Nm.below_two hb1 (Nm.below_two hb2 hb3)⟩
    | some a =>
      rw [hA] at hgA
      have lA : a.length ≤ 1000 := by have := (groups_even hA).2; omega
      simp only [Option.isSome_some, Option.getD_some, List.length_nil] at hgA hgB
      have lA' : (a.length : Int) ≤ 1000 := by omega
      by_cases h16 : a.length = 16
      · obtain ⟨S, HS⟩ : ∃ S : ByteArray, Hid (S = ByteArray.mk (a ++ List.replicate 0 (0 : UInt8) ++ [] : List UInt8).toArray) := ⟨ByteArray.mk (a ++ List.replicate 0 (0 : UInt8) ++ [] : List UInt8).toArray, rfl⟩
        have HN : Hid (R = .tuple #[.string S, .int .i64 0]) := by show _ = _; rw [HG.out, whole_good hA h16, HS.out]; simp [strV]
        obtain ⟨K, HKK⟩ : ∃ K, K = 0 := ⟨_, rfl⟩
        rw [← HKK] at HS
        obtain ⟨m, HM⟩ : ∃ m, m = 0 := ⟨_, rfl⟩
        rw [← HM] at hgB
        have HK : Hid (a.length + K + m = 16) := by show _ = _; omega
        have HX : Hid ((16 : Int) - (a.length : Int) - (m : Int) = (K : Int)) := by show _ = _; omega
        have hl : ((16 : Int) - (a.length : Int) - (m : Int) != 0) = false := by
          rw [bne_eq_false_iff_eq]; omega
        have hl2 : ((16 : Int) - (a.length : Int) - (m : Int) == 0) = true := by
          rw [beq_iff_eq]; omega
        have lB' : (m : Int) ≤ 1000 := by omega
        generalize a.length = n at *
        clear HG hA HKK HM h16
        go_enter Tryd.func6, Tryd.ntmps6
        go_wp2_with (first | (go_at_call 27; refine hcut.mono ?_; rintro e w1 ⟨rfl, hb1⟩) | (go_at_call 28; refine (hgB w2 (Nm.below_two hb1 hb2)).mono ?_; rintro e w3 ⟨vb, rfl, hback, hb3⟩; obtain ⟨ob, cb, rfl⟩ := own_slice hback; obtain ⟨v4, w4, g, cp, w5, r1, r2, hcv, B5⟩ := v6_tail hb1 hb2 hb3 hfront hback K HK.out (16 - (n : Int) - (m : Int)) HX.out; rw [← HS.out] at hcv) | (go_at_call 28; refine (hgA w1 hb1).mono ?_; rintro e w2 ⟨va, rfl, hfront, hb2⟩; obtain ⟨oa, ca, rfl⟩ := own_slice hfront) | (at_builtin; refine Lib.wpList_append_run _ rfl (.tmp 61) (.tmp 62) 22 3 rfl _ _ rfl rfl _ _ r1 ?_) | (at_builtin; refine Lib.wpList_append_run _ rfl (.tmp 64) (.tmp 65) 22 22 rfl _ _ rfl rfl _ _ r2 ?_))
        go_ret2
        rw [HN.out]
        exact ⟨rfl, B5⟩
      · have HN : Hid (R = .tuple #[.string ⟨#[]⟩, .int .i64 7]) := by show _ = _; rw [HG.out, whole_len hA h16]; rfl
        obtain ⟨m, HM⟩ : ∃ m, m = 0 := ⟨_, rfl⟩
        rw [← HM] at hgB
        have hl : ((16 : Int) - (a.length : Int) - (m : Int) != 0) = true := by
          rw [bne_iff_ne]; omega
        have hl2 : ((16 : Int) - (a.length : Int) - (m : Int) == 0) = false := by
          rw [beq_eq_false_iff_ne]; omega
        have lB' : (m : Int) ≤ 1000 := by omega
        generalize a.length = n at *
        clear HG hA HM h16
        go_enter Tryd.func6, Tryd.ntmps6
        go_wp2_with (first | (go_at_call 27; refine hcut.mono ?_; rintro e w1 ⟨rfl, hb1⟩) | (go_at_call 28; refine (hgB w2 (Nm.below_two hb1 hb2)).mono ?_; rintro e w3 ⟨vb, rfl, hback, hb3⟩; obtain ⟨ob, cb, rfl⟩ := own_slice hback) | (go_at_call 28; refine (hgA w1 hb1).mono ?_; rintro e w2 ⟨va, rfl, hfront, hb2⟩; obtain ⟨oa, ca, rfl⟩ := own_slice hfront))
        go_ret2
        rw [HN.out]
        exact ⟨rfl, Nm.below_two hb1 (Nm.below_two hb2 hb3)⟩
end Go.Proofs.YtjokdmmlofbknaaDoor
