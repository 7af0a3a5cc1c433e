import Derived.Test.YthhagapmcbkeiaaJSgR
import Derived.Test.YthhagapmcbkeiaaJDraw1
import Derived.Test.YthhagapmcbkeiaaJDraw5
/- spec.l13DrawOptions, spec.DrawEdnsRecord by their contracts: some numbers, some options. -/
namespace Go.Proofs.Ythhagapmcbkeiaa
open Go.RowKit
set_option linter.unusedVariables false

theorem row_srcS {w : World} {B e s m g n cap : Nat} {a : Option Addr} {v : Value} {xs : List Value} (h : w.ownsRow B e s v m xs) (hs : Src w g a n cap) (hne : e ≠ 49) : v.ownBlock = none ∨ v.ownBlock ≠ some g := by
  obtain ⟨pos, st, h1, _⟩ := hs
  rcases h.2 with ⟨rfl, _⟩ | ⟨g', cap', cur, rfl, _, hh, _⟩
  · exact .inl rfl
  · right
    intro e2
    simp only [Value.ownBlock, Option.some.injEq] at e2
    subst e2
    have e3 := h1.symm.trans hh
    injection e3 with e3
    injection e3 with _ e4
    exact hne e4.symm

theorem osum_snoc (xs : List (Int × ByteArray)) (x : Int × ByteArray) : osum (xs ++ [x]) = osum xs + x.2.size := by
  induction xs with
  | nil => simp [osum]
  | cons y xs ih => simp only [List.cons_append, osum, ih]; omega

set_option maxRecDepth 100000 in
set_option maxHeartbeats 1600000 in
theorem l13DrawOptions_any (g : Nat) (a : Option Addr) (n cap : Nat) (w : World) (h : Src w g a n cap) :
    Calls Try.prog 12 #[.pointer (some ⟨g, 0, none⟩)] w fun e w' => ∃ (u : Value) (xs : List (Int × ByteArray)), e = .returned u ∧ w'.ownsRow w.heap.size 45 2 u xs.length (opVs xs) ∧ xs.length ≤ 3 ∧ osum xs ≤ 100 ∧ Src w' g a n cap ∧ w.grownBy w' (some g) := by
  obtain ⟨i0, hi, hz0, hz1, hz2⟩ := info_parts Try.infoOpz2
  have hcd := src_code h
  have hro := World.ownsRow_made (base := w.heap.size) (size := 2) (e := 45) w #[] 0 (by simp) (by decide) rfl
  have hs0 := src_below h ((Below.refl _ _).alloc (Nat.le_refl _) (.cells #[] 45))
  have hg0 : w.grownBy (w.alloc (.cells #[] 45)) (some g) := grown_alloc (World.grownBy.refl _ _) _
  go_enter Try.func12, Try.ntmps12
  go_wp2_with fail
  refine (l01Next_any g a n cap 3 _ hs0 (by decide)).mono ?_
  rintro e w1 ⟨r, rfl, r0, r1, hs1, hg1⟩
  have r2 := r1 (by decide)
  obtain ⟨N, rfl⟩ := Int.eq_ofNat_of_zero_le r0
  have ho1 := hro.kept hg1 (row_srcS hro hs0 (by decide))
  have hg01 := grown_step hg0 hg1
  clear r1 hro hs0 hg0 hg1 h
  go_wp2_with fail
  go_loopw [3, 5] (fun u i wr => ∃ (k : Nat) (xs : List (Int × ByteArray)), k ≤ N ∧ i = .int .i64 k ∧ wr.ownsRow w.heap.size 45 2 u xs.length (opVs xs) ∧ xs.length ≤ k ∧ osum xs ≤ 10 * k ∧ Src wr g a n cap ∧ w.grownBy wr (some g)) (fun _ i _ => N - (intOf i).toNat)
  case atStart => exact ⟨0, [], Nat.zero_le _, rfl, ho1, Nat.le_refl _, by simp [osum], hs1, hg01⟩
  case round =>
    obtain ⟨k, xs, hk, rfl, hown, hxl, hxs, hsrc, hgr⟩ := hrel
    clear ho1 hs1 hg01
    have hsz := hgr.size
    obtain ⟨ya, yc, rfl⟩ := own_sl hown
    by_cases hlt : k < N
    · have i1 : (k : Int) < (N : Int) := by omega
      go_wp2_with fail
      refine (l01Next_any g a n cap 20 _ hsrc (by decide)).mono ?_
      rintro e w2 ⟨c, rfl, c0, c1, hs2, hg2⟩
      have ho2 := hown.kept hg2 (row_srcS hown hsrc (by decide))
      have hgr2 := grown_step hgr hg2
      clear hown hsrc hgr hg2 c1
      go_wp2_with fail
      refine (l01Next_any g a n cap 5 _ hs2 (by decide)).mono ?_
      rintro e w3 ⟨d, rfl, d0, d1, hs3, hg3⟩
      have d2 := d1 (by decide)
      have ho3 := ho2.kept hg3 (row_srcS ho2 hs2 (by decide))
      have hgr3 := grown_step hgr2 hg3
      clear ho2 hs2 hgr2 hg3 d1
      go_wp2_with fail
      refine (l01Bytes_any g a n cap d _ hs3 d0 (by omega)).mono ?_
      rintro e w4 ⟨s, rfl, hsd, hs4, hg4⟩
      have ho4 := ho3.kept hg4 (row_srcS ho3 hs3 (by decide))
      have hgr4 := grown_step hgr3 hg4
      have hsz4 := hgr4.size
      have hrow : ∀ q, Value.ownBlock (.slice ya xs.length yc) = some q → w.heap.size ≤ q := fun q hq => (ho4.lt q hq).1
      clear ho3 hs3 hgr3 hg4
      go_wp2_with (at_builtin; refine wpList_append_own _ rfl (.tmp 14) (.tmp 22) 23 rfl w.heap.size 45 i0 _ 2 24 Try.underlying23 hi hz0 hz1 hz2 rfl (by decide) _ _ _ rfl (ho4.alloc _) ⟨w4.heap.size, 0, none⟩ 1 1 [.int .i64 c, .string s] rfl rfl (cell_newO _ _ _) (by intro u hu; simp at hu; rcases hu with rfl | rfl <;> rfl) (by unfold maxLen; omega) (by omega) (by simp; omega) ?_; intro va wa hown9 hgrow9 hnl9; clear hnl9)
      have hown10 : wa.ownsRow w.heap.size 45 2 va (xs ++ [(c, s)]).length (opVs (xs ++ [(c, s)])) := by
        rw [opVs_app, List.length_append]
        exact hown9
      have hs9 := src_grown (src_below hs4 ((Below.refl _ _).alloc (Nat.le_refl _) _)) hgrow9 hrow hcd.2 hcd.1
      have hg9 := grown_own (grown_alloc hgr4 _) hgrow9 hrow
      obtain ⟨za, zc, rfl⟩ := own_sl hown10
      clear hown9 hgrow9 ho4 hs4 hgr4
      go_wp2_with fail
      go_roundw
      case rel => exact ⟨k + 1, xs ++ [(c, s)], by omega, by go_num, hown10, by simp; omega, by rw [osum_snoc]; simp only; omega, hs9, hg9⟩
      case measure => simp [intOf]; omega
    · have hkl : k = N := by omega
      have i1 : ¬ (k : Int) < (N : Int) := by omega
      go_wp2
      go_ret
      exact ⟨_, rfl, xs, hown, by omega, by omega, hsrc, hgr⟩

theorem made_bys (T : Nat) : (madeCells (Value.int .u8 0).cells T).toList = Nm.bys (List.replicate T 0) := by
  have e : (Value.int .u8 0).cells = #[.int .u8 0] := rfl
  rw [e]
  apply List.ext_getElem
  · simp [madeCells, Nm.bys_length]
  · intro i h1 h2
    simp [madeCells, Nm.bys, Nat.mod_one]

theorem own_new1 (W : World) (B T : Nat) (hB : B ≤ W.heap.size) (v1 v2 : Value) : (W.alloc (.cells #[v1, v2] T)).ownsRow B T 2 (.slice (some ⟨W.heap.size, 0, none⟩) 1 1) 1 [v1, v2] :=
  ⟨rfl, .inr ⟨W.heap.size, 1, #[v1, v2], rfl, hB, (by show (W.heap.push _)[W.heap.size]? = _; simp), Nat.le_refl _, (by decide), rfl, rfl⟩⟩

theorem dr_back {w W : World} {a : Act} {sz c fl : Int} {u : Value} {xs : List (Int × ByteArray)} (h2 : a.tmps[2]?.getD undef = .int .i64 sz) (h3 : a.tmps[3]?.getD undef = .int .i64 c) (h4 : a.tmps[4]?.getD undef = .int .i64 fl) (h5 : a.tmps[5]?.getD undef = u) (hd : a.defers = []) (ho : W.ownsRow w.heap.size 45 2 u xs.length (opVs xs)) (hx : xs.length + osum xs ≤ 1048576) (hB : Below w.heap.size w W) :
    bodyPost Try.prog Try.f4 (fun e w' => ∃ (sz c fl : Int) (u : Value) (xs : List (Int × ByteArray)), e = .returned (.tuple #[.int .i64 sz, .int .i64 c, .int .i64 fl, u]) ∧ w'.ownsRow w.heap.size 45 2 u xs.length (opVs xs) ∧ xs.length + osum xs ≤ 1048576 ∧ Below w.heap.size w w') .ret a W := by
  refine bodyPost_ret (v := .tuple #[.int .i64 sz, .int .i64 c, .int .i64 fl, u]) ?_ hd ⟨sz, c, fl, u, xs, rfl, ho, hx, hB⟩
  simp [results, Try.results4, h2, h3, h4, h5]

set_option maxRecDepth 100000 in
set_option maxHeartbeats 3200000 in
theorem drawEdnsRecord_any (a : Option Addr) (n cap : Nat) (w : World) (h : CodeIn w a n) (hn : n ≤ 1048576) :
    Calls Try.prog 4 #[.slice a n cap] w fun e w' => ∃ (sz c fl : Int) (u : Value) (xs : List (Int × ByteArray)), e = .returned (.tuple #[.int .i64 sz, .int .i64 c, .int .i64 fl, u]) ∧ w'.ownsRow w.heap.size 45 2 u xs.length (opVs xs) ∧ xs.length + osum xs ≤ 1048576 ∧ Below w.heap.size w w' := by
  obtain ⟨i0, hi, hz0, hz1, hz2⟩ := info_parts Try.infoOpz2
  obtain ⟨j0, hj, k0, k1, k2⟩ := info_parts Try.infoU8d
  go_enter Try.func4, Try.ntmps4
  go_wp2_with fail
  refine (l01Begin_any a n cap w h hn).mono ?_
  rintro e w1 ⟨st, rfl, b1⟩
  have hs1 := src_made (cap := cap) (code_below h b1) hn st
  have hB1 := b1.alloc b1.size (.cells #[.slice a n cap, .int .i64 0, .int .u64 st] 49 (0, 0))
  have hgw : w.heap.size ≤ w1.heap.size := b1.size
  clear b1 h
  go_wp2_with fail
  generalize w1.heap.size = g at *
  refine (l01Next_any g a n cap 65536 _ hs1 (by decide)).mono ?_
  rintro e w2 ⟨sz, rfl, sz0, sz1, hs2, hg2⟩
  have hB2 := hB1.grown hg2 hB1.size (fun k hk => by simp at hk; omega)
  clear hs1 hB1 hg2 sz1
  go_wp2_with fail
  refine (l01Next_any g a n cap 256 _ hs2 (by decide)).mono ?_
  rintro e w3 ⟨c, rfl, c0, c1, hs3, hg3⟩
  have hB3 := hB2.grown hg3 hB2.size (fun k hk => by simp at hk; omega)
  clear hs2 hB2 hg3 c1
  go_wp2_with fail
  refine (l01Next_any g a n cap 65536 _ hs3 (by decide)).mono ?_
  rintro e w4 ⟨fl, rfl, f0, f1, hs4, hg4⟩
  have hB4 := hB3.grown hg4 hB3.size (fun k hk => by simp at hk; omega)
  clear hs3 hB3 hg4 f1
  go_wp2_with fail
  refine (l13DrawOptions_any g a n cap _ hs4).mono ?_
  rintro e w5 ⟨u, xs, rfl, ho5, hxl, hxs, hs5, hg5⟩
  have hB5 := hB4.grown hg5 hB4.size (fun k hk => by simp at hk; omega)
  have ho5' := own_base ho5 hB4.size
  obtain ⟨ya, yc, rfl⟩ := own_sl ho5
  clear hs4 hB4 hg5 ho5
  go_wp2_with fail
  refine (l01Next_any g a n cap 16 _ hs5 (by decide)).mono ?_
  rintro e w6 ⟨r, rfl, r0, r1, hs6, hg6⟩
  have r2 := r1 (by decide)
  have ho6 := ho5'.kept hg6 (row_srcS ho5' hs5 (by decide))
  have hB6 := hB5.grown hg6 hB5.size (fun k hk => by simp at hk; omega)
  have hz6 := hB6.size
  have hrow : ∀ q, Value.ownBlock (.slice ya xs.length yc) = some q → w.heap.size ≤ q := fun q hq => (ho6.lt q hq).1
  clear hs5 hB5 hg6 ho5' r1
  by_cases q0 : r = 0
  · subst q0
    go_wp2
    exact dr_back rfl rfl rfl rfl rfl ho6 (by omega) hB6
  by_cases q1 : r = 1
  · subst q1
    go_wp2
    exact dr_back rfl rfl rfl rfl rfl ho6 (by omega) hB6
  by_cases q2 : r = 2
  · subst q2
    go_wp2
    exact dr_back rfl rfl rfl rfl rfl ho6 (by omega) hB6
  by_cases q3 : r = 3
  · subst q3
    go_wp2_with (at_builtin; refine wpList_append_own _ rfl (.tmp 26) (.tmp 28) 23 rfl w.heap.size 45 i0 _ 2 24 Try.underlying23 hi hz0 hz1 hz2 rfl (by decide) _ _ _ rfl (ho6.alloc _) ⟨w6.heap.size, 0, none⟩ 1 1 [.int .i64 65536, .string ⟨#[]⟩] rfl rfl (cell_newO _ _ _) (by intro u hu; simp at hu; rcases hu with rfl | rfl <;> rfl) (by unfold maxLen; omega) (by omega) (by simp; omega) ?_; intro va wa hown9 hgrow9 hnl9; clear hnl9)
    have hown10 : wa.ownsRow w.heap.size 45 2 va (xs ++ [((65536 : Int), (⟨#[]⟩ : ByteArray))]).length (opVs (xs ++ [((65536 : Int), (⟨#[]⟩ : ByteArray))])) := by
      rw [opVs_app, List.length_append]
      exact hown9
    have hB9 := (hB6.alloc hB6.size _).grown hgrow9 (hB6.alloc hB6.size _).size hrow
    obtain ⟨za, zc, rfl⟩ := own_sl hown10
    go_wp2_with fail
    exact dr_back rfl rfl rfl rfl rfl hown10 (by rw [osum_snoc]; simp only [List.length_append, List.length_singleton]; have : (⟨#[]⟩ : ByteArray).size = 0 := rfl; omega) hB9
  by_cases q4 : r = 4
  · subst q4
    go_wp2_with fail
    refine (l01Next_any g a n cap 2 _ hs6 (by decide)).mono ?_
    rintro e w7 ⟨t, rfl, t0, t1, hs7, hg7⟩
    have t2 := t1 (by decide)
    have ho7 := ho6.kept hg7 (row_srcS ho6 hs6 (by decide))
    have hB7 := hB6.grown hg7 hB6.size (fun k hk => by simp at hk; omega)
    have hz7 := hB7.size
    obtain ⟨T, hT⟩ : ∃ T : Nat, (65531 : Int) - t = (T : Int) := ⟨(65531 - t).toNat, by omega⟩
    have hTb : T ≤ 65531 := by omega
    obtain ⟨wm, hmk, hownm, hgrm⟩ := run_make_full (P := Try.prog) w7 w7.heap.size 22 5 j0 (.int .u8 0) 1 Try.underlying22 hj k0 k1 .i64 .i64 T (by rw [k2]; omega) (by unfold maxLen; omega) (Nat.le_refl _)
    have hbm : Below w7.heap.size w7 wm := (Below.refl _ _).grown hgrm (Nat.le_refl _) (by simp)
    rw [Nat.mul_one, made_bys] at hownm
    have hcv := row_strB (CRow.of_owns hownm)
    obtain ⟨ZS, eZS⟩ : ∃ S : ByteArray, S = ⟨(List.replicate T (0 : UInt8)).toArray⟩ := ⟨_, rfl⟩
    rw [← eZS] at hcv
    have HZz : Hid (ZS.size = T) := by show _ = _; rw [eZS, ba_size]; simp
    have hom := own_below ho7 hbm
    have hBm := Nm.below_two hB7 hbm
    have hzm := hBm.size
    clear eZS hs6 hB6 ho6 hg7 t1 ho7 hB7 hgrm hbm hownm hs7
    go_wp2_with (at_builtin; refine wpList_append_own _ rfl (.tmp 32) (.tmp 38) 23 rfl w.heap.size 45 i0 _ 2 24 Try.underlying23 hi hz0 hz1 hz2 rfl (by decide) _ _ _ rfl (hom.alloc _) ⟨wm.heap.size, 0, none⟩ 1 1 [.int .i64 0, .string ZS] rfl rfl (cell_newO _ _ _) (by intro u hu; simp at hu; rcases hu with rfl | rfl <;> rfl) (by unfold maxLen; omega) (by omega) (by simp; omega) ?_; intro va wa hown9 hgrow9 hnl9; clear hnl9)
    have hown10 : wa.ownsRow w.heap.size 45 2 va (xs ++ [((0 : Int), ZS)]).length (opVs (xs ++ [((0 : Int), ZS)])) := by
      rw [opVs_app, List.length_append]
      exact hown9
    have hB9 := (hBm.alloc hBm.size _).grown hgrow9 (hBm.alloc hBm.size _).size hrow
    obtain ⟨za, zc, rfl⟩ := own_sl hown10
    go_wp2_with fail
    exact dr_back rfl rfl rfl rfl rfl hown10 (by rw [osum_snoc]; simp only [List.length_append, List.length_singleton]; have := HZz.out; omega) hB9
  by_cases q5 : r = 5
  · subst q5
    go_wp2_with fail
    refine (l01Next_any g a n cap 3 _ hs6 (by decide)).mono ?_
    rintro e w7 ⟨t, rfl, t0, t1, hs7, hg7⟩
    have t2 := t1 (by decide)
    have hB7 := hB6.grown hg7 hB6.size (fun k hk => by simp at hk; omega)
    have hz7 := hB7.size
    obtain ⟨T, hT⟩ : ∃ T : Nat, (65530 : Int) + t = (T : Int) := ⟨(65530 + t).toNat, by omega⟩
    have hTb : T ≤ 65533 := by omega
    obtain ⟨wm, hmk, hownm, hgrm⟩ := run_make_full (P := Try.prog) w7 w7.heap.size 22 5 j0 (.int .u8 0) 1 Try.underlying22 hj k0 k1 .i64 .i64 T (by rw [k2]; omega) (by unfold maxLen; omega) (Nat.le_refl _)
    have hbm : Below w7.heap.size w7 wm := (Below.refl _ _).grown hgrm (Nat.le_refl _) (by simp)
    rw [Nat.mul_one, made_bys] at hownm
    have hcv := row_strB (CRow.of_owns hownm)
    obtain ⟨ZS, eZS⟩ : ∃ S : ByteArray, S = ⟨(List.replicate T (0 : UInt8)).toArray⟩ := ⟨_, rfl⟩
    rw [← eZS] at hcv
    have hZz : ZS.size = T := by rw [eZS, ba_size]; simp
    have hBm := Nm.below_two hB7 hbm
    have hzm := hBm.size
    have hom := own_new1 wm w.heap.size 45 hzm (.int .i64 0) (.string ZS)
    have HZz := Nm.hide hZz
    clear eZS hs6 hB6 ho6 hg7 t1 hB7 hgrm hbm hownm hs7 hZz
    go_wp2
    exact dr_back (xs := [((0 : Int), ZS)]) rfl rfl rfl rfl rfl hom (by simp only [osum, List.length_singleton]; have := HZz.out; omega) (hBm.alloc hBm.size _)
  have p0 : (r == 0) = false := by simpa using q0
  have p1 : (r == 1) = false := by simpa using q1
  have p2 : (r == 2) = false := by simpa using q2
  have p3 : (r == 3) = false := by simpa using q3
  have p4 : (r == 4) = false := by simpa using q4
  have p5 : (r == 5) = false := by simpa using q5
  go_wp2
  exact dr_back rfl rfl rfl rfl rfl ho6 (by omega) hB6
end Go.Proofs.Ythhagapmcbkeiaa
