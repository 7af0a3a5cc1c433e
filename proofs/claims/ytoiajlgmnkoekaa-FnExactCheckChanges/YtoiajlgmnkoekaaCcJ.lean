import Derived.Test.YtoiajlgmnkoekaaCcI
import Derived.Test.YtoiajlgmnkoekaaVrI
/- impl.isSound, checkChanges, CheckChanges by their contracts. -/
namespace Go.Proofs.Ytoiajlgmnkoekaa
open Go.RowKit
set_option linter.unusedVariables false

set_option maxRecDepth 100000 in
set_option maxHeartbeats 1600000 in
set_option maxRecDepth 100000 in
set_option maxHeartbeats 1600000 in
theorem isSound_any (v : Value) (xs : List Rr) (w : World) (h : CRow w v xs.length 5 (rvVs xs)) (hx : ∀ r ∈ xs, r.own.size ≤ 1048576 ∧ r.da.size ≤ 1048576) :
    Calls Try.prog 15 #[v] w fun e w' => e = .returned (.bool (listB xs)) ∧ Below w.heap.size w w' := by
  have hs := validRecords_any v xs w h hx
  obtain ⟨_, a, cap, rfl, hcap, hmx, _⟩ := h
  by_cases hl : xs.length ≤ 400
  · have hl' : (xs.length : Int) ≤ 400 := by omega
    have HL : Hid (listB xs = xs.all rcOK) := by show _ = _; simp [listB, hl]
    generalize xs.all rcOK = B at *
    go_enter Try.func15, Try.ntmps15
    go_wp2_with fail
    refine hs.mono ?_
    rintro e w1 ⟨rfl, hb1⟩
    go_wp2
    go_ret
    rw [HL.out]
    exact ⟨rfl, hb1⟩
  · have hl' : ¬ (xs.length : Int) ≤ 400 := by omega
    have HL : Hid (listB xs = false) := by show _ = _; simp [listB, hl]
    go_enter Try.func15, Try.ntmps15
    go_wp2
    go_ret
    rw [HL.out]
    exact ⟨rfl, Below.refl _ _⟩

set_option maxRecDepth 100000 in
set_option maxHeartbeats 3200000 in
theorem checkChanges_any (ap : ByteArray) (ys : List ByteArray) (hap : Nm.split ap = some ys) (u v : Value) (xs : List Rr) (w : World) (hu : Nm.SRow w u ys) (h : CRow w v xs.length 5 (rvVs xs)) (hx : ∀ r ∈ xs, r.own.size ≤ 1048576 ∧ r.da.size ≤ 1048576) (hok : xs.all rcOK = true) :
    Calls Try.prog 16 #[u, v] w fun e w' => e = .returned (.int .i64 (chS ap xs)) ∧ Below w.heap.size w w' := by
  obtain ⟨_, a, cap, rfl, hcap, hmx, hc⟩ := h
  unfold maxLen at hmx
  have hzb := Nm.split_size hap
  have hlb := Nm.length_le_wsum ys
  obtain ⟨ua, uc, rfl⟩ : ∃ a c, u = .slice a ys.length c := by obtain ⟨a, c, e, _⟩ := hu; exact ⟨a, c, e⟩
  obtain ⟨RES, HRES⟩ : ∃ R, Hid (R = chS ap xs) := ⟨_, rfl⟩
  rw [← HRES.out]
  go_enter Try.func16, Try.ntmps16
  go_wp2
  go_loopw [11] (fun i wr => ∃ k : Nat, k ≤ xs.length ∧ i = .int .i64 k ∧ Hid ((xs.take k).all (zeroB ap) = true) ∧ Below w.heap.size w wr) (fun i _ => xs.length - (intOf i).toNat)
  case atStart => exact ⟨0, Nat.zero_le _, rfl, by show _ = _; simp, Below.refl _ _⟩
  case round =>
    obtain ⟨k, hk, rfl, HA, hbel⟩ := hrel
    by_cases hlt : k < xs.length
    · obtain ⟨x, hxk⟩ : ∃ x, xs[k]? = some x := ⟨_, List.getElem?_eq_getElem hlt⟩
      obtain ⟨b, off, rfl, hcell⟩ := hc (by omega)
      obtain ⟨c0, c1, c2, c3, c4⟩ := rv_cells hcell hxk
      have put : ∀ {O : Nat} {z : Value}, w.cell? ⟨b, O, none⟩ = some z → wr.cell? ⟨b, O, none⟩ = some z := fun h => (hbel.cell (World.block_lt_of_cell? w _ h)).trans h
      replace c0 := put c0
      replace c1 := put c1
      replace c2 := put c2
      replace c3 := put c3
      replace c4 := put c4
      have hmem := List.mem_of_getElem? hxk
      have hrc := List.all_eq_true.1 hok x hmem
      obtain ⟨ho, hd⟩ := hx x hmem
      have i1 : (0 : Int) ≤ (k : Int) := by omega
      have i2 : (k : Int) < (xs.length : Int) := by omega
      obtain ⟨zs, hzs⟩ : ∃ zs, Nm.split x.own = some zs := by
        cases hq : Nm.split x.own with
        | none => simp [rcOK, hq] at hrc
        | some zs => exact ⟨zs, rfl⟩
      have hsp := fun W => splitName_any x.own W (by unfold maxLen; omega)
      rw [hzs] at hsp
      have hch := fun W => isChange_any x W hd
      have hxs := (Nm.split_join hzs).2
      have hza2 := Nm.split_size hzs
      have hla := Nm.length_le_wsum zs
      have HC := Nm.hide (show chC ap x = if underB zs ys = true then (if chB x = true then 0 else 1) else 10 by rw [chC, isUnder_some hzs hap])
      have hun := fun V W (hV : Nm.SRow W V zs) (hW : Below w.heap.size w W) => under_any V (.slice ua ys.length uc) zs ys W hV (hu.below hW) (fun y hy => by have := hxs y hy; omega) (by omega) (by omega)
      have hR0 := RB.new wr x 36
      have hB0 := (Below.refl wr.heap.size wr).alloc (Nat.le_refl _) (.cells #[.string x.own, .int .i64 x.ty, .int .i64 x.cl, .int .i64 x.tt, .string x.da] 36)
      have hB1 := Nm.below_two hbel hB0
      have HX := Nm.hide hxk
      clear hmem hrc hcell hc hx hok hu hxs hza2 hla hzs hxk hzb hlb hap
      cases hU : underB zs ys with
      | false =>
        have HC2 : Hid (chC ap x = 10) := by show _ = _; rw [HC.out, hU]; rfl
        rw [hU] at hun
        obtain rfl : RES = 10 := by rw [HRES.out, chS_at HA.out HX.out (by rw [HC2.out]; decide)]; exact HC2.out
        clear hU HC HC2 HRES HX HA
        obtain ⟨o, ty, cl, tt, da⟩ := x
        simp only at *
        go_wp2_with fail
        refine (hsp _).mono ?_
        rintro e w1 ⟨v1, rfl, hown1, hb1⟩
        simp only [Option.getD_some] at hown1
        obtain ⟨d0, d1, d2, d3, d4⟩ := hR0.below hb1
        have hB2 := Nm.below_two hB1 hb1
        have hun1 := hun _ _ (Nm.SRow.of_owns hown1) hB2
        go_wp2_with fail
        refine hun1.mono ?_
        rintro e w2 ⟨rfl, m, rfl⟩
        have hB3 := Go.below_drewN hB2 m
        go_wp2
        go_ret
        exact ⟨rfl, hB3⟩
      | true =>
        rw [hU] at hun
        cases hC : chB x with
        | false =>
          have HC2 : Hid (chC ap x = 1) := by show _ = _; rw [HC.out, hU, hC]; rfl
          rw [hC] at hch
          obtain rfl : RES = 1 := by rw [HRES.out, chS_at HA.out HX.out (by rw [HC2.out]; decide)]; exact HC2.out
          clear hU HC HC2 HRES HX HA hC
          obtain ⟨o, ty, cl, tt, da⟩ := x
          simp only at *
          go_wp2_with fail
          refine (hsp _).mono ?_
          rintro e w1 ⟨v1, rfl, hown1, hb1⟩
          simp only [Option.getD_some] at hown1
          have hR1 := hR0.below hb1
          obtain ⟨d0, d1, d2, d3, d4⟩ := hR1
          have hB2 := Nm.below_two hB1 hb1
          have hun1 := hun _ _ (Nm.SRow.of_owns hown1) hB2
          go_wp2_with fail
          refine hun1.mono ?_
          rintro e w2 ⟨rfl, m, rfl⟩
          have hB3 := Go.below_drewN hB2 m
          have hR2 := hR0.below (Go.below_drewN hb1 m)
          obtain ⟨e0, e1, e2, e3, e4⟩ := hR2
          clear d0 d1 d2 d3 d4 c0 c1 c2 c3 c4
          go_wp2_with fail
          refine (hch _).mono ?_
          rintro e w3 ⟨rfl, hb3⟩
          go_wp2
          go_ret
          exact ⟨rfl, Nm.below_two hB3 hb3⟩
        | true =>
          have HC2 : Hid (chC ap x = 0) := by show _ = _; rw [HC.out, hU, hC]; rfl
          have HA2 : Hid ((xs.take (k + 1)).all (zeroB ap) = true) := by show _ = _; rw [all_take' HX.out, HA.out, zeroB, HC2.out]; rfl
          rw [hC] at hch
          clear hU HC HC2 HX HA hC
          obtain ⟨o, ty, cl, tt, da⟩ := x
          simp only at *
          go_wp2_with fail
          refine (hsp _).mono ?_
          rintro e w1 ⟨v1, rfl, hown1, hb1⟩
          simp only [Option.getD_some] at hown1
          have hR1 := hR0.below hb1
          obtain ⟨d0, d1, d2, d3, d4⟩ := hR1
          have hB2 := Nm.below_two hB1 hb1
          have hun1 := hun _ _ (Nm.SRow.of_owns hown1) hB2
          go_wp2_with fail
          refine hun1.mono ?_
          rintro e w2 ⟨rfl, m, rfl⟩
          have hB3 := Go.below_drewN hB2 m
          have hR2 := hR0.below (Go.below_drewN hb1 m)
          obtain ⟨e0, e1, e2, e3, e4⟩ := hR2
          clear d0 d1 d2 d3 d4 c0 c1 c2 c3 c4
          go_wp2_with fail
          refine (hch _).mono ?_
          rintro e w3 ⟨rfl, hb3⟩
          have hB4 := Nm.below_two hB3 hb3
          go_wp2
          go_roundw
          case rel => exact ⟨k + 1, by omega, by go_num, HA2, hB4⟩
          case measure => simp [intOf]; omega
    · have hkl : k = xs.length := by omega
      subst hkl
      have HT := HA.out
      rw [List.take_length] at HT
      obtain rfl : RES = 0 := by rw [HRES.out, chS_zero HT]
      clear HT HA hc HRES hx hok
      have i2 : ¬ (xs.length : Int) < (xs.length : Int) := by omega
      go_wp2
      go_ret
      exact ⟨rfl, hbel⟩

set_option maxRecDepth 100000 in
set_option maxHeartbeats 1600000 in
theorem implCheckChanges_any (ap : ByteArray) (v : Value) (xs : List Rr) (w : World) (ha : ap.size ≤ 1048576) (h : CRow w v xs.length 5 (rvVs xs)) (hx : ∀ r ∈ xs, r.own.size ≤ 1048576 ∧ r.da.size ≤ 1048576) :
    Calls Try.prog 7 #[.string ap, v] w fun e w' => e = .returned (.tuple #[.int .i64 (if ccB ap xs = true then chS ap xs else 0), .int .i64 (if ccB ap xs = true then 0 else 32)]) ∧ Below w.heap.size w w' := by
  have hsp := splitName_any ap w (by unfold maxLen; omega)
  have hso := fun W (hW : Below w.heap.size w W) => isSound_any v xs W (h.below hW) hx
  have hcc := fun u ys W (hq : Nm.split ap = some ys) (hW : Below w.heap.size w W) (hU : Nm.SRow W u ys) (hok : xs.all rcOK = true) => checkChanges_any ap ys hq u v xs W hU (h.below hW) hx hok
  obtain ⟨_, a, cap, rfl, hcap, hmx, _⟩ := h
  cases hq : Nm.split ap with
  | none =>
    have hcb : ccB ap xs = false := by simp [ccB, hq]
    rw [hcb]
    rw [hq] at hsp
    clear hcb hq hso hcc
    go_enter Try.func7, Try.ntmps7
    go_wp2_with fail
    refine hsp.mono ?_
    rintro e w1 ⟨v1, rfl, hown1, hb1⟩
    go_wp2
    go_ret2
    exact ⟨rfl, hb1⟩
  | some ys =>
    rw [hq] at hsp
    have hcb : ccB ap xs = listB xs := by simp [ccB, hq]
    rw [hcb]
    cases hl : listB xs with
    | false =>
      rw [hl] at hso
      clear hcb hq hcc hl
      go_enter Try.func7, Try.ntmps7
      go_wp2_with fail
      refine hsp.mono ?_
      rintro e w1 ⟨v1, rfl, hown1, hb1⟩
      go_wp2_with fail
      refine (hso _ hb1).mono ?_
      rintro e w2 ⟨rfl, hb2⟩
      go_wp2
      go_ret2
      exact ⟨rfl, Nm.below_two hb1 hb2⟩
    | true =>
      have hok : xs.all rcOK = true := by simp only [listB, Bool.and_eq_true] at hl; exact hl.2
      have hcc2 := fun u W hW hU => hcc u ys W hq hW hU hok
      rw [hl] at hso
      generalize chS ap xs = C at *
      clear hcb hq hcc hl hok
      go_enter Try.func7, Try.ntmps7
      go_wp2_with fail
      refine hsp.mono ?_
      rintro e w1 ⟨v1, rfl, hown1, hb1⟩
      simp only [Option.getD_some] at hown1
      have hS := Nm.SRow.of_owns hown1
      go_wp2_with fail
      refine (hso _ hb1).mono ?_
      rintro e w2 ⟨rfl, hb2⟩
      have hB2 := Nm.below_two hb1 hb2
      go_wp2_with fail
      refine (hcc2 _ _ hB2 (hS.below hb2)).mono ?_
      rintro e w3 ⟨rfl, hb3⟩
      go_wp2
      go_ret2
      exact ⟨rfl, Nm.below_two hB2 hb3⟩
end Go.Proofs.Ytoiajlgmnkoekaa
