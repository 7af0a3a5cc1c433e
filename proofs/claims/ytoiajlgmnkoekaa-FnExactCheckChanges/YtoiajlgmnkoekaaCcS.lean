import Derived.Test.YtoiajlgmnkoekaaCcM
import Derived.Test.YtoiajlgmnkoekaaJBlkT
import Derived.Test.YtoiajlgmnkoekaaUnder
import Derived.Test.YtoiajlgmnkoekaaSCheck
import Derived.Test.YtoiajlgmnkoekaaNameOKs
/- spec.l10ListOK, l10ChangeOK, l10Changes, CheckChanges by their contracts. -/
namespace Go.Proofs.Ytoiajlgmnkoekaa
open Go.RowKit
set_option linter.unusedVariables false

set_option maxRecDepth 100000 in
set_option maxHeartbeats 1600000 in
theorem l10ListOK_any (v : Value) (xs : List Rr) (w : World) (h : CRow w v xs.length 5 (rvVs xs)) (hx : ∀ r ∈ xs, r.own.size ≤ 1048576 ∧ r.da.size ≤ 1048576) :
    Calls Try.prog 11 #[v] w fun e w' => e = .returned (.bool (listB xs)) ∧ Below w.heap.size w w' := by
  have hs := l04AllSound_any v xs w h hx
  obtain ⟨_, a, cap, rfl, hcap, hmx, _⟩ := h
  by_cases hl : xs.length ≤ 400
  · have hl' : (xs.length : Int) ≤ 400 := by omega
    have HL : Hid (listB xs = xs.all rcOK) := by show _ = _; simp [listB, hl]
    generalize xs.all rcOK = B at *
    go_enter Try.func11, Try.ntmps11
    go_wp2_with (go_at_call 19; refine hs.mono ?_; rintro e w1 ⟨rfl, hb1⟩)
    go_ret
    rw [HL.out]
    exact ⟨rfl, hb1⟩
  · have hl' : ¬ (xs.length : Int) ≤ 400 := by omega
    have HL : Hid (listB xs = false) := by show _ = _; simp [listB, hl]
    go_enter Try.func11, Try.ntmps11
    go_wp2
    go_ret
    rw [HL.out]
    exact ⟨rfl, Below.refl _ _⟩

set_option maxRecDepth 100000 in
set_option maxHeartbeats 3200000 in
theorem l10ChangeOK_any (ap : ByteArray) (r : Rr) (w : World) (ha : ap.size ≤ 1048576) (ho : r.own.size ≤ 1048576) (hd : r.da.size ≤ 1048576) :
    Calls Try.prog 20 #[.string ap, .agg #[.string r.own, .int .i64 r.ty, .int .i64 r.cl, .int .i64 r.tt, .string r.da]] w fun e w' => e = .returned (.int .i64 (chC ap r)) ∧ Below w.heap.size w w' := by
  have hR0 := RB.new w r 36
  have hB0 := (Below.refl w.heap.size w).alloc (Nat.le_refl _) (.cells #[.string r.own, .int .i64 r.ty, .int .i64 r.cl, .int .i64 r.tt, .string r.da] 36)
  have hun := fun W => specIsUnder_any r.own ap W (by unfold maxLen; omega) (by unfold maxLen; omega)
  have hme := fun W => l05Meta_any r.ty W
  have hck := fun W => specCheckData_any r.ty r.da W
  have he5 := str_empty (s := r.da)
  have HM : Hid (chC ap r = if isUnderS r.own ap = true then (if (if r.cl = 1 then (!metaB r.ty && (cutCode r.ty r.da == 0)) && decide (r.tt ≤ 2147483647) else if r.cl = 255 then decide (r.tt = 0) && decide (r.da.size = 0) && (decide (r.ty = 255) || !metaB r.ty) else if r.cl = 254 then decide (r.tt = 0) && (!metaB r.ty && (cutCode r.ty r.da == 0)) else false) = true then 0 else 1) else 10) := rfl
  obtain ⟨o, ty, cl, tt, da⟩ := r
  simp only at hR0 hB0 hun hme hck HM he5 ⊢
  generalize chC ap ⟨o, ty, cl, tt, da⟩ = M at *
  generalize isUnderS o ap = U at *
  generalize metaB ty = T at *
  generalize cutCode ty da = C at *
  generalize decide (da.size = 0) = E at *
  clear ho hd ha
  cases U with
  | false =>
    obtain rfl : M = 10 := by rw [HM.out]; simp
    go_enter Try.func20, Try.ntmps20
    go_wp2_with (first | (go_at_call 26; refine (hun _).mono ?_; rintro e w1 ⟨rfl, hb1⟩; obtain ⟨c0, c1, c2, c3, c4⟩ := hR0.below hb1) | (go_at_call 27; refine (hme _).mono ?_; rintro e wf ⟨rfl, hw⟩; obtain rfl := hw.symm; clear hw) | (go_at_call 28; refine (hck _).mono ?_; rintro e w2 ⟨rfl, hb2⟩; obtain ⟨d0, d1, d2, d3, d4⟩ := (hR0.below hb1).below hb2))
    go_ret
    exact ⟨rfl, Nm.below_two hB0 hb1⟩
  | true =>
    obtain ⟨D, hD⟩ : ∃ D, (C == 0) = D := ⟨_, rfl⟩
    rw [hD] at HM
    by_cases h1 : cl = 1
    · subst h1
      cases T with
      | true =>
        obtain rfl : M = 1 := by rw [HM.out]; simp
        go_enter Try.func20, Try.ntmps20
        go_wp2_with (first | (go_at_call 26; refine (hun _).mono ?_; rintro e w1 ⟨rfl, hb1⟩; obtain ⟨c0, c1, c2, c3, c4⟩ := hR0.below hb1) | (go_at_call 27; refine (hme _).mono ?_; rintro e wf ⟨rfl, hw⟩; obtain rfl := hw.symm; clear hw) | (go_at_call 28; refine (hck _).mono ?_; rintro e w2 ⟨rfl, hb2⟩; obtain ⟨d0, d1, d2, d3, d4⟩ := (hR0.below hb1).below hb2))
        go_ret
        exact ⟨rfl, Nm.below_two (Nm.below_two hB0 hb1) hb2⟩
      | false =>
        cases D with
        | false =>
          obtain rfl : M = 1 := by rw [HM.out]; simp
          go_enter Try.func20, Try.ntmps20
          go_wp2_with (first | (go_at_call 26; refine (hun _).mono ?_; rintro e w1 ⟨rfl, hb1⟩; obtain ⟨c0, c1, c2, c3, c4⟩ := hR0.below hb1) | (go_at_call 27; refine (hme _).mono ?_; rintro e wf ⟨rfl, hw⟩; obtain rfl := hw.symm; clear hw) | (go_at_call 28; refine (hck _).mono ?_; rintro e w2 ⟨rfl, hb2⟩; obtain ⟨d0, d1, d2, d3, d4⟩ := (hR0.below hb1).below hb2))
          go_ret
          exact ⟨rfl, Nm.below_two (Nm.below_two hB0 hb1) hb2⟩
        | true =>
          obtain ⟨L, hL⟩ : ∃ L, decide (tt ≤ 2147483647) = L := ⟨_, rfl⟩
          rw [hL] at HM
          cases L with
          | true =>
            obtain rfl : M = 0 := by rw [HM.out]; simp
            have hL' : tt ≤ 2147483647 := by simpa using hL
            go_enter Try.func20, Try.ntmps20
            go_wp2_with (first | (go_at_call 26; refine (hun _).mono ?_; rintro e w1 ⟨rfl, hb1⟩; obtain ⟨c0, c1, c2, c3, c4⟩ := hR0.below hb1) | (go_at_call 27; refine (hme _).mono ?_; rintro e wf ⟨rfl, hw⟩; obtain rfl := hw.symm; clear hw) | (go_at_call 28; refine (hck _).mono ?_; rintro e w2 ⟨rfl, hb2⟩; obtain ⟨d0, d1, d2, d3, d4⟩ := (hR0.below hb1).below hb2))
            go_ret
            exact ⟨rfl, Nm.below_two (Nm.below_two hB0 hb1) hb2⟩
          | false =>
            obtain rfl : M = 1 := by rw [HM.out]; simp
            go_enter Try.func20, Try.ntmps20
            go_wp2_with (first | (go_at_call 26; refine (hun _).mono ?_; rintro e w1 ⟨rfl, hb1⟩; obtain ⟨c0, c1, c2, c3, c4⟩ := hR0.below hb1) | (go_at_call 27; refine (hme _).mono ?_; rintro e wf ⟨rfl, hw⟩; obtain rfl := hw.symm; clear hw) | (go_at_call 28; refine (hck _).mono ?_; rintro e w2 ⟨rfl, hb2⟩; obtain ⟨d0, d1, d2, d3, d4⟩ := (hR0.below hb1).below hb2))
            go_ret
            exact ⟨rfl, Nm.below_two (Nm.below_two hB0 hb1) hb2⟩
    · by_cases h2 : cl = 255
      · subst h2
        by_cases ht : tt = 0
        · subst ht
          cases E with
          | false =>
            obtain rfl : M = 1 := by rw [HM.out]; simp
            go_enter Try.func20, Try.ntmps20
            go_wp2_with (first | (go_at_call 26; refine (hun _).mono ?_; rintro e w1 ⟨rfl, hb1⟩; obtain ⟨c0, c1, c2, c3, c4⟩ := hR0.below hb1) | (go_at_call 27; refine (hme _).mono ?_; rintro e wf ⟨rfl, hw⟩; obtain rfl := hw.symm; clear hw) | (go_at_call 28; refine (hck _).mono ?_; rintro e w2 ⟨rfl, hb2⟩; obtain ⟨d0, d1, d2, d3, d4⟩ := (hR0.below hb1).below hb2))
            go_ret
            exact ⟨rfl, Nm.below_two (Nm.below_two hB0 hb1) hb2⟩
          | true =>
            cases T with
            | false =>
              obtain rfl : M = 0 := by rw [HM.out]; simp
              go_enter Try.func20, Try.ntmps20
              go_wp2_with (first | (go_at_call 26; refine (hun _).mono ?_; rintro e w1 ⟨rfl, hb1⟩; obtain ⟨c0, c1, c2, c3, c4⟩ := hR0.below hb1) | (go_at_call 27; refine (hme _).mono ?_; rintro e wf ⟨rfl, hw⟩; obtain rfl := hw.symm; clear hw) | (go_at_call 28; refine (hck _).mono ?_; rintro e w2 ⟨rfl, hb2⟩; obtain ⟨d0, d1, d2, d3, d4⟩ := (hR0.below hb1).below hb2))
              go_ret
              exact ⟨rfl, Nm.below_two (Nm.below_two hB0 hb1) hb2⟩
            | true =>
              by_cases hy : ty = 255
              · subst hy
                obtain rfl : M = 0 := by rw [HM.out]; simp
                go_enter Try.func20, Try.ntmps20
                go_wp2_with (first | (go_at_call 26; refine (hun _).mono ?_; rintro e w1 ⟨rfl, hb1⟩; obtain ⟨c0, c1, c2, c3, c4⟩ := hR0.below hb1) | (go_at_call 27; refine (hme _).mono ?_; rintro e wf ⟨rfl, hw⟩; obtain rfl := hw.symm; clear hw) | (go_at_call 28; refine (hck _).mono ?_; rintro e w2 ⟨rfl, hb2⟩; obtain ⟨d0, d1, d2, d3, d4⟩ := (hR0.below hb1).below hb2))
                go_ret
                exact ⟨rfl, Nm.below_two (Nm.below_two hB0 hb1) hb2⟩
              · obtain rfl : M = 1 := by rw [HM.out]; simp [hy]
                have hy' : (ty == 255) = false := by simpa using hy
                go_enter Try.func20, Try.ntmps20
                go_wp2_with (first | (go_at_call 26; refine (hun _).mono ?_; rintro e w1 ⟨rfl, hb1⟩; obtain ⟨c0, c1, c2, c3, c4⟩ := hR0.below hb1) | (go_at_call 27; refine (hme _).mono ?_; rintro e wf ⟨rfl, hw⟩; obtain rfl := hw.symm; clear hw) | (go_at_call 28; refine (hck _).mono ?_; rintro e w2 ⟨rfl, hb2⟩; obtain ⟨d0, d1, d2, d3, d4⟩ := (hR0.below hb1).below hb2))
                go_ret
                exact ⟨rfl, Nm.below_two (Nm.below_two hB0 hb1) hb2⟩
        · obtain rfl : M = 1 := by rw [HM.out]; simp [ht]
          go_enter Try.func20, Try.ntmps20
          go_wp2_with (first | (go_at_call 26; refine (hun _).mono ?_; rintro e w1 ⟨rfl, hb1⟩; obtain ⟨c0, c1, c2, c3, c4⟩ := hR0.below hb1) | (go_at_call 27; refine (hme _).mono ?_; rintro e wf ⟨rfl, hw⟩; obtain rfl := hw.symm; clear hw) | (go_at_call 28; refine (hck _).mono ?_; rintro e w2 ⟨rfl, hb2⟩; obtain ⟨d0, d1, d2, d3, d4⟩ := (hR0.below hb1).below hb2))
          go_ret
          exact ⟨rfl, Nm.below_two (Nm.below_two hB0 hb1) hb2⟩
      · by_cases h3 : cl = 254
        · subst h3
          by_cases ht : tt = 0
          · subst ht
            cases T with
            | true =>
              obtain rfl : M = 1 := by rw [HM.out]; simp
              go_enter Try.func20, Try.ntmps20
              go_wp2_with (first | (go_at_call 26; refine (hun _).mono ?_; rintro e w1 ⟨rfl, hb1⟩; obtain ⟨c0, c1, c2, c3, c4⟩ := hR0.below hb1) | (go_at_call 27; refine (hme _).mono ?_; rintro e wf ⟨rfl, hw⟩; obtain rfl := hw.symm; clear hw) | (go_at_call 28; refine (hck _).mono ?_; rintro e w2 ⟨rfl, hb2⟩; obtain ⟨d0, d1, d2, d3, d4⟩ := (hR0.below hb1).below hb2))
              go_ret
              exact ⟨rfl, Nm.below_two (Nm.below_two hB0 hb1) hb2⟩
            | false =>
              cases D with
              | true =>
                obtain rfl : M = 0 := by rw [HM.out]; simp
                go_enter Try.func20, Try.ntmps20
                go_wp2_with (first | (go_at_call 26; refine (hun _).mono ?_; rintro e w1 ⟨rfl, hb1⟩; obtain ⟨c0, c1, c2, c3, c4⟩ := hR0.below hb1) | (go_at_call 27; refine (hme _).mono ?_; rintro e wf ⟨rfl, hw⟩; obtain rfl := hw.symm; clear hw) | (go_at_call 28; refine (hck _).mono ?_; rintro e w2 ⟨rfl, hb2⟩; obtain ⟨d0, d1, d2, d3, d4⟩ := (hR0.below hb1).below hb2))
                go_ret
                exact ⟨rfl, Nm.below_two (Nm.below_two hB0 hb1) hb2⟩
              | false =>
                obtain rfl : M = 1 := by rw [HM.out]; simp
                go_enter Try.func20, Try.ntmps20
                go_wp2_with (first | (go_at_call 26; refine (hun _).mono ?_; rintro e w1 ⟨rfl, hb1⟩; obtain ⟨c0, c1, c2, c3, c4⟩ := hR0.below hb1) | (go_at_call 27; refine (hme _).mono ?_; rintro e wf ⟨rfl, hw⟩; obtain rfl := hw.symm; clear hw) | (go_at_call 28; refine (hck _).mono ?_; rintro e w2 ⟨rfl, hb2⟩; obtain ⟨d0, d1, d2, d3, d4⟩ := (hR0.below hb1).below hb2))
                go_ret
                exact ⟨rfl, Nm.below_two (Nm.below_two hB0 hb1) hb2⟩
          · obtain rfl : M = 1 := by rw [HM.out]; simp [ht]
            go_enter Try.func20, Try.ntmps20
            go_wp2_with (first | (go_at_call 26; refine (hun _).mono ?_; rintro e w1 ⟨rfl, hb1⟩; obtain ⟨c0, c1, c2, c3, c4⟩ := hR0.below hb1) | (go_at_call 27; refine (hme _).mono ?_; rintro e wf ⟨rfl, hw⟩; obtain rfl := hw.symm; clear hw) | (go_at_call 28; refine (hck _).mono ?_; rintro e w2 ⟨rfl, hb2⟩; obtain ⟨d0, d1, d2, d3, d4⟩ := (hR0.below hb1).below hb2))
            go_ret
            exact ⟨rfl, Nm.below_two (Nm.below_two hB0 hb1) hb2⟩
        · obtain rfl : M = 1 := by rw [HM.out]; simp [h1, h2, h3]
          go_enter Try.func20, Try.ntmps20
          go_wp2_with (first | (go_at_call 26; refine (hun _).mono ?_; rintro e w1 ⟨rfl, hb1⟩; obtain ⟨c0, c1, c2, c3, c4⟩ := hR0.below hb1) | (go_at_call 27; refine (hme _).mono ?_; rintro e wf ⟨rfl, hw⟩; obtain rfl := hw.symm; clear hw) | (go_at_call 28; refine (hck _).mono ?_; rintro e w2 ⟨rfl, hb2⟩; obtain ⟨d0, d1, d2, d3, d4⟩ := (hR0.below hb1).below hb2))
          go_ret
          exact ⟨rfl, Nm.below_two (Nm.below_two hB0 hb1) hb2⟩

set_option maxRecDepth 100000 in
set_option maxHeartbeats 3200000 in
theorem l10Changes_any (ap : ByteArray) (v : Value) (xs : List Rr) (w : World) (ha : ap.size ≤ 1048576) (h : CRow w v xs.length 5 (rvVs xs)) (hx : ∀ r ∈ xs, r.own.size ≤ 1048576 ∧ r.da.size ≤ 1048576) :
    Calls Try.prog 12 #[.string ap, v] w fun e w' => e = .returned (.int .i64 (chS ap xs)) ∧ Below w.heap.size w w' := by
  obtain ⟨_, a, cap, rfl, hcap, hmx, hc⟩ := h
  unfold maxLen at hmx
  have hs := fun (r : Rr) (hr : r ∈ xs) W => l10ChangeOK_any ap r W ha (hx r hr).1 (hx r hr).2
  obtain ⟨RES, HRES⟩ : ∃ R, Hid (R = chS ap xs) := ⟨_, rfl⟩
  rw [← HRES.out]
  clear hx
  go_enter Try.func12, Try.ntmps12
  go_wp2
  go_loopw [5] (fun i wr => ∃ k : Nat, k ≤ xs.length ∧ i = .int .i64 k ∧ Hid ((xs.take k).all (zeroB ap) = true) ∧ Below w.heap.size w wr) (fun i _ => xs.length - (intOf i).toNat)
  case atStart => exact ⟨0, Nat.zero_le _, rfl, by show _ = _; simp, Below.refl _ _⟩
  case round =>
    obtain ⟨k, hk, rfl, HA, hbel⟩ := hrel
    by_cases hlt : k < xs.length
    · obtain ⟨x, hxk⟩ : ∃ x, xs[k]? = some x := ⟨_, List.getElem?_eq_getElem hlt⟩
      obtain ⟨b, off, rfl, hcell⟩ := hc (by omega)
      obtain ⟨c0, c1, c2, c3, c4⟩ := rv_cells hcell hxk
      have put : ∀ {O : Nat} {z : Value}, w.cell? ⟨b, O, none⟩ = some z → wr.cell? ⟨b, O, none⟩ = some z := fun h => (hbel.cell (World.block_lt_of_cell? w _ h)).trans h
      replace c0 := put c0
      replace c1 := put c1
      replace c2 := put c2
      replace c3 := put c3
      replace c4 := put c4
      have hmem := List.mem_of_getElem? hxk
      have hone := hs x hmem wr
      have i1 : (0 : Int) ≤ (k : Int) := by omega
      have i2 : (k : Int) < (xs.length : Int) := by omega
      by_cases hz : chC ap x = 0
      · have HA2 : Hid ((xs.take (k + 1)).all (zeroB ap) = true) := by show _ = _; rw [all_take' hxk, HA.out, zeroB, hz]; rfl
        rw [hz] at hone
        clear hs hmem hxk hcell hc hz
        obtain ⟨o, ty, cl, tt, da⟩ := x
        simp only at *
        go_wp2_with (go_at_call 20; refine hone.mono ?_; rintro e w1 ⟨rfl, hb1⟩)
        go_roundw
        case rel => exact ⟨k + 1, by omega, by go_num, HA2, Nm.below_two hbel hb1⟩
        case measure => simp [intOf]; omega
      · have hre : RES = chC ap x := by rw [HRES.out]; exact chS_at HA.out hxk hz
        rw [← hre] at hone hz
        have hz' : (RES != 0) = true := by simpa using hz
        clear hs hmem hxk hcell hc HRES hre hz
        obtain ⟨o, ty, cl, tt, da⟩ := x
        simp only at *
        go_wp2_with (go_at_call 20; refine hone.mono ?_; rintro e w1 ⟨rfl, hb1⟩)
        go_ret
        exact ⟨rfl, Nm.below_two hbel hb1⟩
    · have hkl : k = xs.length := by omega
      subst hkl
      have HT := HA.out
      rw [List.take_length] at HT
      obtain rfl : RES = 0 := by rw [HRES.out, chS_zero HT]
      clear HT HA hc HRES hs
      have i2 : ¬ (xs.length : Int) < (xs.length : Int) := by omega
      go_wp2
      go_ret
      exact ⟨rfl, hbel⟩

set_option maxRecDepth 100000 in
set_option maxHeartbeats 1600000 in
theorem specCheckChanges_any (ap : ByteArray) (v : Value) (xs : List Rr) (w : World) (ha : ap.size ≤ 1048576) (h : CRow w v xs.length 5 (rvVs xs)) (hx : ∀ r ∈ xs, r.own.size ≤ 1048576 ∧ r.da.size ≤ 1048576) :
    Calls Try.prog 5 #[.string ap, v] w fun e w' => e = .returned (.tuple #[.int .i64 (if ccB ap xs = true then chS ap xs else 0), .int .i64 (if ccB ap xs = true then 0 else 32)]) ∧ Below w.heap.size w w' := by
  have hno := specNameOK_any ap w (by unfold maxLen; omega)
  have hso := fun W (hW : Below w.heap.size w W) => l10ListOK_any v xs W (h.below hW) hx
  have hcc := fun W (hW : Below w.heap.size w W) => l10Changes_any ap v xs W ha (h.below hW) hx
  obtain ⟨_, a, cap, rfl, hcap, hmx, _⟩ := h
  cases hq : (Nm.split ap).isSome with
  | false =>
    have hcb : ccB ap xs = false := by simp [ccB, hq]
    rw [hcb]
    rw [hq] at hno
    clear hcb hq hso hcc
    go_enter Try.func5, Try.ntmps5
    go_wp2_with fail
    refine hno.mono ?_
    rintro e w1 ⟨rfl, hb1⟩
    go_wp2
    go_ret2
    exact ⟨rfl, hb1⟩
  | true =>
    rw [hq] at hno
    have hcb : ccB ap xs = listB xs := by rw [ccB, hq]; rfl
    rw [hcb]
    cases hl : listB xs with
    | false =>
      rw [hl] at hso
      clear hcb hq hcc hl
      go_enter Try.func5, Try.ntmps5
      go_wp2_with fail
      refine hno.mono ?_
      rintro e w1 ⟨rfl, hb1⟩
      go_wp2_with fail
      refine (hso _ hb1).mono ?_
      rintro e w2 ⟨rfl, hb2⟩
      go_wp2
      go_ret2
      exact ⟨rfl, Nm.below_two hb1 hb2⟩
    | true =>
      rw [hl] at hso
      generalize chS ap xs = C at *
      clear hcb hq hl
      go_enter Try.func5, Try.ntmps5
      go_wp2_with fail
      refine hno.mono ?_
      rintro e w1 ⟨rfl, hb1⟩
      go_wp2_with fail
      refine (hso _ hb1).mono ?_
      rintro e w2 ⟨rfl, hb2⟩
      have hB2 := Nm.below_two hb1 hb2
      go_wp2_with fail
      refine (hcc _ hB2).mono ?_
      rintro e w3 ⟨rfl, hb3⟩
      go_wp2
      go_ret2
      exact ⟨rfl, Nm.below_two hB2 hb3⟩
end Go.Proofs.Ytoiajlgmnkoekaa
