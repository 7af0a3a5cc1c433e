import Derived.Test.YtddabafaejahbaaGreatDoorJSRead
import Derived.Test.YtddabafaejahbaaGreatDoorJRdA
import Derived.Test.YtddabafaejahbaaGreatDoorJRf4
import Derived.Test.YtddabafaejahbaaGreatDoorJRi2
import Derived.Test.YtddabafaejahbaaGreatDoorJRdN
import Derived.Test.YtddabafaejahbaaGreatDoorJSSmall
import Derived.Test.YtddabafaejahbaaGreatDoorJRc4
import Derived.Deep.CutRange
/- spec.NameOK by its contract. -/
namespace Go.Proofs.YtddabafaejahbaaGreatDoor
open Go.RowKit

set_option maxRecDepth 100000 in
set_option maxHeartbeats 400000 in
theorem specNameOK_any (s : ByteArray) (w : World) (hs : s.size ≤ maxLen) :
    Calls Tryz.prog 16 #[.string s] w fun e w' => e = .returned (.bool (Nm.split s).isSome) ∧ Below w.heap.size w w' := by
  go_enter Tryz.func16, Tryz.ntmps16
  go_wp2_with (go_at_call 36; refine (l01Split_any s _ hs).mono ?_; rintro e w1 ⟨v, rfl, hown, hbel⟩)
  go_ret
  exact ⟨rfl, by assumption⟩
end Go.Proofs.YtddabafaejahbaaGreatDoor
/- spec.ReadData by its contract. -/
namespace Go.Proofs.YtddabafaejahbaaGreatDoor
open Go.RowKit
set_option linter.unusedVariables false

theorem name_askS {o : ByteArray} {bo : Bool} (h : bo = (decide (o.size ≠ 0) && !(Nm.split o).isSome)) : bo = true ↔ (o.size ≠ 0 ∧ (Nm.split o).isSome = false) := by
  subst h
  cases (Nm.split o).isSome <;> by_cases h0 : o.size = 0 <;> simp [h0]
theorem script_all (t : Int) : (scriptS t).data.toList.all (fun c => kindB c || c == 109) = true := by
  unfold scriptS
  repeat' split
  all_goals rfl
theorem kindAt_mem {s : ByteArray} (h : 0 < s.size) (i : Nat) : kindAt s i ∈ s.data.toList := by
  have g : ∀ j, (hj : j < s.size) → s[j] ∈ s.data.toList := fun j hj => List.mem_of_getElem? (Nm.get_data hj)
  unfold kindAt
  split
  · exact g _ _
  · exact g _ _
theorem script_kind {t : Int} (h : 0 < (scriptS t).size) (i : Nat) (hk : kindAt (scriptS t) i ≠ 109) : kindB (kindAt (scriptS t) i) = true := by
  have := List.all_eq_true.1 (script_all t) _ (kindAt_mem h i)
  simp only [Bool.or_eq_true, beq_iff_eq] at this
  exact this.resolve_right hk
theorem map_sizeS (l : List Int) : (mapR l).1.size ≤ 10000000 := by
  unfold mapR
  split
  · show (outTo (memB l) 256).toArray.size ≤ _
    have := outTo_len (memB l) 256
    simp
    omega
  · exact Nat.zero_le _
theorem wsz_stepS {ws : List Wrd} {j : Nat} {x : Wrd} (h : ws[j]? = some x) : wsz (ws.take (j + 1)) = wsz (ws.take j) + x.1.size := wsz_step h

set_option maxRecDepth 100000 in
set_option maxHeartbeats 4000000 in
theorem specReadData_any (t : Int) (v : Value) (ws : List Wrd) (o : ByteArray) (w : World) (h : CRow w v ws.length 2 (wdVs ws)) (hn : ws.length ≤ 1048576) (hz : wsz ws ≤ 1048576) (ho : o.size ≤ 1048576) :
    Calls Tryz.prog 6 #[.int .i64 t, v, .string o] w fun e w' => e = .returned (strV (readDS t ws o)) ∧ Below w.heap.size w w' := by
  obtain ⟨i0, hi, hz0, hz1, hz2⟩ := info_parts Tryz.infoI64r
  obtain ⟨R, HR⟩ : ∃ R, Hid (R = readDS t ws o) := ⟨_, rfl⟩
  rw [← HR.out]
  have HC := Nm.hide h
  obtain ⟨_, a, cap, rfl, hcap, hmx, hc⟩ := h
  have HCC := Nm.hide hc
  clear hc
  by_cases ht : t < 0
  · have HN : Hid (R = (⟨#[]⟩, 6)) := by show _ = _; rw [HR.out, readDS, if_pos (.inl ht)]
    have d1 : decide (t < 0) = true := by simp; exact ht
    clear ht
    go_enter Tryz.func6, Tryz.ntmps6
    go_wp2
    go_ret2
    rw [HN.out]
    exact ⟨rfl, Below.refl _ _⟩
  by_cases ht2 : 65535 < t
  · have HN : Hid (R = (⟨#[]⟩, 6)) := by show _ = _; rw [HR.out, readDS, if_pos (.inr ht2)]
    have d1 : decide (t < 0) = false := by simp; omega
    have d2 : decide (65535 < t) = true := by simp; exact ht2
    clear ht ht2
    go_enter Tryz.func6, Tryz.ntmps6
    go_wp2
    go_ret2
    rw [HN.out]
    exact ⟨rfl, Below.refl _ _⟩
  have d1 : decide (t < 0) = false := by simp; omega
  have d2 : decide (65535 < t) = false := by simp; omega
  have H1 : Hid (R = if o.size ≠ 0 ∧ (Nm.split o).isSome = false then (⟨#[]⟩, 32) else if 300 < ws.length then (⟨#[]⟩, 11) else if isPl ws = true then plainS t ws.tail else formD t ws o) := by
    show _ = _
    rw [HR.out, readDS, if_neg (by omega)]
  clear HR
  obtain ⟨bo, HB⟩ : ∃ bo, Hid (bo = (decide (o.size ≠ 0) && !(Nm.split o).isSome)) := ⟨_, rfl⟩
  have hNO := fun W => specNameOK_any o W (by unfold maxLen; omega)
  go_enter Tryz.func6, Tryz.ntmps6
  go_upto_region 3 with fail
  go_cut [31] from 25 to 31 (fun p wx => p = .bool bo ∧ Below w.heap.size w wx)
  case first =>
    by_cases h0 : o.size = 0
    · obtain ⟨q1, q2⟩ := beq_empty h0
      have HE : Hid (bo = false) := by show _ = _; rw [HB.out]; simp [h0]
      clear h0 hNO
      go_wp2
      go_meet
      case rel => rw [HE.out]; exact ⟨rfl, Below.refl _ _⟩
    · obtain ⟨q1, q2⟩ := not_empty (s := o) (by omega)
      have HE : Hid (bo = !(Nm.split o).isSome) := by show _ = _; rw [HB.out]; simp [h0]
      clear h0
      generalize (Nm.split o).isSome = sb at *
      go_wp2_with (go_at_call 16; refine (hNO _).mono ?_; rintro e w1 ⟨rfl, hb1⟩)
      go_meet
      case rel => rw [HE.out]; exact ⟨rfl, hb1⟩
  case rest =>
    obtain ⟨rfl, hb1⟩ := hcut
    clear hNO
    cases bo with
    | true =>
      have HN : Hid (R = (⟨#[]⟩, 32)) := by
        show _ = _
        rw [H1.out, if_pos ((name_askS HB.out).1 rfl)]
      go_wp2
      go_ret2
      rw [HN.out]
      exact ⟨rfl, hb1⟩
    | false =>
      have H2 : Hid (R = if 300 < ws.length then (⟨#[]⟩, 11) else if isPl ws = true then plainS t ws.tail else formD t ws o) := by
        show _ = _
        rw [H1.out, if_neg (fun h => by have := (name_askS HB.out).2 h; cases this)]
      clear H1 HB
      by_cases h3 : 300 < ws.length
      · have HN : Hid (R = (⟨#[]⟩, 11)) := by show _ = _; rw [H2.out, if_pos h3]
        have i3 : (300 : Int) < (ws.length : Int) := by omega
        go_wp2
        go_ret2
        rw [HN.out]
        exact ⟨rfl, hb1⟩
      have i3 : ¬ (300 : Int) < (ws.length : Int) := by omega
      have H3 : Hid (R = if isPl ws = true then plainS t ws.tail else formD t ws o) := by show _ = _; rw [H2.out, if_neg h3]
      clear H2
      go_upto_region 7 with fail
      go_cut [51] from 35 to 51 (fun p wx => p = .bool (isPl ws) ∧ wx = wc)
      case first =>
        by_cases h0 : ws.length = 0
        · have e0 : ws = [] := List.length_eq_zero_iff.1 h0
          have j0 : ¬ (0 : Int) < (ws.length : Int) := by omega
          have HE : Hid (isPl ws = false) := by show _ = _; rw [e0]; rfl
          clear h0 e0
          go_wp2
          go_meet
          case rel => rw [HE.out]; exact ⟨rfl, rfl⟩
        · obtain ⟨x, xs, hxs⟩ := List.exists_cons_of_ne_nil (show ws ≠ [] from fun e => h0 (by rw [e]; rfl))
          have hx : ws[0]? = some x := by rw [hxs]; rfl
          obtain ⟨b, off, rfl, hcell⟩ := HCC.out (by omega)
          have c0 : wc.cell? ⟨b, off, none⟩ = some (.string x.1) := (hb1.cell (World.block_lt_of_cell? w _ (hcell _ _ (wdVs_at ws 0 0 x hx (by decide))))).trans (hcell _ _ (wdVs_at ws 0 0 x hx (by decide)))
          have c1 : wc.cell? ⟨b, off + 1, none⟩ = some (.bool x.2) := (hb1.cell (World.block_lt_of_cell? w _ (hcell _ _ (wdVs_at ws 0 1 x hx (by decide))))).trans (hcell _ _ (wdVs_at ws 0 1 x hx (by decide)))
          have HE : Hid (isPl ws = (x.1.toList == [92, 35] && !x.2)) := by show _ = _; rw [hxs]; rfl
          have j0 : (0 : Int) < (ws.length : Int) := by omega
          clear h0 hx hxs hcell
          cases hm : (x.1.toList == [92, 35]) with
          | false =>
            rw [hm, Bool.false_and] at HE
            go_wp2
            go_meet
            case rel => rw [HE.out]; exact ⟨rfl, rfl⟩
          | true =>
            rw [hm, Bool.true_and] at HE
            go_wp2
            go_meet
            case rel => rw [HE.out]; exact ⟨rfl, rfl⟩
      case rest =>
        obtain ⟨rfl, rfl⟩ := hcut
        obtain ⟨wq, hwq⟩ : ∃ wq, wq = wc := ⟨_, rfl⟩
        subst hwq
        cases hp : isPl ws with
        | true =>
          have HN : Hid (R = plainS t ws.tail) := by show _ = _; rw [H3.out, if_pos hp]
          cases ws with
          | nil => cases hp
          | cons x r =>
            have hrow := HC.out.below hb1
            simp only [List.length_cons] at *
            obtain ⟨b, off, rfl, _⟩ := HCC.out (by omega)
            obtain ⟨q1, q2, q3⟩ := wd_tail hrow
            have hzr : wsz r ≤ 1048576 := by rw [wsz_cons] at hz; omega
            rw [List.tail_cons] at HN
            have hp2 := l03Plain_any t _ r wq q2 (by omega) hzr
            have hp3 := fun h1 => l03Plain_any t _ r wq (q3 h1) (by omega) hzr
            clear HC HCC H3 q2 q3 hrow hp
            generalize plainS t r = P at *
            unfold strV at *
            generalize r.length = n at *
            by_cases hc1 : cap = 1
            · have hn0 : n = 0 := by omega
              subst hc1 hn0
              have hp1 := hp3 rfl
              clear hp2 hp3
              go_wp2_with (go_at_call 17; refine hp1.mono ?_; rintro e w2 ⟨rfl, hb2⟩)
              go_ret2
              rw [HN.out]
              exact ⟨rfl, Nm.below_two hb1 hb2⟩
            · clear hp3
              go_wp2_with (go_at_call 17; refine hp2.mono ?_; rintro e w2 ⟨rfl, hb2⟩)
              go_ret2
              rw [HN.out]
              exact ⟨rfl, Nm.below_two hb1 hb2⟩
        | false =>
          have H4 : Hid (R = formD t ws o) := by show _ = _; rw [H3.out, if_neg (by rw [hp]; decide)]
          clear H3 hp
          have hsc := fun W => l03Script_any t W
          have hs7 := script_size t
          have HK : Hid (0 < (scriptS t).size → ∀ i, kindAt (scriptS t) i ≠ 109 → kindB (kindAt (scriptS t) i) = true) := fun h i hk => script_kind h i hk
          have H5 : Hid (R = if (scriptS t).size = 0 ∨ manyB (scriptS t) ws.length = false then (⟨#[]⟩, 15) else rdE (rdF (scriptS t) o 0 ws ⟨#[]⟩ [])) := by show _ = _; rw [H4.out, formD]
          clear H4
          generalize scriptS t = s at *
          by_cases h0 : s.size = 0
          · obtain ⟨q1, q2⟩ := beq_empty h0
            have HN : Hid (R = (⟨#[]⟩, 15)) := by show _ = _; rw [H5.out, if_pos (.inl h0)]
            clear h0 H5 HK HC HCC
            go_wp2_with (go_at_call 18; refine (hsc _).mono ?_; rintro e w2 ⟨rfl, hw⟩; obtain rfl := hw.symm; clear hw)
            go_ret2
            rw [HN.out]
            exact ⟨rfl, hb1⟩
          · obtain ⟨q1, q2⟩ := not_empty (s := s) (by omega)
            have hmn := fun W => l03Many_any s ws.length W (by omega) (by omega)
            cases hm : manyB s ws.length with
            | false =>
              have HN : Hid (R = (⟨#[]⟩, 15)) := by show _ = _; rw [H5.out, if_pos (.inr hm)]
              rw [hm] at hmn
              clear h0 H5 HK HC HCC hm
              go_wp2_with (first | (go_at_call 18; refine (hsc _).mono ?_; rintro e w2 ⟨rfl, hw⟩; obtain rfl := hw.symm; clear hw) | (go_at_call 19; refine (hmn _).mono ?_; rintro e w2 ⟨rfl, hw⟩; obtain rfl := hw.symm; clear hw))
              go_ret2
              rw [HN.out]
              exact ⟨rfl, hb1⟩
            | true =>
              have H6 : Hid (R = rdE (rdF s o 0 ws ⟨#[]⟩ [])) := by show _ = _; rw [H5.out, if_neg (fun h => h.elim h0 (fun h2 => by rw [hm] at h2; cases h2))]
              rw [hm] at hmn
              have HK2 := Nm.hide (HK.out (by omega))
              have hHC : Hid (CRow wq (.slice a ws.length cap) ws.length 2 (wdVs ws)) := HC.out.below hb1
              clear H5 HK HC HCC hm
              have hst : Hid (RdAt s o ws 0 ⟨#[]⟩ []) := rfl
              have hs1 : 1 ≤ s.size := by omega
              clear h0
              go_wp2_with (first | (go_at_call 18; refine (hsc _).mono ?_; rintro e w2 ⟨rfl, hw⟩; obtain rfl := hw.symm; clear hw) | (go_at_call 19; refine (hmn _).mono ?_; rintro e w2 ⟨rfl, hw⟩; obtain rfl := hw.symm; clear hw))
              clear hsc hmn q1 q2
              go_loopw [9, 10, 11] (fun out v i wr => ∃ (j : Nat) (b : ByteArray) (l : List Int), j ≤ ws.length ∧ i = .int .i64 (j : Int) ∧ out = .string b ∧ Hid (RdAt s o ws j b l) ∧ Hid (b.size ≤ wsz (ws.take j) + j * (o.size + 300)) ∧ Hid (l.length ≤ j) ∧ wr.ownsRow wq.heap.size 2 1 v l.length (intCells l) ∧ Below wq.heap.size wq wr) (fun _ _ i _ => ws.length - (intOf i).toNat)
              case atStart => exact ⟨0, ⟨#[]⟩, [], Nat.zero_le _, rfl, rfl, hst, Nat.zero_le _, Nat.le_refl _, World.ownsRow_made wq #[] 0 (Nat.le_refl _) (by decide) rfl, (Below.refl _ _).alloc (Nat.le_refl _) _⟩
              case round =>
                obtain ⟨j, b, l, hj, rfl, rfl, HA, HL, HT, hown, hbel⟩ := hrel
                clear hst
                have hszr := hbel.size
                by_cases hlt : j < ws.length
                · obtain ⟨x, hx⟩ : ∃ x, ws[j]? = some x := ⟨_, List.getElem?_eq_getElem hlt⟩
                  obtain ⟨_, a', cap', ea, _, _, hcc⟩ := hHC.out
                  cases ea
                  obtain ⟨b', off, rfl, hcell⟩ := hcc (by omega)
                  have put : ∀ {g O : Nat} {z : Value}, wq.cell? ⟨g, O, none⟩ = some z → wr.cell? ⟨g, O, none⟩ = some z := fun h => (hbel.cell (World.block_lt_of_cell? wq _ h)).trans h
                  have c0 : wr.cell? ⟨b', off + j * 2, none⟩ = some (.string x.1) := put (hcell _ _ (wdVs_at ws j 0 x hx (by decide)))
                  have c1 : wr.cell? ⟨b', off + j * 2 + 1, none⟩ = some (.bool x.2) := put (hcell _ _ (wdVs_at ws j 1 x hx (by decide)))
                  have j1 : (0 : Int) ≤ (j : Int) := by omega
                  have j2 : (j : Int) < (ws.length : Int) := by omega
                  obtain ⟨m, hm⟩ : ∃ m : Nat, m + 1 = s.size := ⟨s.size - 1, by omega⟩
                  have hmlt : m < s.size := by omega
                  have e1 : (s.size : Int) - 1 = (m : Int) := by omega
                  have m1 : (0 : Int) ≤ (m : Int) := by omega
                  have m2 : (m : Int) < (s.size : Int) := by omega
                  have mw : IntKind.i64.wrap (m : Int) = (m : Int) := by rw [Go.wrap_small _ (by omega) (by omega)]
                  have hxz := wsz_mem (List.mem_of_getElem? hx)
                  have hrz := readWd_size (kindAt s j) x o
                  have hwd := fun (hk : kindAt s j ≠ 109) W => l03Word_any (kindAt s j) x.1 o x.2 W (by omega) (by unfold maxLen; omega) (HK2.out j hk)
                  have hty := fun W => specReadType_any x.1 W (by omega)
                  obtain ⟨T, hT⟩ : ∃ T, T = readTyS x.1 := ⟨_, rfl⟩
                  obtain ⟨r, hr⟩ : ∃ r, r = readWd (kindAt s j) x o := ⟨_, rfl⟩
                  have HQ1 : Hid (kindAt s j = 109 → x.2 = true → R = (⟨#[]⟩, 15)) := fun hk hq => by rw [H6.out, rd_quot HA.out hx hk hq]
                  have HQ2 : Hid (kindAt s j = 109 → x.2 = false → T.2 ≠ 0 → R = (⟨#[]⟩, T.2)) := fun hk hq hc => by rw [H6.out, hT, rd_type HA.out hx hk hq (by rw [← hT]; exact hc)]
                  have HQ3 : Hid (kindAt s j = 109 → x.2 = false → T.2 = 0 → RdAt s o ws (j + 1) b (l ++ [T.1])) := fun hk hq hc => by rw [hT]; exact rd_typ2 HA.out hx hk hq (by rw [← hT]; exact hc)
                  have HW1 : Hid (kindAt s j ≠ 109 → r.2 ≠ 0 → R = (⟨#[]⟩, r.2)) := fun hk hc => by rw [H6.out, hr, rd_word HA.out hx hk (by rw [← hr]; exact hc)]
                  have HW2 : Hid (kindAt s j ≠ 109 → r.2 = 0 → RdAt s o ws (j + 1) (b ++ r.1) l) := fun hk hc => by rw [hr]; exact rd_wor2 HA.out hx hk (by rw [← hr]; exact hc)
                  have HL2 : Hid ((b ++ r.1).size ≤ wsz (ws.take (j + 1)) + (j + 1) * (o.size + 300)) := by
                    show _ ≤ _
                    have h1 := HL.out
                    rw [wsz_step hx, ByteArray.size_append, Nat.add_mul, hr]
                    omega
                  have HL3 : Hid (b.size ≤ wsz (ws.take (j + 1)) + (j + 1) * (o.size + 300)) := by
                    show _ ≤ _
                    have h1 := HL.out
                    rw [wsz_step hx, Nat.add_mul]
                    omega
                  have hsum : b.size + r.1.size ≤ 9223372036854775807 := by
                    have h1 := HL.out
                    have h2 := wsz_take ws j
                    have h4 : j * (o.size + 300) ≤ 300 * (1048576 + 300) := Nat.mul_le_mul (by omega) (by omega)
                    rw [hr]
                    omega
                  have hl3 : l.length ≤ 300 := by have := HT.out; omega
                  have hwd2 : kindAt s j ≠ 109 → ∀ W, Calls Tryz.prog 21 #[.int .u8 ((kindAt s j).toNat : Int), .agg #[.string x.1, .bool x.2], .string o] W fun e w' => e = .returned (.tuple #[.string r.1, .int .i64 r.2]) ∧ Below W.heap.size W w' := by
                    intro hk W
                    rw [hr]
                    exact hwd hk W
                  rw [← hT] at hty
                  unfold pairV at hty
                  have HKA : Hid ((j < s.size → (hj : j < s.size) → kindAt s j = s[j]) ∧ (¬ j < s.size → kindAt s j = s[m])) := by
                    refine ⟨fun h hj => by rw [kindAt, dif_pos hj], fun h => ?_⟩
                    rw [kindAt, dif_neg h, dif_pos (by omega)]
                    congr 1
                    omega
                  clear hcell put hcc hx hwd hrz hT hr HA HL hm
                  go_upto_if 84 with fail
                  go_cut [12] from 76 to 87 (fun p wx => p = .int .u8 ((kindAt s j).toNat : Int) ∧ wx = wr)
                  case first =>
                    clear hwd2 hty
                    by_cases hjs : j < s.size
                    · have k2 : (j : Int) < (s.size : Int) := by omega
                      have HE := Nm.hide (HKA.out.1 hjs hjs)
                      go_wp2
                      go_meet
                      case rel => rw [HE.out]; exact ⟨rfl, rfl⟩
                    · have k2 : ¬ (j : Int) < (s.size : Int) := by omega
                      have HE := Nm.hide (HKA.out.2 hjs)
                      go_wp2
                      go_meet
                      case rel => rw [HE.out]; exact ⟨rfl, rfl⟩
                  case rest =>
                    obtain ⟨rfl, rfl⟩ := hcut
                    clear HKA e1 m1 m2 mw hmlt
                    by_cases hk : kindAt s j = 109
                    · rw [hk]
                      have kk : (((109 : UInt8).toNat : Int) == 109) = true := by decide
                      clear hwd2 HW1 HW2 HL2
                      cases hq : x.2 with
                      | true =>
                        rw [hq] at c1
                        have HN := Nm.hide (HQ1.out hk hq)
                        clear HQ1 HQ2 HQ3 hk hq hty HL3 hsum
                        go_wp2
                        go_ret2
                        rw [HN.out]
                        exact ⟨rfl, Nm.below_two hb1 hbel⟩
                      | false =>
                        rw [hq] at c1
                        by_cases h0 : T.2 = 0
                        · have HN := Nm.hide (HQ3.out hk hq h0)
                          rw [h0] at hty
                          clear HQ1 HQ2 HQ3 hk hq h0 hsum
                          generalize T.1 = tt at *
                          go_wp2_with (first | (go_at_call 20; refine (hty _).mono ?_; rintro e w2 ⟨rfl, hb2⟩; have hown2 := own_below hown hb2; have hbel2 := Nm.below_two hbel hb2; have hsz2 := hbel2.size) | (at_builtin; refine wpList_append_own _ rfl (.tmp 107) (.tmp 109) 44 rfl wq.heap.size 2 i0 (.int .i64 0) 1 8 Tryz.underlying44 hi hz0 hz1 hz2 rfl (by decide) _ _ _ rfl (hown2.alloc _) ⟨w2.heap.size, 0, none⟩ 1 1 [.int .i64 tt] rfl rfl (cell_new1 _ _ _) (Nm.one_cell _ rfl) (by unfold maxLen; omega) (by omega) (by simp; omega) ?_))
                          intro v' w4 hown' hgrow _
                          have o4 : w4.ownsRow wq.heap.size 2 1 v' (l ++ [tt]).length (intCells (l ++ [tt])) := by simpa [intCells] using hown'
                          have b4 : Below wq.heap.size wq w4 := (hbel2.alloc hsz2 _).grown hgrow (by simp; omega) (fun q hq => (hown2.lt q hq).1)
                          have HT4 : Hid ((l ++ [tt]).length ≤ j + 1) := by show _ ≤ _; have := HT.out; simp; omega
                          clear hown' hgrow hown hbel
                          go_wp2
                          go_roundw
                          case rel => exact ⟨j + 1, b, l ++ [tt], by omega, by go_num, rfl, HN, HL3, HT4, o4, b4⟩
                          case measure => simp [intOf]; omega
                        · have HN := Nm.hide (HQ2.out hk hq h0)
                          have d0 : (T.2 == 0) = false := by simpa using h0
                          clear HQ1 HQ2 HQ3 hk hq h0 hsum HL3
                          go_wp2_with (go_at_call 20; refine (hty _).mono ?_; rintro e w2 ⟨rfl, hb2⟩)
                          go_ret2
                          rw [HN.out]
                          exact ⟨rfl, Nm.below_two (Nm.below_two hb1 hbel) hb2⟩
                    · have kk : (((kindAt s j).toNat : Int) == 109) = false := by
                        rw [beq_eq_false_iff_ne]
                        intro e
                        apply hk
                        apply UInt8.toNat_inj.1
                        have h9 : (109 : UInt8).toNat = 109 := rfl
                        omega
                      have hwd3 := hwd2 hk
                      have HX1 := Nm.hide (HW1.out hk)
                      have HX2 := Nm.hide (HW2.out hk)
                      clear hwd2 HW1 HW2 HQ1 HQ2 HQ3 hty hk HL3
                      generalize kindAt s j = kd at *
                      by_cases h0 : r.2 = 0
                      · have HN := Nm.hide (HX2.out h0)
                        have d0 : (r.2 == 0) = true := by simpa using h0
                        have HT4 : Hid (l.length ≤ j + 1) := by show _ ≤ _; have := HT.out; omega
                        clear HX1 HX2 h0
                        go_wp2_with (go_at_call 21; refine (hwd3 _).mono ?_; rintro e w2 ⟨rfl, hb2⟩)
                        go_roundw
                        case rel => exact ⟨j + 1, b ++ r.1, l, by omega, by go_num, rfl, HN, HL2, HT4, own_below hown hb2, Nm.below_two hbel hb2⟩
                        case measure => simp [intOf]; omega
                      · have HN := Nm.hide (HX1.out h0)
                        have d0 : (r.2 == 0) = false := by simpa using h0
                        clear HX1 HX2 h0 hsum
                        go_wp2_with (go_at_call 21; refine (hwd3 _).mono ?_; rintro e w2 ⟨rfl, hb2⟩)
                        go_ret2
                        rw [HN.out]
                        exact ⟨rfl, Nm.below_two (Nm.below_two hb1 hbel) hb2⟩
                · have hjn : j = ws.length := by omega
                  subst hjn
                  have HE := Nm.hide (rd_end HA.out (Nat.le_refl _))
                  have htm := fun u W (hW : CRow W u l.length 1 (intCells l)) => specTypeMap_any u l W hW (by have := HT.out; omega)
                  have hcr := CRow.of_owns hown
                  have hbz : b.size ≤ 400000000 := by
                    have h1 := HL.out
                    have h2 := wsz_take ws ws.length
                    have h4 : ws.length * (o.size + 300) ≤ 300 * (1048576 + 300) := Nat.mul_le_mul (by omega) (by omega)
                    omega
                  have hms := map_sizeS l
                  have H7 : Hid (R = if 65535 < (b ++ (mapR l).1).size then (⟨#[]⟩, 7) else (b ++ (mapR l).1, 0)) := by show _ = _; rw [H6.out, HE.out]
                  have hsum : b.size + (mapR l).1.size ≤ 9223372036854775807 := by omega
                  have hasz : (b ++ (mapR l).1).size = b.size + (mapR l).1.size := ByteArray.size_append
                  clear HA HL HE H6
                  generalize mapR l = M at *
                  have hi2 : ¬ (ws.length : Int) < (ws.length : Int) := by omega
                  by_cases h7 : 65535 < (b ++ M.1).size
                  · have HN : Hid (R = (⟨#[]⟩, 7)) := by show _ = _; rw [H7.out, if_pos h7]
                    have d7 : (65535 : Int) < (b.size : Int) + (M.1.size : Int) := by omega
                    have d8 : (65535 : Int) < ((b ++ M.1).size : Int) := by omega
                    clear H7 hasz h7
                    go_wp2_with (go_at_call 22; refine (htm _ _ hcr).mono ?_; rintro e w2 ⟨rfl, hb2⟩)
                    go_ret2
                    rw [HN.out]
                    exact ⟨rfl, Nm.below_two (Nm.below_two hb1 hbel) hb2⟩
                  · have HN : Hid (R = (b ++ M.1, 0)) := by show _ = _; rw [H7.out, if_neg h7]
                    have d7 : ¬ (65535 : Int) < (b.size : Int) + (M.1.size : Int) := by omega
                    have d8 : ¬ (65535 : Int) < ((b ++ M.1).size : Int) := by omega
                    clear H7 hasz h7
                    go_wp2_with (go_at_call 22; refine (htm _ _ hcr).mono ?_; rintro e w2 ⟨rfl, hb2⟩)
                    go_ret2
                    rw [HN.out]
                    exact ⟨rfl, Nm.below_two (Nm.below_two hb1 hbel) hb2⟩
end Go.Proofs.YtddabafaejahbaaGreatDoor
