import Derived.Test.YtddabafaejahbaaGreatDoorJRdA
import Derived.Test.YtddabafaejahbaaGreatDoorJTf1
import Derived.Test.YtddabafaejahbaaGreatDoorJRdZ
import Derived.Test.YtddabafaejahbaaGreatDoorJRdY
import Derived.Test.YtddabafaejahbaaGreatDoorJINbd
import Derived.Deep.CutRange
import Derived.Shelf.Strings.Builder1
import Derived.Shelf.Strings.Builder2
import Derived.Shelf.Strings.OnBuilder
import Derived.Shelf.Small.Strs
import Derived.Shelf.Utf8.RuneCount
import Derived.Shelf.Strconv.Itoa0
import Derived.Shelf.Strconv.Itoa1
import Derived.Shelf.LaysM
import Derived.Shelf.Strconv.Itoa2
import Derived.Shelf.Strconv.Itoa3
import Derived.Shelf.Strings.Search1
import Derived.Shelf.Strings.Search2
import Derived.Shelf.Strings.Search3
import Derived.Shelf.Strings.Cut
import Derived.Shelf.Strings.Count
import Derived.Shelf.Strings.Shaped
import Derived.Shelf.Strings.Split
import Derived.Shelf.Strings.SplitShaped
import Derived.Shelf.Unicode.Decode
import Derived.Shelf.Strings.RuneCount
import Derived.Shelf.Strings.Explode
import Derived.Shelf.Bits.Mul64
import Derived.Shelf.Unicode.DecodeSlow
import Derived.Shelf.Unicode.DecodeAny
import Derived.Ground.Names2Prog
import Derived.Shelf.Slices.SearchI
import Derived.Test.YtddabafaejahbaaGreatDoorProg
import Derived.Test.YtddabafaejahbaaGreatDoorJMath
import Derived.Test.YtddabafaejahbaaGreatDoorJOwnT
import Derived.Test.YtddabafaejahbaaGreatDoorJTxt8
import Derived.ChangeAgain
/- spec.ReadData by its contract. -/
namespace Go.Proofs.YtddabafaejahbaaGreatDoor
open Go.RowKit
set_option linter.unusedVariables false
theorem name_askS {o : ByteArray} {bo : Bool} (h : bo = (decide (o.size ≠ 0) && !(Nm.split o).isSome)) : bo = true ↔ (o.size ≠ 0 ∧ (Nm.split o).isSome = false) := by
 subst h; cases (Nm.split o).isSome <;> by_cases h0 : o.size = 0 <;> simp [h0]
theorem script_all (t : Int) : (scriptS t).data.toList.all (fun c => kindB c || c == 109) = true := by
 unfold scriptS
 repeat' split
 all_goals rfl
theorem kindAt_mem {s : ByteArray} (h : 0 < s.size) (i : Nat) : kindAt s i ∈ s.data.toList := by
 have g : ∀ j, (hj : j < s.size) → s[j] ∈ s.data.toList := fun j hj => List.mem_of_getElem? (Nm.get_data hj)
 unfold kindAt; split
 · exact g _ _
 · exact g _ _
theorem script_kind {t : Int} (h : 0 < (scriptS t).size) (i : Nat) (hk : kindAt (scriptS t) i ≠ 109) : kindB (kindAt (scriptS t) i) = true := by
 have := List.all_eq_true.1 (script_all t) _ (kindAt_mem h i); simp only [Bool.or_eq_true, beq_iff_eq] at this; exact this.resolve_right hk
theorem map_sizeS (l : List Int) : (mapR l).1.size ≤ 10000000 := by
 unfold mapR; split
 · show (outTo (memB l) 256).toArray.size ≤ _
   have := outTo_len (memB l) 256; simp
   omega
 · exact Nat.zero_le _
set_option maxRecDepth 100000 in
set_option maxHeartbeats 4000000 in
theorem specReadData_any (t : Int) (v : Value) (ws : List Wrd) (o : ByteArray) (w : World) (h : CRow w v ws.length 2 (wdVs ws)) (hn : ws.length ≤ 1048576) (hz : wsz ws ≤ 1048576) (ho : o.size ≤ 1048576) :
 Calls Tryz.prog 6 #[.int .i64 t, v, .string o] w fun e w' => e = .returned (strV (readDS t ws o)) ∧ Below w.heap.size w w' := by
 obtain ⟨i0, hi, hz0, hz1, hz2⟩ := info_parts Tryz.infoI64r; obtain ⟨R, HR⟩ : ∃ R, Hid (R = readDS t ws o) := ⟨_, rfl⟩; rw [← HR.out]; have HC := Nm.hide h; obtain ⟨_, a, cap, rfl, hcap, hmx, hc⟩ := h; have HCC := Nm.hide hc; clear hc
 by_cases ht : t < 0
 · have HN : Hid (R = (⟨#[]⟩, 6)) := by show _ = _; rw [HR.out, readDS, if_pos (.inl ht)]
   have d1 : decide (t < 0) = true := by simp; exact ht
   clear ht; go_enter Tryz.func6, Tryz.ntmps6; go_wp2; go_ret2; rw [HN.out]; exact ⟨rfl, Below.refl _ _⟩
 by_cases ht2 : 65535 < t
 · have HN : Hid (R = (⟨#[]⟩, 6)) := by show _ = _; rw [HR.out, readDS, if_pos (.inr ht2)]
   have d1 : decide (t < 0) = false := by simp; omega
   have d2 : decide (65535 < t) = true := by simp; exact ht2
   clear ht ht2; go_enter Tryz.func6, Tryz.ntmps6; go_wp2; go_ret2; rw [HN.out]; exact ⟨rfl, Below.refl _ _⟩
 have d1 : decide (t < 0) = false := by simp; omega
 have d2 : decide (65535 < t) = false := by simp; omega
 have H1 : Hid (R = if o.size ≠ 0 ∧ (Nm.split o).isSome = false then (⟨#[]⟩, 32) else if 300 < ws.length then (⟨#[]⟩, 11) else if isPl ws = true then plainS t ws.tail else formD t ws o) := by
  show _ = _
  rw [HR.out, readDS, if_neg (by omega)]
 clear HR; obtain ⟨bo, HB⟩ : ∃ bo, Hid (bo = (decide (o.size ≠ 0) && !(Nm.split o).isSome)) := ⟨_, rfl⟩; have hNO := fun W => specNameOK_any o W (by unfold maxLen; omega)
 go_enter Tryz.func6, Tryz.ntmps6; go_upto_region 3 with fail
 go_cut [31] from 25 to 31 (fun p wx => p = .bool bo ∧ Below w.heap.size w wx)
 case first =>
  by_cases h0 : o.size = 0
  · obtain ⟨q1, q2⟩ := beq_empty h0; have HE : Hid (bo = false) := by show _ = _; rw [HB.out]; simp [h0]
    clear h0 hNO; go_wp2; go_meet
    case rel => rw [HE.out]; exact ⟨rfl, Below.refl _ _⟩
  · obtain ⟨q1, q2⟩ := not_empty (s := o) (by omega); have HE : Hid (bo = !(Nm.split o).isSome) := by show _ = _; rw [HB.out]; simp [h0]
    clear h0; generalize (Nm.split o).isSome = sb at *; go_wp2_with (go_at_call 16; refine (hNO _).mono ?_; rintro e w1 ⟨rfl, hb1⟩)
    go_meet
    case rel => rw [HE.out]; exact ⟨rfl, hb1⟩
 case rest =>
  obtain ⟨rfl, hb1⟩ := hcut; clear hNO
  cases bo with
  | true =>
    have HN : Hid (R = (⟨#[]⟩, 32)) := by
     show _ = _
     rw [H1.out, if_pos ((name_askS HB.out).1 rfl)]
    go_wp2; go_ret2; rw [HN.out]
    exact ⟨rfl, hb1⟩
  | false =>
    have H2 : Hid (R = if 300 < ws.length then (⟨#[]⟩, 11) else if isPl ws = true then plainS t ws.tail else formD t ws o) := by
     show _ = _
     rw [H1.out, if_neg (fun h => by have := (name_askS HB.out).2 h; cases this)]
    clear H1 HB
    by_cases h3 : 300 < ws.length
    · have HN : Hid (R = (⟨#[]⟩, 11)) := by show _ = _; rw [H2.out, if_pos h3]
      have i3 : (300 : Int) < (ws.length : Int) := by omega
      go_wp2; go_ret2; rw [HN.out]; exact ⟨rfl, hb1⟩
    have i3 : ¬ (300 : Int) < (ws.length : Int) := by omega
    have H3 : Hid (R = if isPl ws = true then plainS t ws.tail else formD t ws o) := by show _ = _; rw [H2.out, if_neg h3]
    clear H2; go_upto_region 7 with fail
    go_cut [51] from 35 to 51 (fun p wx => p = .bool (isPl ws) ∧ wx = wc)
    case first =>
     by_cases h0 : ws.length = 0
     · have e0 : ws = [] := List.length_eq_zero_iff.1 h0; have j0 : ¬ (0 : Int) < (ws.length : Int) := by omega
       have HE : Hid (isPl ws = false) := by show _ = _; rw [e0]; rfl
       clear h0 e0; go_wp2; go_meet
       case rel => rw [HE.out]; exact ⟨rfl, rfl⟩
     · obtain ⟨x, xs, hxs⟩ := List.exists_cons_of_ne_nil (show ws ≠ [] from fun e => h0 (by rw [e]; rfl)); have hx : ws[0]? = some x := by rw [hxs]; rfl
       obtain ⟨b, off, rfl, hcell⟩ := HCC.out (by omega); have c0 : wc.cell? ⟨b, off, none⟩ = some (.string x.1) := (hb1.cell (World.block_lt_of_cell? w _ (hcell _ _ (wdVs_at ws 0 0 x hx (by decide))))).trans (hcell _ _ (wdVs_at ws 0 0 x hx (by decide))); have c1 : wc.cell? ⟨b, off + 1, none⟩ = some (.bool x.2) := (hb1.cell (World.block_lt_of_cell? w _ (hcell _ _ (wdVs_at ws 0 1 x hx (by decide))))).trans (hcell _ _ (wdVs_at ws 0 1 x hx (by decide))); have HE : Hid (isPl ws = (x.1.toList == [92, 35] && !x.2)) := by show _ = _; rw [hxs]; rfl
       have j0 : (0 : Int) < (ws.length : Int) := by omega
       clear h0 hx hxs hcell
       cases hm : (x.1.toList == [92, 35]) with
       | false =>
         rw [hm, Bool.false_and] at HE; go_wp2; go_meet
         case rel => rw [HE.out]; exact ⟨rfl, rfl⟩
       | true =>
         rw [hm, Bool.true_and] at HE; go_wp2; go_meet
         case rel => rw [HE.out]; exact ⟨rfl, rfl⟩
    case rest =>
     obtain ⟨rfl, rfl⟩ := hcut; obtain ⟨wq, hwq⟩ : ∃ wq, wq = wc := ⟨_, rfl⟩; subst hwq
     cases hp : isPl ws with
     | true =>
       have HN : Hid (R = plainS t ws.tail) := by show _ = _; rw [H3.out, if_pos hp]
       cases ws with
       | nil => cases hp
       | cons x r =>
         have hrow := HC.out.below hb1; simp only [List.length_cons] at *; obtain ⟨b, off, rfl, _⟩ := HCC.out (by omega); obtain ⟨q1, q2, q3⟩ := wd_tail hrow; have hzr : wsz r ≤ 1048576 := by rw [wsz_cons] at hz; omega
         rw [List.tail_cons] at HN; have hp2 := l03Plain_any t _ r wq q2 (by omega) hzr; have hp3 := fun h1 => l03Plain_any t _ r wq (q3 h1) (by omega) hzr
         clear HC HCC H3 q2 q3 hrow hp; generalize plainS t r = P at *; unfold strV at *; generalize r.length = n at *
         by_cases hc1 : cap = 1
         · have hn0 : n = 0 := by omega
           subst hc1 hn0; have hp1 := hp3 rfl; clear hp2 hp3; go_wp2_with (go_at_call 17; refine hp1.mono ?_; rintro e w2 ⟨rfl, hb2⟩)
           go_ret2; rw [HN.out]; exact ⟨rfl, Nm.below_two hb1 hb2⟩
         · clear hp3; go_wp2_with (go_at_call 17; refine hp2.mono ?_; rintro e w2 ⟨rfl, hb2⟩)
           go_ret2; rw [HN.out]
           exact ⟨rfl, Nm.below_two hb1 hb2⟩
     | false =>
       have H4 : Hid (R = formD t ws o) := by show _ = _; rw [H3.out, if_neg (by rw [hp]; decide)]
       clear H3 hp; have hsc := fun W => l03Script_any t W
       have hs7 := script_size t; have HK : Hid (0 < (scriptS t).size → ∀ i, kindAt (scriptS t) i ≠ 109 → kindB (kindAt (scriptS t) i) = true) := fun h i hk => script_kind h i hk
       have H5 : Hid (R = if (scriptS t).size = 0 ∨ manyB (scriptS t) ws.length = false then (⟨#[]⟩, 15) else rdE (rdF (scriptS t) o 0 ws ⟨#[]⟩ [])) := by show _ = _; rw [H4.out, formD]
       clear H4; generalize scriptS t = s at *
       by_cases h0 : s.size = 0
       · obtain ⟨q1, q2⟩ := beq_empty h0; have HN : Hid (R = (⟨#[]⟩, 15)) := by show _ = _; rw [H5.out, if_pos (.inl h0)]
         clear h0 H5 HK HC HCC; go_wp2_with (go_at_call 18; refine (hsc _).mono ?_; rintro e w2 ⟨rfl, hw⟩; obtain rfl := hw.symm; clear hw)
         go_ret2; rw [HN.out]; exact ⟨rfl, hb1⟩
       · obtain ⟨q1, q2⟩ := not_empty (s := s) (by omega); have hmn := fun W => l03Many_any s ws.length W (by omega) (by omega)
         cases hm : manyB s ws.length with
         | false =>
           have HN : Hid (R = (⟨#[]⟩, 15)) := by show _ = _; rw [H5.out, if_pos (.inr hm)]
           rw [hm] at hmn; clear h0 H5 HK HC HCC hm; go_wp2_with (first | (go_at_call 18; refine (hsc _).mono ?_; rintro e w2 ⟨rfl, hw⟩; obtain rfl := hw.symm; clear hw) | (go_at_call 19; refine (hmn _).mono ?_; rintro e w2 ⟨rfl, hw⟩; obtain rfl := hw.symm; clear hw))
           go_ret2; rw [HN.out]
           exact ⟨rfl, hb1⟩
         | true =>
           have H6 : Hid (R = rdE (rdF s o 0 ws ⟨#[]⟩ [])) := by show _ = _; rw [H5.out, if_neg (fun h => h.elim h0 (fun h2 => by rw [hm] at h2; cases h2))]
           rw [hm] at hmn; have HK2 := Nm.hide (HK.out (by omega)); have hHC : Hid (CRow wq (.slice a ws.length cap) ws.length 2 (wdVs ws)) := HC.out.below hb1; clear H5 HK HC HCC hm; have hst : Hid (RdAt s o ws 0 ⟨#[]⟩ []) := rfl; have hs1 : 1 ≤ s.size := by omega
           clear h0; go_wp2_with (first | (go_at_call 18; refine (hsc _).mono ?_; rintro e w2 ⟨rfl, hw⟩; obtain rfl := hw.symm; clear hw) | (go_at_call 19; refine (hmn _).mono ?_; rintro e w2 ⟨rfl, hw⟩; obtain rfl := hw.symm; clear hw))
           clear hsc hmn q1 q2
           go_loopw [9, 10, 11] (fun out v i wr => ∃ (j : Nat) (b : ByteArray) (l : List Int), j ≤ ws.length ∧ i = .int .i64 (j : Int) ∧ out = .string b ∧ Hid (RdAt s o ws j b l) ∧ Hid (b.size ≤ wsz (ws.take j) + j * (o.size + 300)) ∧ Hid (l.length ≤ j) ∧ wr.ownsRow wq.heap.size 2 1 v l.length (intCells l) ∧ Below wq.heap.size wq wr) (fun _ _ i _ => ws.length - (intOf i).toNat)
           case atStart => exact ⟨0, ⟨#[]⟩, [], Nat.zero_le _, rfl, rfl, hst, Nat.zero_le _, Nat.le_refl _, World.ownsRow_made wq #[] 0 (Nat.le_refl _) (by decide) rfl, (Below.refl _ _).alloc (Nat.le_refl _) _⟩
           case round =>
            obtain ⟨j, b, l, hj, rfl, rfl, HA, HL, HT, hown, hbel⟩ := hrel; clear hst; have hszr := hbel.size
            by_cases hlt : j < ws.length
            · obtain ⟨x, hx⟩ : ∃ x, ws[j]? = some x := ⟨_, List.getElem?_eq_getElem hlt⟩; obtain ⟨_, a', cap', ea, _, _, hcc⟩ := hHC.out; cases ea
              obtain ⟨b', off, rfl, hcell⟩ := hcc (by omega); have put : ∀ {g O : Nat} {z : Value}, wq.cell? ⟨g, O, none⟩ = some z → wr.cell? ⟨g, O, none⟩ = some z := fun h => (hbel.cell (World.block_lt_of_cell? wq _ h)).trans h
              have c0 : wr.cell? ⟨b', off + j * 2, none⟩ = some (.string x.1) := put (hcell _ _ (wdVs_at ws j 0 x hx (by decide))); have c1 : wr.cell? ⟨b', off + j * 2 + 1, none⟩ = some (.bool x.2) := put (hcell _ _ (wdVs_at ws j 1 x hx (by decide))); have j1 : (0 : Int) ≤ (j : Int) := by omega
              have j2 : (j : Int) < (ws.length : Int) := by omega
              obtain ⟨m, hm⟩ : ∃ m : Nat, m + 1 = s.size := ⟨s.size - 1, by omega⟩; have hmlt : m < s.size := by omega
              have e1 : (s.size : Int) - 1 = (m : Int) := by omega
              have m1 : (0 : Int) ≤ (m : Int) := by omega
              have m2 : (m : Int) < (s.size : Int) := by omega
              have mw : IntKind.i64.wrap (m : Int) = (m : Int) := by rw [Go.wrap_small _ (by omega) (by omega)]
              have hxz := wsz_mem (List.mem_of_getElem? hx); have hrz := readWd_size (kindAt s j) x o; have hwd := fun (hk : kindAt s j ≠ 109) W => l03Word_any (kindAt s j) x.1 o x.2 W (by omega) (by unfold maxLen; omega) (HK2.out j hk)
              have hty := fun W => specReadType_any x.1 W (by omega)
              obtain ⟨T, hT⟩ : ∃ T, T = readTyS x.1 := ⟨_, rfl⟩; obtain ⟨r, hr⟩ : ∃ r, r = readWd (kindAt s j) x o := ⟨_, rfl⟩; have HQ1 : Hid (kindAt s j = 109 → x.2 = true → R = (⟨#[]⟩, 15)) := fun hk hq => by rw [H6.out, rd_quot HA.out hx hk hq]
              have HQ2 : Hid (kindAt s j = 109 → x.2 = false → T.2 ≠ 0 → R = (⟨#[]⟩, T.2)) := fun hk hq hc => by rw [H6.out, hT, rd_type HA.out hx hk hq (by rw [← hT]; exact hc)]
              have HQ3 : Hid (kindAt s j = 109 → x.2 = false → T.2 = 0 → RdAt s o ws (j + 1) b (l ++ [T.1])) := fun hk hq hc => by rw [hT]; exact rd_typ2 HA.out hx hk hq (by rw [← hT]; exact hc)
              have HW1 : Hid (kindAt s j ≠ 109 → r.2 ≠ 0 → R = (⟨#[]⟩, r.2)) := fun hk hc => by rw [H6.out, hr, rd_word HA.out hx hk (by rw [← hr]; exact hc)]
              have HW2 : Hid (kindAt s j ≠ 109 → r.2 = 0 → RdAt s o ws (j + 1) (b ++ r.1) l) := fun hk hc => by rw [hr]; exact rd_wor2 HA.out hx hk (by rw [← hr]; exact hc)
              have HL2 : Hid ((b ++ r.1).size ≤ wsz (ws.take (j + 1)) + (j + 1) * (o.size + 300)) := by
               show _ ≤ _
               have h1 := HL.out; rw [wsz_step hx, ByteArray.size_append, Nat.add_mul, hr]; omega
              have HL3 : Hid (b.size ≤ wsz (ws.take (j + 1)) + (j + 1) * (o.size + 300)) := by
               show _ ≤ _
               have h1 := HL.out; rw [wsz_step hx, Nat.add_mul]; omega
              have hsum : b.size + r.1.size ≤ 9223372036854775807 := by
               have h1 := HL.out; have h2 := wsz_take ws j; have h4 : j * (o.size + 300) ≤ 300 * (1048576 + 300) := Nat.mul_le_mul (by omega) (by omega); rw [hr]; omega
              have hl3 : l.length ≤ 300 := by have := HT.out; omega
              have hwd2 : kindAt s j ≠ 109 → ∀ W, Calls Tryz.prog 21 #[.int .u8 ((kindAt s j).toNat : Int), .agg #[.string x.1, .bool x.2], .string o] W fun e w' => e = .returned (.tuple #[.string r.1, .int .i64 r.2]) ∧ Below W.heap.size W w' := by
               intro hk W; rw [hr]; exact hwd hk W
              rw [← hT] at hty; unfold pairV at hty
              have HKA : Hid ((j < s.size → (hj : j < s.size) → kindAt s j = s[j]) ∧ (¬ j < s.size → kindAt s j = s[m])) := by
               refine ⟨fun h hj => by rw [kindAt, dif_pos hj], fun h => ?_⟩; rw [kindAt, dif_neg h, dif_pos (by omega)]; congr 1; omega
              clear hcell put hcc hx hwd hrz hT hr HA HL hm; go_upto_if 84 with fail
              go_cut [12] from 76 to 87 (fun p wx => p = .int .u8 ((kindAt s j).toNat : Int) ∧ wx = wr)
              case first =>
               clear hwd2 hty
               by_cases hjs : j < s.size
               · have k2 : (j : Int) < (s.size : Int) := by omega
                 have HE := Nm.hide (HKA.out.1 hjs hjs); go_wp2; go_meet
                 case rel => rw [HE.out]; exact ⟨rfl, rfl⟩
               · have k2 : ¬ (j : Int) < (s.size : Int) := by omega
                 have HE := Nm.hide (HKA.out.2 hjs); go_wp2; go_meet
                 case rel => rw [HE.out]; exact ⟨rfl, rfl⟩
              case rest =>
               obtain ⟨rfl, rfl⟩ := hcut; clear HKA e1 m1 m2 mw hmlt
               by_cases hk : kindAt s j = 109
               · rw [hk]; have kk : (((109 : UInt8).toNat : Int) == 109) = true := by decide
                 clear hwd2 HW1 HW2 HL2
                 cases hq : x.2 with
                 | true =>
                   rw [hq] at c1; have HN := Nm.hide (HQ1.out hk hq); clear HQ1 HQ2 HQ3 hk hq hty HL3 hsum; go_wp2; go_ret2; rw [HN.out]
                   exact ⟨rfl, Nm.below_two hb1 hbel⟩
                 | false =>
                   rw [hq] at c1
                   by_cases h0 : T.2 = 0
                   · have HN := Nm.hide (HQ3.out hk hq h0); rw [h0] at hty; clear HQ1 HQ2 HQ3 hk hq h0 hsum; generalize T.1 = tt at *; go_wp2_with (first | (go_at_call 20; refine (hty _).mono ?_; rintro e w2 ⟨rfl, hb2⟩; have hown2 := own_below hown hb2; have hbel2 := Nm.below_two hbel hb2; have hsz2 := hbel2.size) | (at_builtin; refine wpList_append_own _ rfl (.tmp 107) (.tmp 109) 44 rfl wq.heap.size 2 i0 (.int .i64 0) 1 8 Tryz.underlying44 hi hz0 hz1 hz2 rfl (by decide) _ _ _ rfl (hown2.alloc _) ⟨w2.heap.size, 0, none⟩ 1 1 [.int .i64 tt] rfl rfl (cell_new1 _ _ _) (Nm.one_cell _ rfl) (by unfold maxLen; omega) (by omega) (by simp; omega) ?_))
                     intro v' w4 hown' hgrow _; have o4 : w4.ownsRow wq.heap.size 2 1 v' (l ++ [tt]).length (intCells (l ++ [tt])) := by simpa [intCells] using hown'
                     have b4 : Below wq.heap.size wq w4 := (hbel2.alloc hsz2 _).grown hgrow (by simp; omega) (fun q hq => (hown2.lt q hq).1); have HT4 : Hid ((l ++ [tt]).length ≤ j + 1) := by show _ ≤ _; have := HT.out; simp; omega
                     clear hown' hgrow hown hbel; go_wp2; go_roundw
                     case rel => exact ⟨j + 1, b, l ++ [tt], by omega, by go_num, rfl, HN, HL3, HT4, o4, b4⟩
                     case measure => simp [intOf]; omega
                   · have HN := Nm.hide (HQ2.out hk hq h0); have d0 : (T.2 == 0) = false := by simpa using h0
                     clear HQ1 HQ2 HQ3 hk hq h0 hsum HL3; go_wp2_with (go_at_call 20; refine (hty _).mono ?_; rintro e w2 ⟨rfl, hb2⟩)
                     go_ret2; rw [HN.out]; exact ⟨rfl, Nm.below_two (Nm.below_two hb1 hbel) hb2⟩
               · have kk : (((kindAt s j).toNat : Int) == 109) = false := by
                  rw [beq_eq_false_iff_ne]; intro e; apply hk; apply UInt8.toNat_inj.1; have h9 : (109 : UInt8).toNat = 109 := rfl; omega
                 have hwd3 := hwd2 hk; have HX1 := Nm.hide (HW1.out hk); have HX2 := Nm.hide (HW2.out hk); clear hwd2 HW1 HW2 HQ1 HQ2 HQ3 hty hk HL3; generalize kindAt s j = kd at *
                 by_cases h0 : r.2 = 0
                 · have HN := Nm.hide (HX2.out h0); have d0 : (r.2 == 0) = true := by simpa using h0
                   have HT4 : Hid (l.length ≤ j + 1) := by show _ ≤ _; have := HT.out; omega
                   clear HX1 HX2 h0; go_wp2_with (go_at_call 21; refine (hwd3 _).mono ?_; rintro e w2 ⟨rfl, hb2⟩)
                   go_roundw
                   case rel => exact ⟨j + 1, b ++ r.1, l, by omega, by go_num, rfl, HN, HL2, HT4, own_below hown hb2, Nm.below_two hbel hb2⟩
                   case measure => simp [intOf]; omega
                 · have HN := Nm.hide (HX1.out h0); have d0 : (r.2 == 0) = false := by simpa using h0
                   clear HX1 HX2 h0 hsum; go_wp2_with (go_at_call 21; refine (hwd3 _).mono ?_; rintro e w2 ⟨rfl, hb2⟩)
                   go_ret2; rw [HN.out]; exact ⟨rfl, Nm.below_two (Nm.below_two hb1 hbel) hb2⟩
            · have hjn : j = ws.length := by omega
              subst hjn; have HE := Nm.hide (rd_end HA.out (Nat.le_refl _)); have htm := fun u W (hW : CRow W u l.length 1 (intCells l)) => specTypeMap_any u l W hW (by have := HT.out; omega)
              have hcr := CRow.of_owns hown
              have hbz : b.size ≤ 400000000 := by
               have h1 := HL.out; have h2 := wsz_take ws ws.length; have h4 : ws.length * (o.size + 300) ≤ 300 * (1048576 + 300) := Nat.mul_le_mul (by omega) (by omega); omega
              have hms := map_sizeS l; have H7 : Hid (R = if 65535 < (b ++ (mapR l).1).size then (⟨#[]⟩, 7) else (b ++ (mapR l).1, 0)) := by show _ = _; rw [H6.out, HE.out]
              have hsum : b.size + (mapR l).1.size ≤ 9223372036854775807 := by omega
              have hasz : (b ++ (mapR l).1).size = b.size + (mapR l).1.size := ByteArray.size_append; clear HA HL HE H6; generalize mapR l = M at *; have hi2 : ¬ (ws.length : Int) < (ws.length : Int) := by omega
              by_cases h7 : 65535 < (b ++ M.1).size
              · have HN : Hid (R = (⟨#[]⟩, 7)) := by show _ = _; rw [H7.out, if_pos h7]
                have d7 : (65535 : Int) < (b.size : Int) + (M.1.size : Int) := by omega
                have d8 : (65535 : Int) < ((b ++ M.1).size : Int) := by omega
                clear H7 hasz h7; go_wp2_with (go_at_call 22; refine (htm _ _ hcr).mono ?_; rintro e w2 ⟨rfl, hb2⟩)
                go_ret2; rw [HN.out]; exact ⟨rfl, Nm.below_two (Nm.below_two hb1 hbel) hb2⟩
              · have HN : Hid (R = (b ++ M.1, 0)) := by show _ = _; rw [H7.out, if_neg h7]
                have d7 : ¬ (65535 : Int) < (b.size : Int) + (M.1.size : Int) := by omega
                have d8 : ¬ (65535 : Int) < ((b ++ M.1).size : Int) := by omega
                clear H7 hasz h7; go_wp2_with (go_at_call 22; refine (htm _ _ hcr).mono ?_; rintro e w2 ⟨rfl, hb2⟩)
                go_ret2; rw [HN.out]; exact ⟨rfl, Nm.below_two (Nm.below_two hb1 hbel) hb2⟩
end Go.Proofs.YtddabafaejahbaaGreatDoor
/- Contracts of the library at this dump. -/
namespace Go.Proofs
open Go.Shelf
def Tryz.laysM147_ren : Go.Shelf.Ren := ⟨fun | 147 => 115 | 221 => 168 | 268 => 203 | 138 => 204 | 143 => 205 | 195 => 224 | 197 => 225 | 218 => 226 | 219 => 207 | 260 => 238 | 217 => 228 | 225 => 229 | 224 => 230 | 267 => 231 | 266 => 239 | 314 => 240 | n => n, fun | 9 => 9 | 3 => 3 | 31 => 82 | 4 => 4 | 0 => 0 | 105 => 280 | 21 => 21 | 5 => 5 | 46 => 93 | 119 => 292 | 139 => 295 | 138 => 294 | 146 => 266 | 51 => 265 | n => n, fun | 1 => 3 | 3 => 6 | 4 => 7 | n => n⟩
theorem Tryz.laysM147 : Go.Proofs.LaysM.n147 Tryz.prog Tryz.laysM147_ren := {
 mixed := by kernel_rfl
 f138 := Tryz.func204.trans (congrArg some (by kernel_rfl))
 f143 := Tryz.func205.trans (congrArg some (by kernel_rfl))
 f147 := Tryz.func115.trans (congrArg some (by kernel_rfl))
 f195 := Tryz.func224.trans (congrArg some (by kernel_rfl))
 f197 := Tryz.func225.trans (congrArg some (by kernel_rfl))
 f217 := Tryz.func228.trans (congrArg some (by kernel_rfl))
 f218 := Tryz.func226.trans (congrArg some (by kernel_rfl))
 f219 := Tryz.func207.trans (congrArg some (by kernel_rfl))
 f221 := Tryz.func168.trans (congrArg some (by kernel_rfl))
 f224 := Tryz.func230.trans (congrArg some (by kernel_rfl))
 f225 := Tryz.func229.trans (congrArg some (by kernel_rfl))
 f260 := Tryz.func238.trans (congrArg some (by kernel_rfl))
 f266 := Tryz.func239.trans (congrArg some (by kernel_rfl))
 f267 := Tryz.func231.trans (congrArg some (by kernel_rfl))
 f268 := Tryz.func203.trans (congrArg some (by kernel_rfl))
 f314 := Tryz.func240.trans (congrArg some (by kernel_rfl))
 t0 := Tryz.underlying0
 a0 := Tryz.isAgg0
 z0 := Tryz.sizeOf0
 v0 := Tryz.zeroValue0
 t3 := Tryz.underlying3
 a3 := Tryz.isAgg3
 z3 := Tryz.sizeOf3
 v3 := Tryz.zeroValue3
 t4 := Tryz.underlying4
 a4 := Tryz.isAgg4
 z4 := Tryz.sizeOf4
 v4 := Tryz.zeroValue4
 t5 := Tryz.underlying5
 a5 := Tryz.isAgg5
 z5 := Tryz.sizeOf5
 v5 := Tryz.zeroValue5
 t9 := Tryz.underlying9
 a9 := Tryz.isAgg9
 z9 := Tryz.sizeOf9
 v9 := Tryz.zeroValue9
 t21 := Tryz.underlying21
 a21 := Tryz.isAgg21
 z21 := Tryz.sizeOf21
 v21 := Tryz.zeroValue21
 t31 := Tryz.underlying82
 a31 := Tryz.isAgg82
 z31 := Tryz.sizeOf82
 v31 := Tryz.zeroValue82
 t46 := Tryz.underlying93
 a46 := Tryz.isAgg93
 z46 := Tryz.sizeOf93
 v46 := Tryz.zeroValue93
 t51 := Tryz.underlying265
 a51 := Tryz.isAgg265
 z51 := Tryz.sizeOf265
 v51 := Tryz.zeroValue265
 t105 := Tryz.underlying280
 a105 := Tryz.isAgg280
 z105 := Tryz.sizeOf280
 v105 := Tryz.zeroValue280
 t119 := Tryz.underlying292
 a119 := Tryz.isAgg292
 z119 := Tryz.sizeOf292
 t138 := Tryz.underlying294
 a138 := Tryz.isAgg294
 z138 := Tryz.sizeOf294
 v138 := Tryz.zeroValue294
 t139 := Tryz.underlying295
 a139 := Tryz.isAgg295
 z139 := Tryz.sizeOf295
 v139 := Tryz.zeroValue295
 t146 := Tryz.underlying266
 a146 := Tryz.isAgg266
 z146 := Tryz.sizeOf266
 v146 := Tryz.zeroValue266
 g1 := by kernel_rfl
 g3 := by kernel_rfl
 g4 := by kernel_rfl
 i0 := by kernel_rfl
 i3 := by kernel_rfl
 i4 := by kernel_rfl
 i5 := by kernel_rfl
 i9 := by kernel_rfl
 i21 := by kernel_rfl
 i31 := by kernel_rfl
 i46 := by kernel_rfl
 i51 := by kernel_rfl
 i105 := by kernel_rfl
 i138 := by kernel_rfl
 i139 := by kernel_rfl
 i146 := by kernel_rfl
 m1 := by kernel_rfl
 s1_3 := fun w h => Go.Proofs.cell_of_shapedOpen_int (zero := #[.int .i64 0]) (t := 3) h (of_decide_eq_true (by kernel_rfl)) (by kernel_rfl) rfl (by kernel_rfl) (by kernel_rfl) Tryz.underlying3
 m3 := by kernel_rfl
 m4 := by kernel_rfl }
open Go.RowKit Go.Lib in
theorem Tryz.strings_SplitN_shaped (s sep : ByteArray) (n : Nat) (w : World) (h : w.ShapedOpen Tryz.prog) (hs : s.size < 4294967281) (h1 : 1 ≤ sep.size) (hn : 1 ≤ n) (hn63 : n ≤ 9223372036854775807) :
 Calls Tryz.prog 115 #[.string s, .string sep, .int .i64 n] w fun e w' =>
  e = .returned (.slice (some ⟨w.heap.size, 0, none⟩) (Lib.splitB sep 0 (min n (s.size + 1) - 1) s).length (min n (s.size + 1))) ∧ w' = w.alloc (.cells (Lib.cellsOf (Lib.splitB sep 0 (min n (s.size + 1) - 1) s) (min n (s.size + 1))) 9) := Any.strings_SplitN_shaped Tryz.laysM147 s sep n w h hs h1 hn hn63
end Go.Proofs
/- impl.ReadV4 by its contract. -/
namespace Go.Proofs.YtddabafaejahbaaGreatDoor
open Go.RowKit
theorem shaped_below {P : Program} {w w' : World} (h : w.ShapedOpen P) (hb : Below w.heap.size w w') : w'.ShapedOpen P :=
 h.keptBut (hb.frame (fun _ => False)) (fun _ hp => hp.elim)
/-- What strings.SplitN at five parts gives. -/
def Parts5 (s : ByteArray) (w w' : World) (v : Value) : Prop :=
 ∃ n cap, v = .slice (some ⟨w.heap.size, 0, none⟩) n cap ∧ (n = 4 ↔ (cutB s 46).length = 4) ∧ n ≤ cap ∧ cap ≤ 5 ∧ ((cutB s 46).length = 4 → ∀ (k : Nat) (x : ByteArray), (cutB s 46)[k]? = some x → w'.cell? ⟨w.heap.size, k, none⟩ = some (.string x))
theorem splitN5_any (s : ByteArray) (w : World) (hsh : w.ShapedOpen Tryz.prog) (hs : s.size ≤ 2000000) :
 Calls Tryz.prog 115 #[.string s, .string ⟨#[46]⟩, .int .i64 5] w fun e w' => ∃ v, e = .returned v ∧ Parts5 s w w' v ∧ Below w.heap.size w w' := by
 refine (Tryz.strings_SplitN_shaped s ⟨#[46]⟩ 5 w hsh (by omega) (by decide) (by decide) (by decide)).mono ?_; rintro e w' ⟨rfl, rfl⟩; have hl := splitB_len s 46 (min 5 (s.size + 1) - 1); have hc := cutB_le s 46
 have hpos : 1 ≤ (cutB s 46).length := by
  rw [cutB_len]; obtain ⟨h, t, e⟩ := cutP_ne 46 s.data.toList; rw [e]; simp
 refine ⟨_, rfl, ⟨_, _, rfl, ?_, ?_, ?_, ?_⟩, (Below.refl _ _).alloc (Nat.le_refl _) _⟩
 · rw [hl]; omega
 · rw [hl]; omega
 · omega
 · intro h4 k x hx; have e : Lib.splitB ⟨#[46]⟩ 0 (min 5 (s.size + 1) - 1) s = cutB s 46 := splitB_cut (by omega); rw [e]; have hk : k < (cutB s 46).length := (List.getElem?_eq_some_iff.1 hx).1; have hcell : ∀ (o : Array Value) (t : TypeId), (w.alloc (.cells o t)).cell? ⟨w.heap.size, k, none⟩ = o[k]? := fun o t => cell_of_row _ _ k o t (0, 0) (heap_alloc_new w _)
   rw [hcell]; unfold Lib.cellsOf; rw [List.getElem?_toArray, List.getElem?_append_left (by simpa using hk), List.getElem?_map, hx]; rfl
set_option maxRecDepth 100000 in
set_option maxHeartbeats 4000000 in
theorem implReadV4_any (s : ByteArray) (w : World) (hsh : w.ShapedOpen Tryz.prog) (hs : s.size ≤ 2000000) :
 Calls Tryz.prog 64 #[.string s] w fun e w' => e = .returned (strV (readV4S s)) ∧ Below w.heap.size w w' := by
 obtain ⟨R, HR⟩ : ∃ R, Hid (R = strV (readV4S s)) := ⟨_, rfl⟩; rw [← HR.out]; obtain ⟨i0, hi, hz0, hz1, hz2⟩ := info_parts Tryz.infoU8x; have hcut := splitN5_any s w hsh hs; clear hsh
 by_cases h4 : (cutB s 46).length = 4
 · have hst := Nm.hide (v4_start (cutB s 46)); have HBAD : Hid (∀ k o p, V4At (cutB s 46) k o → (cutB s 46)[k]? = some p → v4Part p = none → R = .tuple #[.string ⟨#[]⟩, .int .i64 7]) := fun k o p h1 h2 h3 => by rw [HR.out, v4_bad h1 h2 h3]; rfl
   have HEND : Hid (∀ o, V4At (cutB s 46) 4 o → R = .tuple #[.string ⟨o.toArray⟩, .int .i64 0]) := fun o h1 => by rw [HR.out, v4_end h4 h1]; rfl
   clear HR; unfold Parts5 at hcut; generalize cutB s 46 = ls at *; go_enter Tryz.func64, Tryz.ntmps64; go_wp2_with (go_at_call 115; refine hcut.mono ?_; rintro e w1 ⟨v, rfl, ⟨n0, cap, rfl, hn4, hnc, hcap, hcell⟩, hb1⟩; refine Hid.out ?_)
   obtain rfl : n0 = 4 := hn4.2 h4; have hcell := hcell h4; have HH4 := Nm.hide h4; have hb1s := hb1.size; have hcap' : 4 ≤ cap := hnc; clear hn4 h4 hcut hnc; refine Nm.hide ?_; go_wp2
   go_loopw [5, 17] (fun v i wr => ∃ (k : Nat) (l : List UInt8), k ≤ 4 ∧ i = .int .i64 k ∧ Hid (l.length = k) ∧ Hid (V4At ls k l) ∧ wr.ownsRow w1.heap.size 5 1 v k (Nm.bys l) ∧ Below w1.heap.size w1 wr)
    (fun _ i _ => 4 - (intOf i).toNat)
   case atStart => exact ⟨0, [], by omega, rfl, rfl, hst, World.ownsRow_nil _ _ _ _, Below.refl _ _⟩
   case round =>
    obtain ⟨k, l, hk, rfl, HL, HV, hown, hbel⟩ := hrel; clear hst; have hsz := hbel.size
    by_cases hlt : k < 4
    · have hlt' : (k : Int) < 4 := by omega
      obtain ⟨p, hp⟩ : ∃ p, ls[k]? = some p := ⟨_, List.getElem?_eq_getElem (by rw [HH4.out]; exact hlt)⟩; have hcp : wr.cell? ⟨w.heap.size, k, none⟩ = some (.string p) := (hbel.cell (World.block_lt_of_cell? w1 _ (hcell k p hp))).trans (hcell k p hp); have hnum := fun W => readNumber_any p 3 W (by decide)
      rw [show ((3 : Nat) : Int) = 3 from rfl] at hnum
      cases hn : numO p 3 with
      | none =>
        have HN : Hid (R = .tuple #[.string ⟨#[]⟩, .int .i64 7]) := HBAD.out k l p HV.out hp (part_none hn); rw [hn] at hnum; simp only [numV, Option.getD_none, Option.isSome_none] at hnum; clear hn hp hown HV; go_wp2_with (go_at_call 53; refine (hnum _).mono ?_; rintro e w3 ⟨rfl, hw⟩; obtain rfl : wr = w3 := hw.symm; clear hw)
        go_ret2; rw [HN.out]
        exact ⟨rfl, Nm.below_two hb1 hbel⟩
      | some n =>
        have hpos := num_pos hn; have HD := Nm.hide (dec_iff hn hpos); rw [hn] at hnum; simp only [numV, Option.getD_some, Option.isSome_some] at hnum
        by_cases hbig : 255 < n
        · have HN : Hid (R = .tuple #[.string ⟨#[]⟩, .int .i64 7]) := HBAD.out k l p HV.out hp (part_big hn hbig); have hbig' : 255 < (n : Int) := by omega
          clear hn hp hown HV; go_wp2_with (go_at_call 53; refine (hnum _).mono ?_; rintro e w3 ⟨rfl, hw⟩; obtain rfl : wr = w3 := hw.symm; clear hw)
          go_ret2; rw [HN.out]; exact ⟨rfl, Nm.below_two hb1 hbel⟩
        · have hle' : (n : Int) ≤ 255 := by omega
          have HB : Hid (((UInt8.ofNat n).toNat : Int) = (n : Int)) := by show _ = _; simp; omega
          have hc0 : (p[0].toNat : Int) < 256 := by have := p[0].toNat_lt; omega
          by_cases he : 1 < p.size ∧ p[0].toNat = 48
          · have HN : Hid (R = .tuple #[.string ⟨#[]⟩, .int .i64 7]) := HBAD.out k l p HV.out hp (part_not hn (fun e => (HD.out.1 e) he)); have g1 : (1 : Int) < (p.size : Int) := by omega
            have g2 : ((p[0].toNat : Int) == 48) = true := by rw [beq_iff_eq]; omega
            clear hn hp hown HV he; go_wp2_with (go_at_call 53; refine (hnum _).mono ?_; rintro e w3 ⟨rfl, hw⟩; obtain rfl : wr = w3 := hw.symm; clear hw)
            go_ret2; rw [HN.out]; exact ⟨rfl, Nm.below_two hb1 hbel⟩
          · have HN := Nm.hide (v4_next HV.out hp (part_some hn (by omega) (HD.out.2 he))); have HL2 : Hid ((l ++ [UInt8.ofNat n]).length = k + 1) := by show _ = _; rw [List.length_append, HL.out]; rfl
            by_cases g : 1 < p.size
            · have g1 : (1 : Int) < (p.size : Int) := by omega
              have g2 : ((p[0].toNat : Int) == 48) = false := by rw [beq_eq_false_iff_ne]; omega
              clear hn hp HV he; go_wp2_with (first | (go_at_call 53; refine (hnum _).mono ?_; rintro e w3 ⟨rfl, hw⟩; obtain rfl : wr = w3 := hw.symm; clear hw) | (at_builtin; refine wpList_append_own _ rfl (.tmp 42) (.tmp 45) 87 rfl w1.heap.size 5 i0 (.int .u8 0) 1 1 Tryz.underlying87 hi hz0 hz1 hz2 rfl (by decide) _ _ _ rfl (hown.alloc _) ⟨wr.heap.size, 0, none⟩ 1 1 [.int .u8 (n : Int)] rfl rfl (cell_new1 _ _ _) (Nm.one_cell _ rfl) (by unfold maxLen; omega) (by omega) (by simp; omega) ?_))
              intro v' w4 hown' hgrow _; rw [← HB.out] at hown'; obtain ⟨X, HX, o4, b4, z4⟩ := one_step (c := UInt8.ofNat n) hsz hown hbel _ hown' hgrow; clear hown' hgrow hown hbel; go_wp2; go_roundw
              case rel => exact ⟨k + 1, X, by omega, by go_num, by show _ = _; rw [HX.out]; exact HL2.out, by show V4At _ _ _; rw [HX.out]; exact HN.out, o4, b4⟩
              case measure => simp [intOf]; omega
            · have g1 : (p.size : Int) ≤ 1 := by omega
              clear hn hp HV he; go_wp2_with (first | (go_at_call 53; refine (hnum _).mono ?_; rintro e w3 ⟨rfl, hw⟩; obtain rfl : wr = w3 := hw.symm; clear hw) | (at_builtin; refine wpList_append_own _ rfl (.tmp 42) (.tmp 45) 87 rfl w1.heap.size 5 i0 (.int .u8 0) 1 1 Tryz.underlying87 hi hz0 hz1 hz2 rfl (by decide) _ _ _ rfl (hown.alloc _) ⟨wr.heap.size, 0, none⟩ 1 1 [.int .u8 (n : Int)] rfl rfl (cell_new1 _ _ _) (Nm.one_cell _ rfl) (by unfold maxLen; omega) (by omega) (by simp; omega) ?_))
              intro v' w4 hown' hgrow _; rw [← HB.out] at hown'; obtain ⟨X, HX, o4, b4, z4⟩ := one_step (c := UInt8.ofNat n) hsz hown hbel _ hown' hgrow; clear hown' hgrow hown hbel; go_wp2; go_roundw
              case rel => exact ⟨k + 1, X, by omega, by go_num, by show _ = _; rw [HX.out]; exact HL2.out, by show V4At _ _ _; rw [HX.out]; exact HN.out, o4, b4⟩
              case measure => simp [intOf]; omega
    · have hke : k = 4 := by omega
      subst hke; have HN := Nm.hide (HEND.out l HV.out); obtain ⟨g, cp, rfl, hcv⟩ := Nm.conv_own (P := Tryz.prog) (src := 87) (dst := 9) Tryz.underlying87 Tryz.underlying5 Tryz.underlying9 hown (by omega); obtain ⟨RR, HRR, hcv⟩ : ∃ RR, Hid (RR = (⟨l.toArray⟩ : ByteArray)) ∧ (convert 87 9 (.slice (some ⟨g, 0, none⟩) 4 cp)).run Tryz.prog wr = .ok (.string RR) wr := ⟨_, rfl, hcv⟩; clear hown HV; go_wp2; go_ret2; rw [HN.out, ← HRR.out]; exact ⟨rfl, Nm.below_two hb1 hbel⟩
 · have HN : Hid (R = .tuple #[.string ⟨#[]⟩, .int .i64 7]) := by show _ = _; rw [HR.out, v4_count h4]; rfl
   clear HR; unfold Parts5 at hcut; generalize cutB s 46 = ls at *; go_enter Tryz.func64, Tryz.ntmps64; go_wp2_with (go_at_call 115; refine hcut.mono ?_; rintro e w1 ⟨v, rfl, ⟨n0, cap, rfl, hn4, hnc, hcap, hcell⟩, hb1⟩; refine Hid.out ?_)
   have h4' : ((n0 : Int) == 4) = false := by
    rw [beq_eq_false_iff_ne]; intro e; exact h4 (hn4.1 (by omega))
   have h4'' : ((n0 : Int) != 4) = true := by rw [bne, h4']; rfl
   clear hcell hcut hn4 h4; refine Nm.hide ?_; go_wp2; go_ret2; rw [HN.out]; exact ⟨rfl, hb1⟩
end Go.Proofs.YtddabafaejahbaaGreatDoor
/- impl.readGroup by its contract. -/
namespace Go.Proofs.YtddabafaejahbaaGreatDoor
open Go.RowKit
theorem wrap_pos6 (n : Nat) (h : n < 9223372036854775808) : IntKind.i64.wrap (n : Int) = (n : Int) := by
 have e : (n : Int) % 2 ^ 64 = n := Int.emod_eq_of_lt (by omega) (by omega); simp only [IntKind.wrap, IntKind.bits, IntKind.signed, e]; rw [if_neg]; simp
 omega
theorem i64_or6 (a b : Nat) (ha : a < 9223372036854775808) (hb : b < 9223372036854775808) : bits .or .i64 (a : Int) (b : Int) = ((a ||| b : Nat) : Int) := by
 have hx : a ||| b < 2 ^ 63 := Nat.or_lt_two_pow (by omega) (by omega)
 show IntKind.i64.wrap ((BitVec.ofInt 64 (a : Int) ||| BitVec.ofInt 64 (b : Int)).toNat : Int) = _
 rw [BitVec.toNat_or, ofInt_u64 a (by omega), ofInt_u64 b (by omega)]; exact wrap_pos6 _ (by omega)
theorem or_hex (m d : Nat) (hd : d < 16) (hm : m < 281474976710656) : bits .or .i64 ((m : Int) * 16) (d : Int) = ((m * 16 + d : Nat) : Int) := by
 have e : (m : Int) * 16 = ((2 ^ 4 * m : Nat) : Int) := by omega
 rw [e, i64_or6 _ _ (by omega) (by omega), ← Nat.two_pow_add_eq_or_of_lt (by omega)]; congr 1; omega
/-- What readGroup answers: nothing, or two new bytes. -/
def grp2V (o : Option Nat) (w : World) : Value := match o with
 | none => .tuple #[.slice none 0 0, .bool false]
 | some _ => .tuple #[.slice (some ⟨w.heap.size, 0, none⟩) 2 2, .bool true]
def grp2W (o : Option Nat) (w : World) : World := match o with
 | none => w
 | some n => w.alloc (.cells #[.int .u8 ((n : Int) / 256), .int .u8 ((n : Int) % 256)] 5)
set_option maxRecDepth 100000 in
set_option maxHeartbeats 800000 in
theorem readGroup_any (p : ByteArray) (w : World) : Calls Tryz.prog 173 #[.string p] w fun e w' => e = .returned (grp2V (grpO p) w) ∧ w' = grp2W (grpO p) w := by
 by_cases h1 : p.size < 1
 · have HN : Hid (grpO p = none) := grpO_len (by omega); obtain ⟨h1', _⟩ := beq_empty (s := p) (by omega); rw [HN.out]; go_enter Tryz.func173, Tryz.ntmps173; go_wp2; go_ret2; exact ⟨rfl, rfl⟩
 obtain ⟨h1', _⟩ := not_empty (s := p) (by omega)
 by_cases h2 : 4 < p.size
 · have HN : Hid (grpO p = none) := grpO_len (by omega); have h2' : (4 : Int) < (p.size : Int) := by omega
   rw [HN.out]; go_enter Tryz.func173, Tryz.ntmps173; go_wp2; go_ret2; exact ⟨rfl, rfl⟩
 have h2' : (p.size : Int) ≤ 4 := by omega
 have h4 : p.size ≤ 4 := by omega
 obtain ⟨O, HO'⟩ : ∃ O, Hid (O = grpO p) := ⟨_, rfl⟩; rw [← HO'.out]; go_enter Tryz.func173, Tryz.ntmps173; go_wp2
 go_loop [4, 17] (fun u v => ∃ k : Nat, k ≤ p.size ∧ v = .int .i64 k ∧ u = .int .i64 ((hexN (p.data.toList.take k) : Nat) : Int) ∧ ∀ j, j < k → (hj : j < p.size) → 0 ≤ hexV p[j]) (fun _ v => p.size - (intOf v).toNat)
 case atStart => exact ⟨0, Nat.zero_le _, rfl, rfl, fun j h => by omega⟩
 case round =>
  obtain ⟨k, hk, rfl, rfl, hd⟩ := hrel
  by_cases hlt : k < p.size
  · have hlt' : (k : Int) < (p.size : Int) := by omega
    have hhex := hexValue_any p[k] w; have hb : hexN (p.data.toList.take k) < 65536 := hexN_small (by simp; omega); have hrange := hexV_lt p[k]
    by_cases hneg : hexV p[k] < 0
    · have HN : Hid (grpO p = none) := grpO_bad hlt hneg; rw [hexR_no hneg] at hhex; clear hd hneg hrange; generalize hexN (p.data.toList.take k) = m at *; go_wp2_with (go_at_call 93; refine hhex.mono ?_; rintro e w1 ⟨rfl, hw⟩; obtain rfl : w = w1 := hw.symm; clear hw)
      go_ret2; rw [HO'.out, HN.out]; exact ⟨rfl, rfl⟩
    · obtain ⟨d, hdv⟩ : ∃ d : Nat, hexV p[k] = d := ⟨(hexV p[k]).toNat, by omega⟩; have e1 : p.data.toList.take (k + 1) = p.data.toList.take k ++ [p[k]] := Nm.take_step (Nm.get_data hlt); have e2 := hexN_snoc (p.data.toList.take k) p[k]; rw [← e1, hdv, Int.toNat_natCast] at e2; have hd16 : d < 16 := by omega
      have HO := Nm.hide (or_hex (hexN (p.data.toList.take k)) d hd16 (by omega))
      have HD : Hid (∀ j, j < k + 1 → (hj : j < p.size) → 0 ≤ hexV p[j]) := by
       show ∀ j, _
       intro j hj hjs
       by_cases e : j = k
       · subst e; omega
       · exact hd j (by omega) hjs
      have HV := Nm.hide e2; rw [hdv, hexR_yes] at hhex; have hd16' : (d : Int) < 16 := by omega
      clear hd hdv hneg hrange e1 e2; generalize hexN (p.data.toList.take k) = m at *; go_wp2_with (go_at_call 93; refine hhex.mono ?_; rintro e w1 ⟨rfl, hw⟩; obtain rfl : w = w1 := hw.symm; clear hw)
      go_round
      case rel => exact ⟨k + 1, by omega, by go_num, by rw [HV.out, ← HO.out], HD.out⟩
      case measure => simp [intOf]; omega
  · have hlt' : (p.size : Int) ≤ (k : Int) := by omega
    have hks : k = p.size := by omega
    have HN : Hid (grpO p = some (hexN (p.data.toList.take k))) := by
     show _ = _
     rw [grpO_good (by omega) h4 (fun j hj => hd j (by omega) hj), hks, List.take_of_length_le (by simp)]
    have hb : hexN (p.data.toList.take k) < 65536 := hexN_small (by simp; omega); have hb' : ((hexN (p.data.toList.take k) : Nat) : Int) < 65536 := by omega
    clear hd; generalize hexN (p.data.toList.take k) = m at *; go_wp2; go_ret2; rw [HO'.out, HN.out]; exact ⟨rfl, rfl⟩
end Go.Proofs.YtddabafaejahbaaGreatDoor
