import Derived.Test.YtddabafaejahbaaGreatDoorJMath
import Derived.Test.YtddabafaejahbaaGreatDoorJIParts
import Derived.Deep.RegionWith
import Derived.Test.YtddabafaejahbaaGreatDoorJTxt6A
import Derived.Deep.RegionHeld3
import Derived.BigQuiet
import Derived.Deep.QuietTactic
/- spec.l03Dec by its contract. -/
namespace Go.Proofs.YtddabafaejahbaaGreatDoor
open Go.RowKit

theorem conv_kept {m : Int} {W w1 : World} (hb : Below (W.alloc (.cells #[.int .u8 m] 5)).drew.heap.size (W.alloc (.cells #[.int .u8 m] 5)).drew w1) :
    (convert 87 9 (.slice (some ⟨W.heap.size, 0, none⟩) 1 1)).run Tryz.prog w1 = .ok (.string ⟨#[UInt8.ofNat m.toNat]⟩) w1 := by
  have hc : w1.cell? ⟨W.heap.size, 0, none⟩ = some (.int .u8 m) := by
    rw [hb.cell (by simp)]
    exact World.cell?_alloc_new W _ _ 0
  rw [run_convert_bytes_string _ 87 9 5 _ _ _ Tryz.underlying87 Tryz.underlying5 Tryz.underlying9]
  have hl := run_loadCells_list (P := Tryz.prog) w1 ⟨W.heap.size, 0, none⟩ ([m].map (Value.int .u8)) (fun j v hj => by
    match j, hj with
    | 0, hj => simp at hj; subst hj; rw [Nm.addr_add]; exact hc)
  rw [run_bytesToString _ _ 1 1 [m] hl]
  rfl

set_option maxRecDepth 100000 in
set_option maxHeartbeats 1600000 in
theorem l03Dec_any : ∀ (n : Nat) (w : World), n < 9223372036854775808 →
    Calls Tryz.prog 83 #[.int .i64 (n : Int)] w fun e w' => e = .returned (.string (decS n)) ∧ Below w.heap.size w w' := by
  intro n
  induction n using Nat.strongRecOn with
  | _ n ih =>
    intro w hn
    by_cases h10 : n < 10
    · have hcv := fun m W => conv_one m W
      have HE : Hid (decS n = ⟨#[UInt8.ofNat (48 + n)]⟩) := by show _ = _; rw [decS, decL_small h10]
      have h10' : (n : Int) < 10 := by omega
      clear ih
      go_enter Tryz.func83, Tryz.ntmps83
      go_wp2
      go_ret
      rw [HE.out]
      exact ⟨rfl, (Below.refl _ _).alloc (Nat.le_refl _) _⟩
    · have hcv := fun m W => conv_one m W
      have h10' : (10 : Int) ≤ (n : Int) := by omega
      have hih := fun w => ih (n / 10) (by omega) w (by omega)
      have hdz : (decS (n / 10)).size ≤ 20 := by
        have := decL_len20 (n := n / 10) (by omega)
        show (decL (n / 10)).toArray.size ≤ 20
        simpa using this
      have HE : Hid (decS n = decS (n / 10) ++ ⟨#[UInt8.ofNat (48 + n % 10)]⟩) := by
        show _ = _
        apply Nm.ba_ext
        simp [decS, decL_step h10]
      have hcast : ((n / 10 : Nat) : Int) = (n : Int) / 10 := by omega
      rw [hcast] at hih
      have hsum : (decS (n / 10)).size + 1 ≤ 9223372036854775807 := by omega
      have hcvd := fun m W => conv_one_drew m W
      have htm : (n : Int).tmod 10 = (n : Int) % 10 := Int.tmod_eq_emod_of_nonneg (by omega)
      have hw1 : IntKind.i64.wrap ((n : Int) / 10) = (n : Int) / 10 := Go.wrap_small _ (by omega) (by omega)
      have hw2 : IntKind.i64.wrap ((n : Int) % 10) = (n : Int) % 10 := Go.wrap_small _ (by omega) (by omega)
      have hw3 : IntKind.i64.wrap (48 + (n : Int) % 10) = 48 + (n : Int) % 10 := Go.wrap_small _ (by omega) (by omega)
      have hw4 : IntKind.u8.wrap (48 + (n : Int) % 10) = 48 + (n : Int) % 10 := by rw [IntKind.wrap_u8']; omega
      generalize decS (n / 10) = D at *
      clear ih hcast
      go_enter Tryz.func83, Tryz.ntmps83
      go_wp2
      go_region_with (go_at_call 83; refine (hih _).mono ?_; rintro e w1 ⟨rfl, hb1⟩; try (have hcx := conv_kept hb1))
      all_goals
        go_wp2
        go_ret
        rw [HE.out]
        have hbA : Below w.heap.size w w1 := by
          first
            | exact Nm.below_two ((Below.refl _ w).drew) hb1
            | exact Nm.below_two (((Below.refl _ w).alloc (Nat.le_refl _) _).drew) hb1
        refine ⟨by first | rfl | simp [Act.put], ?_⟩
        first
          | exact hbA
          | exact hbA.alloc hbA.size _
          | exact (hbA.alloc hbA.size _).drew
end Go.Proofs.YtddabafaejahbaaGreatDoor
/- spec.ReadV4 by its contract. -/
namespace Go.Proofs.YtddabafaejahbaaGreatDoor
open Go.RowKit

theorem str_eqB {a b : ByteArray} (h : a = b) : (a.toList == b.toList) = true := by simp [h]
theorem str_neB {a b : ByteArray} (h : a ≠ b) : (a.toList == b.toList) = false := by
  rw [beq_eq_false_iff_ne]
  intro e
  rw [ByteArray.toList_eq, ByteArray.toList_eq] at e
  exact h (Nm.ba_ext e)
theorem byte_nat {n : Nat} (h : n ≤ 255) : ((UInt8.ofNat n).toNat : Int) = (n : Int) := by simp; omega

set_option maxRecDepth 100000 in
set_option maxHeartbeats 4000000 in
theorem specReadV4_any (s : ByteArray) (w : World) (hs : s.size ≤ 2000000) :
    Calls Tryz.prog 42 #[.string s] w fun e w' => e = .returned (strV (readV4S s)) ∧ Below w.heap.size w w' := by
  obtain ⟨R, HR⟩ : ∃ R, Hid (R = strV (readV4S s)) := ⟨_, rfl⟩
  rw [← HR.out]
  obtain ⟨i0, hi, hz0, hz1, hz2⟩ := info_parts Tryz.infoU8x
  by_cases h15 : 15 < s.size
  · have HN : Hid (R = .tuple #[.string ⟨#[]⟩, .int .i64 7]) := by show _ = _; rw [HR.out, v4_long h15]; rfl
    have h15' : (15 : Int) < (s.size : Int) := by omega
    go_enter Tryz.func42, Tryz.ntmps42
    go_wp2
    go_ret2
    rw [HN.out]
    exact ⟨rfl, Below.refl _ _⟩
  have h15' : (s.size : Int) ≤ 15 := by omega
  have hcut := l03Cut_any s 46 w hs
  rw [show (((46 : UInt8).toNat : Nat) : Int) = 46 from rfl] at hcut
  by_cases h4 : (cutB s 46).length = 4
  · have hst := Nm.hide (v4_start (cutB s 46))
    have HBAD : Hid (∀ k o p, V4At (cutB s 46) k o → (cutB s 46)[k]? = some p → v4Part p = none → R = .tuple #[.string ⟨#[]⟩, .int .i64 7]) := fun k o p h1 h2 h3 => by rw [HR.out, v4_bad h1 h2 h3]; rfl
    have HEND : Hid (∀ o, V4At (cutB s 46) 4 o → R = .tuple #[.string ⟨o.toArray⟩, .int .i64 0]) := fun o h1 => by rw [HR.out, v4_end h4 h1]; rfl
    clear HR
    generalize cutB s 46 = ls at *
    go_enter Tryz.func42, Tryz.ntmps42
    go_wp2_with (go_at_call 82; refine hcut.mono ?_; rintro e w1 ⟨v, rfl, hown1, hb1⟩; refine Hid.out ?_)
    have hb1s := hb1.size
    obtain ⟨a, cap, rfl, hcap, hmx, hnl, hc⟩ := Nm.SRow.of_owns hown1
    obtain ⟨b, off, rfl, hcell⟩ := hc (by intro e; rw [e] at h4; simp at h4)
    rw [h4] at hcap
    rw [h4]
    have HH4 := Nm.hide h4
    clear hown1 hc hnl h4 hcut
    refine Nm.hide ?_
    go_wp2
    go_loopw [5, 6] (fun v i wr => ∃ (k : Nat) (l : List UInt8), k ≤ 4 ∧ i = .int .i64 k ∧ Hid (l.length = k) ∧ Hid (V4At ls k l) ∧ wr.ownsRow w1.heap.size 5 1 v k (Nm.bys l) ∧ Below w1.heap.size w1 wr)
      (fun _ i _ => 4 - (intOf i).toNat)
    case atStart => exact ⟨0, [], by omega, rfl, rfl, hst, World.ownsRow_made w1 #[] 0 (Nat.le_refl _) (by decide) rfl, (Below.refl _ _).alloc (Nat.le_refl _) _⟩
    case round =>
      obtain ⟨k, l, hk, rfl, HL, HV, hown, hbel⟩ := hrel
      clear hst
      have hsz := hbel.size
      by_cases hlt : k < 4
      · have hlt' : (k : Int) < 4 := by omega
        obtain ⟨p, hp⟩ : ∃ p, ls[k]? = some p := ⟨_, List.getElem?_eq_getElem (by rw [HH4.out]; exact hlt)⟩
        have hcp : wr.cell? ⟨b, off + k, none⟩ = some (.string p) := (hbel.cell (World.block_lt_of_cell? w1 _ (hcell k p hp))).trans (hcell k p hp)
        have hnum := fun W => l03Number_any p 3 W (by decide)
        rw [show ((3 : Nat) : Int) = 3 from rfl] at hnum
        cases hn : numO p 3 with
        | none =>
          have HN : Hid (R = .tuple #[.string ⟨#[]⟩, .int .i64 7]) := HBAD.out k l p HV.out hp (part_none hn)
          rw [hn] at hnum
          simp only [numV, Option.getD_none, Option.isSome_none] at hnum
          clear hn hp hown HV
          go_wp2_with (go_at_call 37; refine (hnum _).mono ?_; rintro e w3 ⟨rfl, hw⟩; obtain rfl : wr = w3 := hw.symm; clear hw)
          go_quiet (fail)
          go_wp2
          go_ret2
          rw [HN.out]
          exact ⟨rfl, Nm.below_two hb1 (Go.below_drewN hbel _)⟩
        | some n =>
          rw [hn] at hnum
          simp only [numV, Option.getD_some, Option.isSome_some] at hnum
          by_cases hbig : 255 < n
          · have HN : Hid (R = .tuple #[.string ⟨#[]⟩, .int .i64 7]) := HBAD.out k l p HV.out hp (part_big hn hbig)
            have hbig' : 255 < (n : Int) := by omega
            clear hn hp hown HV
            go_wp2_with (go_at_call 37; refine (hnum _).mono ?_; rintro e w3 ⟨rfl, hw⟩; obtain rfl : wr = w3 := hw.symm; clear hw)
            go_quiet (fail)
            go_wp2
            go_ret2
            rw [HN.out]
            exact ⟨rfl, Nm.below_two hb1 (Go.below_drewN hbel _)⟩
          · have hle' : (n : Int) ≤ 255 := by omega
            have hdb : decide (255 < (n : Int)) = false := by simp; omega
            have hdec := fun W => l03Dec_any n W (by omega)
            have HP : Hid (decS n = p → v4Part p = some n) := fun e => part_some hn (by omega) e
            have HQ : Hid (decS n ≠ p → v4Part p = none) := fun e => part_not hn e
            have HB := Nm.hide (byte_nat (n := n) (by omega))
            clear hn
            generalize decS n = D at *
            have hdec2 : ∀ W : World, (Below wr.heap.size wr W ∧ W.cell? ⟨b, off + k, none⟩ = some (.string p)) → Calls Tryz.prog 83 #[.int .i64 (n : Int)] W fun e w' => e = .returned (.string D) ∧ (Below wr.heap.size wr w' ∧ w'.cell? ⟨b, off + k, none⟩ = some (.string p)) := by
              intro W hW
              refine (hdec W).mono ?_
              rintro e w' ⟨rfl, hb⟩
              exact ⟨rfl, Nm.below_two hW.1 hb, (hb.cell (World.block_lt_of_cell? W _ hW.2)).trans hW.2⟩
            have hS0 : Below wr.heap.size wr wr.drew ∧ wr.drew.cell? ⟨b, off + k, none⟩ = some (.string p) := ⟨(Below.refl _ _).drew, hcp⟩
            clear hdec
            by_cases he : D = p
            · have HN := Nm.hide (v4_next HV.out hp (HP.out he))
              have HL2 : Hid ((l ++ [UInt8.ofNat n]).length = k + 1) := by show _ = _; rw [List.length_append, HL.out]; rfl
              have hee := str_eqB he
              clear hp HP HQ HV he
              go_wp2_with (go_at_call 37; refine (hnum _).mono ?_; rintro e w3 ⟨rfl, hw⟩; obtain rfl : wr = w3 := hw.symm; clear hw)
              go_region_held3 (fun w' => Below wr.heap.size wr w' ∧ w'.cell? ⟨b, off + k, none⟩ = some (.string p)) (first | assumption | exact hS0) ((first | (go_at_call 83; refine (hdec2 _ (by first | assumption | exact hS0)).mono ?_; rintro e w' ⟨rfl, hS1⟩)))
              have hown3 := own_below hown hS1.1
              have hbel3 := Nm.below_two hbel hS1.1
              have hsz3 := hbel3.size
              clear hown hbel hS0 hdec2 hnum hcp hS1
              go_wp2_with (at_builtin; refine wpList_append_own _ rfl (.tmp 45) (.tmp 48) 87 rfl w1.heap.size 5 i0 (.int .u8 0) 1 1 Tryz.underlying87 hi hz0 hz1 hz2 rfl (by decide) _ _ _ rfl (hown3.alloc _) ⟨w'.heap.size, 0, none⟩ 1 1 [.int .u8 (n : Int)] rfl rfl (cell_new1 _ _ _) (Nm.one_cell _ rfl) (by unfold maxLen; omega) (by omega) (by simp; omega) ?_)
              intro v' w4 hown' hgrow _
              rw [← HB.out] at hown'
              obtain ⟨X, HX, o4, b4, z4⟩ := one_step (c := UInt8.ofNat n) hsz3 hown3 hbel3 _ hown' hgrow
              clear hown' hgrow hown3 hbel3
              go_wp2
              go_roundw
              case rel => exact ⟨k + 1, X, by omega, by go_num, by show _ = _; rw [HX.out]; exact HL2.out, by show V4At _ _ _; rw [HX.out]; exact HN.out, o4, b4⟩
              case measure => simp [intOf]; omega
            · have HN : Hid (R = .tuple #[.string ⟨#[]⟩, .int .i64 7]) := HBAD.out k l p HV.out hp (HQ.out he)
              have hee := str_neB he
              clear hp HP HQ HV he hown
              go_wp2_with (go_at_call 37; refine (hnum _).mono ?_; rintro e w3 ⟨rfl, hw⟩; obtain rfl : wr = w3 := hw.symm; clear hw)
              go_region_held3 (fun w' => Below wr.heap.size wr w' ∧ w'.cell? ⟨b, off + k, none⟩ = some (.string p)) (first | assumption | exact hS0) ((first | (go_at_call 83; refine (hdec2 _ (by first | assumption | exact hS0)).mono ?_; rintro e w' ⟨rfl, hS1⟩)))
              have hbel3 := Nm.below_two hbel hS1.1
              clear hS0 hdec2 hnum hcp hS1
              go_wp2
              go_ret2
              rw [HN.out]
              exact ⟨rfl, Nm.below_two hb1 hbel3⟩
      · have hke : k = 4 := by omega
        subst hke
        have HN := Nm.hide (HEND.out l HV.out)
        obtain ⟨g, cp, rfl, hcv⟩ := Nm.conv_own (P := Tryz.prog) (src := 87) (dst := 9) Tryz.underlying87 Tryz.underlying5 Tryz.underlying9 hown (by omega)
        obtain ⟨RR, HRR, hcv⟩ : ∃ RR, Hid (RR = (⟨l.toArray⟩ : ByteArray)) ∧ (convert 87 9 (.slice (some ⟨g, 0, none⟩) 4 cp)).run Tryz.prog wr = .ok (.string RR) wr := ⟨_, rfl, hcv⟩
        clear hown HV
        go_wp2
        go_ret2
        rw [HN.out, ← HRR.out]
        exact ⟨rfl, Nm.below_two hb1 hbel⟩
  · have HN : Hid (R = .tuple #[.string ⟨#[]⟩, .int .i64 7]) := by show _ = _; rw [HR.out, v4_count h4]; rfl
    have h4' : (((cutB s 46).length : Int) == 4) = false := by rw [beq_eq_false_iff_ne]; omega
    have h4'' : (((cutB s 46).length : Int) != 4) = true := by rw [bne_iff_ne]; omega
    clear HR h4
    generalize cutB s 46 = ls at *
    go_enter Tryz.func42, Tryz.ntmps42
    go_wp2_with (go_at_call 82; refine hcut.mono ?_; rintro e w1 ⟨v, rfl, hown1, hb1⟩; refine Hid.out ?_)
    obtain ⟨a, cap, rfl, hcap, hmx, hnl, hc⟩ := Nm.SRow.of_owns hown1
    clear hown1 hc hcut
    refine Nm.hide ?_
    go_wp2
    go_ret2
    rw [HN.out]
    exact ⟨rfl, hb1⟩
end Go.Proofs.YtddabafaejahbaaGreatDoor
