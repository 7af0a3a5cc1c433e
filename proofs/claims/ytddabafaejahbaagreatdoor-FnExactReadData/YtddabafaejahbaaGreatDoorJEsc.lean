import Derived.Test.YtddabafaejahbaaGreatDoorJTxt3
import Derived.Test.YtddabafaejahbaaGreatDoorJRv1
import Derived.Test.YtddabafaejahbaaGreatDoorRows
import Derived.WalkSpells
import Derived.WalkLawsBesides
import Derived.RegionTactic
import Derived.BigRegion
import Derived.BigQuiet
import Derived.Deep.QuietTactic
import Derived.Test.YtddabafaejahbaaGreatDoorJTxt6A
import Derived.Laws.MakeOwn
/- impl.isDigit, impl.readEscape by their contracts. -/
namespace Go.Proofs.YtddabafaejahbaaGreatDoor
open Go.RowKit

set_option maxRecDepth 100000 in
set_option maxHeartbeats 800000 in
theorem readEscape_any (t : ByteArray) (r : Option (UInt8 × Nat)) (w : World) (hr : Hid (Nm.escF (t.data.toList.drop 1) = r)) (h0 : 0 < t.size) (hs : t.size ≤ 1000000000) :
    Calls Tryz.prog 164 #[.string t] w fun e w' => e = .returned (.tuple #[.int .u8 (escB r), .int .i64 (escM r), .bool (escO r)]) ∧ ∃ m, w' = w.drewN m := by
  by_cases h1 : t.size < 2
  · have HE : r = none := by
      rw [← hr.out, List.drop_of_length_le (by simp; omega)]; rfl
    have h1' : (t.size : Int) < 2 := by omega
    subst HE
    go_enter Tryz.func164, Tryz.ntmps164
    go_wp2
    go_ret3
    exact ⟨rfl, 0, rfl⟩
  · have h1' : (2 : Int) ≤ (t.size : Int) := by omega
    have hp1 : 1 < t.size := by omega
    cases hd : Nm.digB t[1] with
    | false =>
      have HE : r = some (t[1], 1) := by
        rw [← hr.out, Nm.drop_at hp1]; exact Nm.esc_byte _ hd
      subst HE
      go_enter Tryz.func164, Tryz.ntmps164
      go_wp2_with (go_at_call 92; refine (isDigit_any _ _).mono ?_; rintro e w1 ⟨rfl, rfl⟩)
      go_ret3
      exact ⟨rfl, 0, rfl⟩
    | true =>
      by_cases h4 : t.size < 4
      · have HE : r = none := by
          rw [← hr.out, Nm.drop_at hp1]; exact Nm.esc_short hd (by simp; omega)
        have h4' : decide ((t.size : Int) < 4) = true := by simp; omega
        subst HE
        go_enter Tryz.func164, Tryz.ntmps164
        go_wp2_with (go_at_call 92; refine (isDigit_any _ _).mono ?_; rintro e w1 ⟨rfl, rfl⟩)
        go_ret3
        exact ⟨rfl, 0, rfl⟩
      · have h4' : decide ((t.size : Int) < 4) = false := by simp; omega
        have hp2 : 2 < t.size := by omega
        have hp3 : 3 < t.size := by omega
        have hthree : Nm.escF (t.data.toList.drop 1) = if Nm.digB t[2] = true ∧ Nm.digB t[3] = true then (if Nm.num3 t[1] t[2] t[3] ≤ 255 then some (UInt8.ofNat (Nm.num3 t[1] t[2] t[3]), 3) else none) else none := by
          rw [drop_three (by omega : 1 + 3 ≤ t.size)]
          exact Nm.esc_three hd
        cases hd2 : Nm.digB t[2] with
        | false =>
          have HE : r = none := by rw [← hr.out, hthree, if_neg (by simp [hd2])]
          clear hthree
          subst HE
          go_enter Tryz.func164, Tryz.ntmps164
          go_wp2_with (go_at_call 92; refine (isDigit_any _ _).mono ?_; rintro e w1 ⟨rfl, rfl⟩)
          go_ret3
          exact ⟨rfl, 0, rfl⟩
        | true =>
          cases hd3 : Nm.digB t[3] with
          | false =>
            have HE : r = none := by rw [← hr.out, hthree, if_neg (by simp [hd3])]
            clear hthree
            subst HE
            go_enter Tryz.func164, Tryz.ntmps164
            go_wp2_with (go_at_call 92; refine (isDigit_any _ _).mono ?_; rintro e w1 ⟨rfl, rfl⟩)
            go_ret3
            exact ⟨rfl, 0, rfl⟩
          | true =>
            have b1 := dig_bounds hd
            have b2 := dig_bounds hd2
            have b3 := dig_bounds hd3
            have i1 : (1 : Int) < (t.size : Int) := by omega
            have i2 : (2 : Int) < (t.size : Int) := by omega
            have i3 : (3 : Int) < (t.size : Int) := by omega
            rw [if_pos ⟨hd2, hd3⟩] at hthree
            have HN : Hid (((t[1].toNat : Int) - (48 : Int)) * (100 : Int) + ((t[2].toNat : Int) - (48 : Int)) * (10 : Int) + ((t[3].toNat : Int) - (48 : Int)) = (Nm.num3 t[1] t[2] t[3] : Int)) := by
              show _ = _
              unfold Nm.num3; omega
            by_cases hN : Nm.num3 t[1] t[2] t[3] ≤ 255
            · have HE : r = some (UInt8.ofNat (Nm.num3 t[1] t[2] t[3]), 3) := by rw [← hr.out, hthree, if_pos hN]
              have hle : ((t[1].toNat : Int) - (48 : Int)) * (100 : Int) + ((t[2].toNat : Int) - (48 : Int)) * (10 : Int) + ((t[3].toNat : Int) - (48 : Int)) ≤ (255 : Int) := by have := HN.out; omega
              have HV : Hid (((UInt8.ofNat (Nm.num3 t[1] t[2] t[3])).toNat : Int) = ((t[1].toNat : Int) - (48 : Int)) * (100 : Int) + ((t[2].toNat : Int) - (48 : Int)) * (10 : Int) + ((t[3].toNat : Int) - (48 : Int))) := by
                show _ = _
                have h1 := HN.out
                have h2 : (UInt8.ofNat (Nm.num3 t[1] t[2] t[3])).toNat = Nm.num3 t[1] t[2] t[3] := by simp; omega
                rw [h2]; omega
              clear hthree hN
              subst HE
              go_enter Tryz.func164, Tryz.ntmps164
              go_wp2_with (go_at_call 92; refine (isDigit_any _ _).mono ?_; rintro e w1 ⟨rfl, rfl⟩)
              go_region
              go_wp2
              go_ret3
              simp only [escB, HV.out]
              exact ⟨rfl, 1, rfl⟩
            · have HE : r = none := by rw [← hr.out, hthree, if_neg hN]
              have hgt : (255 : Int) < ((t[1].toNat : Int) - (48 : Int)) * (100 : Int) + ((t[2].toNat : Int) - (48 : Int)) * (10 : Int) + ((t[3].toNat : Int) - (48 : Int)) := by have := HN.out; omega
              clear hthree hN
              subst HE
              go_enter Tryz.func164, Tryz.ntmps164
              go_wp2_with (go_at_call 92; refine (isDigit_any _ _).mono ?_; rintro e w1 ⟨rfl, rfl⟩)
              go_region
              go_wp2
              go_ret3
              exact ⟨rfl, 1, rfl⟩
end Go.Proofs.YtddabafaejahbaaGreatDoor
/- impl.ReadText by its contract. -/
namespace Go.Proofs.YtddabafaejahbaaGreatDoor
open Go.RowKit

set_option maxRecDepth 100000 in
set_option maxHeartbeats 4000000 in
theorem implReadText_any (s : ByteArray) (w : World) (hs : s.size ≤ 1000000000) :
    Calls Tryz.prog 100 #[.string s] w fun e w' => e = .returned (.tuple #[.string (readTextR s).1, .int .i64 (readTextR s).2]) ∧ Below w.heap.size w w' := by
  obtain ⟨i0, hi, hz0, hz1, hz2⟩ := info_parts Tryz.infoU8x
  obtain ⟨wm, hmk, hownm, hgrm⟩ := run_make_own (P := Tryz.prog) w w.heap.size 87 5 i0 (.int .u8 0) 1 Tryz.underlying87 hi hz0 hz1 .i64 .i64 s.size (by rw [hz2]; omega) (by unfold maxLen; omega) (Nat.le_refl _)
  have hbelm : Below w.heap.size w wm := (Below.refl _ _).grown hgrm (Nat.le_refl _) (by simp)
  have hst := rat_start s
  clear hgrm
  go_enter Tryz.func100, Tryz.ntmps100
  go_wp2
  go_loopw [4, 5] (fun v u wr => ∃ (i n : Nat) (l : List UInt8), i ≤ s.size ∧ u = .int .i64 i ∧ n ≤ i ∧ Hid (l.length = n) ∧ Hid (RAt s l i) ∧ wr.ownsRow w.heap.size 5 1 v n (Nm.bys l) ∧ Below w.heap.size w wr)
    (fun _ u _ => s.size - (intOf u).toNat)
  case atStart => exact ⟨0, 0, [], Nat.zero_le _, rfl, Nat.le_refl _, rfl, hst, hownm, hbelm⟩
  case round =>
    obtain ⟨i, n, l, hk, rfl, hn, HL, HA, hown, hbel⟩ := hrel
    clear hst hownm hbelm hmk
    have hsz := hbel.size
    by_cases hlt : i < s.size
    · have hlt' : (i : Int) < (s.size : Int) := by omega
      have hc : (s[i].toNat : Int) < 256 := by have := s[i].toNat_lt; omega
      by_cases h92 : s[i].toNat = 92
      · have q1 : ((s[i].toNat : Int) != 92) = false := by simp; omega
        have hle' : (i : Int) ≤ (s.size : Int) := by omega
        have hle : i ≤ s.size := by omega
        have htl : (s.extract i s.size).data.toList.drop 1 = s.data.toList.drop (i + 1) := by rw [ext_tail, List.drop_drop]
        cases he : Nm.escF (s.data.toList.drop (i + 1)) with
        | none =>
          have HR := Nm.hide (rat_bad HA.out hlt h92 he)
          have hes := fun W => readEscape_any (s.extract i s.size) none W (by show _ = _; rw [htl, he]) (by simp; omega) (by simp; omega)
          clear h92 he htl HA
          go_wp2_with (go_at_call 164; refine (hes _).mono ?_; rintro e w3 ⟨rfl, m, hw3⟩; have HB : Hid (Below w.heap.size w w3) := (by show Below _ _ _; rw [hw3]; exact Go.below_drewN hbel m); clear hw3)
          go_ret2
          rw [HR.out]
          exact ⟨rfl, HB.out⟩
        | some p =>
          obtain ⟨b, q⟩ := p
          have hq := Nm.esc_len he
          have hql : (s.data.toList.drop (i + 1)).length = s.size - (i + 1) := by simp
          have HN := Nm.hide (rat_esc HA.out hlt h92 he)
          have hes := fun W => readEscape_any (s.extract i s.size) (some (b, q)) W (by show _ = _; rw [htl, he]) (by simp; omega) (by simp; omega)
          simp only [escB, escM, escO] at hes
          have hq1 : i + q + 1 ≤ s.size := by omega
          have hbb : (b.toNat : Int) < 256 := by have := b.toNat_lt; omega
          have HL2 : Hid ((l ++ [b]).length = n + 1) := by show _ = _; rw [List.length_append, HL.out]; rfl
          clear h92 he htl HA HL hql
          go_wp2_with (first | (go_at_call 164; refine (hes _).mono ?_; rintro e w3 ⟨rfl, m, hw3⟩; have hb3 : Below wr.heap.size wr w3 := (by rw [hw3]; exact Go.below_drewN (Below.refl _ _) m); have hown3 := own_below hown hb3; have hbel3 := Nm.below_two hbel hb3; have hsz3 := hbel3.size; clear hw3 hb3) | (at_builtin; refine wpList_append_own _ rfl (.tmp 38) (.tmp 40) 87 rfl w.heap.size 5 i0 (.int .u8 0) 1 1 Tryz.underlying87 hi hz0 hz1 hz2 rfl (by decide) _ _ _ rfl (hown3.alloc _) ⟨w3.heap.size, 0, none⟩ 1 1 [.int .u8 (b.toNat : Int)] rfl rfl (cell_new1 _ _ _) (Nm.one_cell _ rfl) (by unfold maxLen; omega) (by omega) (by simp; omega) ?_))
          intro v' w4 hown' hgrow _
          obtain ⟨X, HX, o4, b4, z4⟩ := one_step (c := b) hsz3 hown3 hbel3 _ hown' hgrow
          clear hown' hgrow hown3 hbel3 hown hbel
          go_wp2
          go_roundw
          case rel => exact ⟨i + q + 1, n + 1, X, hq1, by go_num, by omega, by show _ = _; rw [HX.out]; exact HL2.out, by show RAt _ _ _; rw [HX.out]; exact HN.out, o4, b4⟩
          case measure => simp [intOf]; omega
      · have q1 : ((s[i].toNat : Int) != 92) = true := by simp; omega
        have HN := Nm.hide (rat_own HA.out hlt h92)
        have HL2 : Hid ((l ++ [s[i]]).length = n + 1) := by show _ = _; rw [List.length_append, HL.out]; rfl
        clear h92 HA HL
        go_wp2_with (at_builtin; refine wpList_append_own _ rfl (.tmp 20) (.tmp 24) 87 rfl w.heap.size 5 i0 (.int .u8 0) 1 1 Tryz.underlying87 hi hz0 hz1 hz2 rfl (by decide) _ _ _ rfl (hown.alloc _) ⟨wr.heap.size, 0, none⟩ 1 1 [.int .u8 (s[i].toNat : Int)] rfl rfl (cell_new1 _ _ _) (Nm.one_cell _ rfl) (by unfold maxLen; omega) (by omega) (by simp; omega) ?_)
        intro v' w4 hown' hgrow _
        obtain ⟨X, HX, o4, b4, z4⟩ := one_step (c := s[i]) hsz hown hbel _ hown' hgrow
        clear hown' hgrow hown hbel
        go_wp2
        go_roundw
        case rel => exact ⟨i + 1, n + 1, X, by omega, by go_num, by omega, by show _ = _; rw [HX.out]; exact HL2.out, by show RAt _ _ _; rw [HX.out]; exact HN.out, o4, b4⟩
        case measure => simp [intOf]; omega
    · have hlt' : (s.size : Int) ≤ (i : Int) := by omega
      have HR := Nm.hide (rat_end HA.out (by omega))
      rcases Nat.eq_zero_or_pos n with hn0 | hnp
      · have hl0 : l = [] := List.length_eq_zero_iff.1 (by rw [HL.out]; exact hn0)
        subst hn0
        subst hl0
        rcases hown.2 with ⟨rfl, _⟩ | ⟨g, cp, cur, rfl, _, _, _, _, _⟩
        · have hcv : (convert 87 9 (.slice none 0 0)).run Tryz.prog wr = .ok (.string ⟨#[]⟩) wr := by
            rw [run_convert_bytes_string _ 87 9 5 _ _ _ Tryz.underlying87 Tryz.underlying5 Tryz.underlying9]
            rfl
          clear hown HA
          go_wp2
          go_ret2
          rw [HR.out]
          exact ⟨rfl, hbel⟩
        · have hcv : (convert 87 9 (.slice (some ⟨g, 0, none⟩) 0 cp)).run Tryz.prog wr = .ok (.string ⟨#[]⟩) wr := run_convert_bytes_back (P := Tryz.prog) wr 87 9 5 ⟨g, 0, none⟩ cp [] Tryz.underlying87 Tryz.underlying5 Tryz.underlying9 (by intro j hj; simp at hj)
          clear hown HA
          go_wp2
          go_ret2
          rw [HR.out]
          exact ⟨rfl, hbel⟩
      · obtain ⟨g, cp, rfl, hcv⟩ := Nm.conv_own (P := Tryz.prog) (src := 87) (dst := 9) Tryz.underlying87 Tryz.underlying5 Tryz.underlying9 hown hnp
        obtain ⟨R, HRR, hcv⟩ : ∃ R, Hid (R = (⟨l.toArray⟩ : ByteArray)) ∧ (convert 87 9 (.slice (some ⟨g, 0, none⟩) n cp)).run Tryz.prog wr = .ok (.string R) wr := ⟨_, rfl, hcv⟩
        clear hown HA
        go_wp2
        go_ret2
        rw [HR.out, ← HRR.out]
        exact ⟨rfl, hbel⟩
end Go.Proofs.YtddabafaejahbaaGreatDoor
