import Derived.Test.YtddabafaejahbaaGreatDoorJTxt8
import Derived.Test.YtddabafaejahbaaGreatDoorJOwnT
import Derived.Test.YtddabafaejahbaaGreatDoorRows
import Derived.WalkSpells
import Derived.WalkLawsBesides
import Derived.RegionTactic
import Derived.BigRegion
import Derived.BigQuiet
import Derived.Deep.QuietTactic
import Derived.Laws.MakeOwn
import Derived.Deep.RegionWith
import Derived.Test.YtddabafaejahbaaGreatDoorJMath
/- impl.isDigit, impl.readEscape by their contracts. -/
namespace Go.Proofs.YtddabafaejahbaaGreatDoor
open Go.RowKit
set_option maxRecDepth 100000 in
set_option maxHeartbeats 800000 in
theorem readEscape_any (t : ByteArray) (r : Option (UInt8 × Nat)) (w : World) (hr : Hid (Nm.escF (t.data.toList.drop 1) = r)) (h0 : 0 < t.size) (hs : t.size ≤ 1000000000) :
 Calls Tryz.prog 164 #[.string t] w fun e w' => e = .returned (.tuple #[.int .u8 (escB r), .int .i64 (escM r), .bool (escO r)]) ∧ ∃ m, w' = w.drewN m := by
 by_cases h1 : t.size < 2
 · have HE : r = none := by
    rw [← hr.out, List.drop_of_length_le (by simp; omega)]; rfl
   have h1' : (t.size : Int) < 2 := by omega
   subst HE; go_enter Tryz.func164, Tryz.ntmps164; go_wp2; go_ret3; exact ⟨rfl, 0, rfl⟩
 · have h1' : (2 : Int) ≤ (t.size : Int) := by omega
   have hp1 : 1 < t.size := by omega
   cases hd : Nm.digB t[1] with
   | false =>
     have HE : r = some (t[1], 1) := by
      rw [← hr.out, Nm.drop_at hp1]; exact Nm.esc_byte _ hd
     subst HE; go_enter Tryz.func164, Tryz.ntmps164; go_wp2_with (go_at_call 92; refine (isDigit_any _ _).mono ?_; rintro e w1 ⟨rfl, rfl⟩)
     go_ret3
     exact ⟨rfl, 0, rfl⟩
   | true =>
     by_cases h4 : t.size < 4
     · have HE : r = none := by
        rw [← hr.out, Nm.drop_at hp1]; exact Nm.esc_short hd (by simp; omega)
       have h4' : decide ((t.size : Int) < 4) = true := by simp; omega
       subst HE; go_enter Tryz.func164, Tryz.ntmps164; go_wp2_with (go_at_call 92; refine (isDigit_any _ _).mono ?_; rintro e w1 ⟨rfl, rfl⟩)
       go_ret3; exact ⟨rfl, 0, rfl⟩
     · have h4' : decide ((t.size : Int) < 4) = false := by simp; omega
       have hp2 : 2 < t.size := by omega
       have hp3 : 3 < t.size := by omega
       have hthree : Nm.escF (t.data.toList.drop 1) = if Nm.digB t[2] = true ∧ Nm.digB t[3] = true then (if Nm.num3 t[1] t[2] t[3] ≤ 255 then some (UInt8.ofNat (Nm.num3 t[1] t[2] t[3]), 3) else none) else none := by
        rw [drop_three (by omega : 1 + 3 ≤ t.size)]; exact Nm.esc_three hd
       cases hd2 : Nm.digB t[2] with
       | false =>
         have HE : r = none := by rw [← hr.out, hthree, if_neg (by simp [hd2])]
         clear hthree; subst HE; go_enter Tryz.func164, Tryz.ntmps164; go_wp2_with (go_at_call 92; refine (isDigit_any _ _).mono ?_; rintro e w1 ⟨rfl, rfl⟩)
         go_ret3
         exact ⟨rfl, 0, rfl⟩
       | true =>
         cases hd3 : Nm.digB t[3] with
         | false =>
           have HE : r = none := by rw [← hr.out, hthree, if_neg (by simp [hd3])]
           clear hthree; subst HE; go_enter Tryz.func164, Tryz.ntmps164; go_wp2_with (go_at_call 92; refine (isDigit_any _ _).mono ?_; rintro e w1 ⟨rfl, rfl⟩)
           go_ret3
           exact ⟨rfl, 0, rfl⟩
         | true =>
           have b1 := dig_bounds hd; have b2 := dig_bounds hd2; have b3 := dig_bounds hd3; have i1 : (1 : Int) < (t.size : Int) := by omega
           have i2 : (2 : Int) < (t.size : Int) := by omega
           have i3 : (3 : Int) < (t.size : Int) := by omega
           rw [if_pos ⟨hd2, hd3⟩] at hthree
           have HN : Hid (((t[1].toNat : Int) - (48 : Int)) * (100 : Int) + ((t[2].toNat : Int) - (48 : Int)) * (10 : Int) + ((t[3].toNat : Int) - (48 : Int)) = (Nm.num3 t[1] t[2] t[3] : Int)) := by
            show _ = _
            unfold Nm.num3; omega
           by_cases hN : Nm.num3 t[1] t[2] t[3] ≤ 255
           · have HE : r = some (UInt8.ofNat (Nm.num3 t[1] t[2] t[3]), 3) := by rw [← hr.out, hthree, if_pos hN]
             have hle : ((t[1].toNat : Int) - (48 : Int)) * (100 : Int) + ((t[2].toNat : Int) - (48 : Int)) * (10 : Int) + ((t[3].toNat : Int) - (48 : Int)) ≤ (255 : Int) := by have := HN.out; omega
             have HV : Hid (((UInt8.ofNat (Nm.num3 t[1] t[2] t[3])).toNat : Int) = ((t[1].toNat : Int) - (48 : Int)) * (100 : Int) + ((t[2].toNat : Int) - (48 : Int)) * (10 : Int) + ((t[3].toNat : Int) - (48 : Int))) := by
              show _ = _
              have h1 := HN.out; have h2 : (UInt8.ofNat (Nm.num3 t[1] t[2] t[3])).toNat = Nm.num3 t[1] t[2] t[3] := by simp; omega
              rw [h2]; omega
             clear hthree hN; subst HE; go_enter Tryz.func164, Tryz.ntmps164; go_wp2_with (go_at_call 92; refine (isDigit_any _ _).mono ?_; rintro e w1 ⟨rfl, rfl⟩)
             go_region
             go_wp2; go_ret3; simp only [escB, HV.out]; exact ⟨rfl, 1, rfl⟩
           · have HE : r = none := by rw [← hr.out, hthree, if_neg hN]
             have hgt : (255 : Int) < ((t[1].toNat : Int) - (48 : Int)) * (100 : Int) + ((t[2].toNat : Int) - (48 : Int)) * (10 : Int) + ((t[3].toNat : Int) - (48 : Int)) := by have := HN.out; omega
             clear hthree hN; subst HE; go_enter Tryz.func164, Tryz.ntmps164; go_wp2_with (go_at_call 92; refine (isDigit_any _ _).mono ?_; rintro e w1 ⟨rfl, rfl⟩)
             go_region
             go_wp2; go_ret3; exact ⟨rfl, 1, rfl⟩
end Go.Proofs.YtddabafaejahbaaGreatDoor
/- impl.ReadText by its contract. -/
namespace Go.Proofs.YtddabafaejahbaaGreatDoor
open Go.RowKit
set_option maxRecDepth 100000 in
set_option maxHeartbeats 4000000 in
theorem implReadText_any (s : ByteArray) (w : World) (hs : s.size ≤ 1000000000) :
 Calls Tryz.prog 100 #[.string s] w fun e w' => e = .returned (.tuple #[.string (readTextR s).1, .int .i64 (readTextR s).2]) ∧ Below w.heap.size w w' := by
 obtain ⟨i0, hi, hz0, hz1, hz2⟩ := info_parts Tryz.infoU8x; obtain ⟨wm, hmk, hownm, hgrm⟩ := run_make_own (P := Tryz.prog) w w.heap.size 87 5 i0 (.int .u8 0) 1 Tryz.underlying87 hi hz0 hz1 .i64 .i64 s.size (by rw [hz2]; omega) (by unfold maxLen; omega) (Nat.le_refl _); have hbelm : Below w.heap.size w wm := (Below.refl _ _).grown hgrm (Nat.le_refl _) (by simp); have hst := rat_start s; clear hgrm; go_enter Tryz.func100, Tryz.ntmps100; go_wp2
 go_loopw [4, 5] (fun v u wr => ∃ (i n : Nat) (l : List UInt8), i ≤ s.size ∧ u = .int .i64 i ∧ n ≤ i ∧ Hid (l.length = n) ∧ Hid (RAt s l i) ∧ wr.ownsRow w.heap.size 5 1 v n (Nm.bys l) ∧ Below w.heap.size w wr)
  (fun _ u _ => s.size - (intOf u).toNat)
 case atStart => exact ⟨0, 0, [], Nat.zero_le _, rfl, Nat.le_refl _, rfl, hst, hownm, hbelm⟩
 case round =>
  obtain ⟨i, n, l, hk, rfl, hn, HL, HA, hown, hbel⟩ := hrel; clear hst hownm hbelm hmk; have hsz := hbel.size
  by_cases hlt : i < s.size
  · have hlt' : (i : Int) < (s.size : Int) := by omega
    have hc : (s[i].toNat : Int) < 256 := by have := s[i].toNat_lt; omega
    by_cases h92 : s[i].toNat = 92
    · have q1 : ((s[i].toNat : Int) != 92) = false := by simp; omega
      have hle' : (i : Int) ≤ (s.size : Int) := by omega
      have hle : i ≤ s.size := by omega
      have htl : (s.extract i s.size).data.toList.drop 1 = s.data.toList.drop (i + 1) := by rw [ext_tail, List.drop_drop]
      cases he : Nm.escF (s.data.toList.drop (i + 1)) with
      | none =>
        have HR := Nm.hide (rat_bad HA.out hlt h92 he); have hes := fun W => readEscape_any (s.extract i s.size) none W (by show _ = _; rw [htl, he]) (by simp; omega) (by simp; omega)
        clear h92 he htl HA; go_wp2_with (go_at_call 164; refine (hes _).mono ?_; rintro e w3 ⟨rfl, m, hw3⟩; have HB : Hid (Below w.heap.size w w3) := (by show Below _ _ _; rw [hw3]; exact Go.below_drewN hbel m); clear hw3)
        go_ret2; rw [HR.out]
        exact ⟨rfl, HB.out⟩
      | some p =>
        obtain ⟨b, q⟩ := p; have hq := Nm.esc_len he; have hql : (s.data.toList.drop (i + 1)).length = s.size - (i + 1) := by simp
        have HN := Nm.hide (rat_esc HA.out hlt h92 he); have hes := fun W => readEscape_any (s.extract i s.size) (some (b, q)) W (by show _ = _; rw [htl, he]) (by simp; omega) (by simp; omega)
        simp only [escB, escM, escO] at hes; have hq1 : i + q + 1 ≤ s.size := by omega
        have hbb : (b.toNat : Int) < 256 := by have := b.toNat_lt; omega
        have HL2 : Hid ((l ++ [b]).length = n + 1) := by show _ = _; rw [List.length_append, HL.out]; rfl
        clear h92 he htl HA HL hql; go_wp2_with (first | (go_at_call 164; refine (hes _).mono ?_; rintro e w3 ⟨rfl, m, hw3⟩; have hb3 : Below wr.heap.size wr w3 := (by rw [hw3]; exact Go.below_drewN (Below.refl _ _) m); have hown3 := own_below hown hb3; have hbel3 := Nm.below_two hbel hb3; have hsz3 := hbel3.size; clear hw3 hb3) | (at_builtin; refine wpList_append_own _ rfl (.tmp 38) (.tmp 40) 87 rfl w.heap.size 5 i0 (.int .u8 0) 1 1 Tryz.underlying87 hi hz0 hz1 hz2 rfl (by decide) _ _ _ rfl (hown3.alloc _) ⟨w3.heap.size, 0, none⟩ 1 1 [.int .u8 (b.toNat : Int)] rfl rfl (cell_new1 _ _ _) (Nm.one_cell _ rfl) (by unfold maxLen; omega) (by omega) (by simp; omega) ?_))
        intro v' w4 hown' hgrow _; obtain ⟨X, HX, o4, b4, z4⟩ := one_step (c := b) hsz3 hown3 hbel3 _ hown' hgrow; clear hown' hgrow hown3 hbel3 hown hbel; go_wp2; go_roundw
        case rel => exact ⟨i + q + 1, n + 1, X, hq1, by go_num, by omega, by show _ = _; rw [HX.out]; exact HL2.out, by show RAt _ _ _; rw [HX.out]; exact HN.out, o4, b4⟩
        case measure => simp [intOf]; omega
    · have q1 : ((s[i].toNat : Int) != 92) = true := by simp; omega
      have HN := Nm.hide (rat_own HA.out hlt h92); have HL2 : Hid ((l ++ [s[i]]).length = n + 1) := by show _ = _; rw [List.length_append, HL.out]; rfl
      clear h92 HA HL; go_wp2_with (at_builtin; refine wpList_append_own _ rfl (.tmp 20) (.tmp 24) 87 rfl w.heap.size 5 i0 (.int .u8 0) 1 1 Tryz.underlying87 hi hz0 hz1 hz2 rfl (by decide) _ _ _ rfl (hown.alloc _) ⟨wr.heap.size, 0, none⟩ 1 1 [.int .u8 (s[i].toNat : Int)] rfl rfl (cell_new1 _ _ _) (Nm.one_cell _ rfl) (by unfold maxLen; omega) (by omega) (by simp; omega) ?_)
      intro v' w4 hown' hgrow _; obtain ⟨X, HX, o4, b4, z4⟩ := one_step (c := s[i]) hsz hown hbel _ hown' hgrow; clear hown' hgrow hown hbel; go_wp2; go_roundw
      case rel => exact ⟨i + 1, n + 1, X, by omega, by go_num, by omega, by show _ = _; rw [HX.out]; exact HL2.out, by show RAt _ _ _; rw [HX.out]; exact HN.out, o4, b4⟩
      case measure => simp [intOf]; omega
  · have hlt' : (s.size : Int) ≤ (i : Int) := by omega
    have HR := Nm.hide (rat_end HA.out (by omega))
    rcases Nat.eq_zero_or_pos n with hn0 | hnp
    · have hl0 : l = [] := List.length_eq_zero_iff.1 (by rw [HL.out]; exact hn0); subst hn0; subst hl0
      rcases hown.2 with ⟨rfl, _⟩ | ⟨g, cp, cur, rfl, _, _, _, _, _⟩
      · have hcv : (convert 87 9 (.slice none 0 0)).run Tryz.prog wr = .ok (.string ⟨#[]⟩) wr := by
         rw [run_convert_bytes_string _ 87 9 5 _ _ _ Tryz.underlying87 Tryz.underlying5 Tryz.underlying9]; rfl
        clear hown HA; go_wp2; go_ret2; rw [HR.out]; exact ⟨rfl, hbel⟩
      · have hcv : (convert 87 9 (.slice (some ⟨g, 0, none⟩) 0 cp)).run Tryz.prog wr = .ok (.string ⟨#[]⟩) wr := run_convert_bytes_back (P := Tryz.prog) wr 87 9 5 ⟨g, 0, none⟩ cp [] Tryz.underlying87 Tryz.underlying5 Tryz.underlying9 (by intro j hj; simp at hj); clear hown HA; go_wp2; go_ret2; rw [HR.out]; exact ⟨rfl, hbel⟩
    · obtain ⟨g, cp, rfl, hcv⟩ := Nm.conv_own (P := Tryz.prog) (src := 87) (dst := 9) Tryz.underlying87 Tryz.underlying5 Tryz.underlying9 hown hnp; obtain ⟨R, HRR, hcv⟩ : ∃ R, Hid (R = (⟨l.toArray⟩ : ByteArray)) ∧ (convert 87 9 (.slice (some ⟨g, 0, none⟩) n cp)).run Tryz.prog wr = .ok (.string R) wr := ⟨_, rfl, hcv⟩; clear hown HA; go_wp2; go_ret2; rw [HR.out, ← HRR.out]; exact ⟨rfl, hbel⟩
end Go.Proofs.YtddabafaejahbaaGreatDoor
/- The readers of words by their contracts: tags, numbers, texts. -/
namespace Go.Proofs.YtddabafaejahbaaGreatDoor
open Go.RowKit
set_option linter.unusedVariables false
theorem big_one (n : Nat) : (⟨(bigL n 1).toArray⟩ : ByteArray) = ⟨#[UInt8.ofNat n]⟩ := by
 simp [bigL, List.range_succ]
theorem tag_len {x : ByteArray} (h : tagT x = true) : 1 ≤ x.size ∧ x.size ≤ 15 := by
 rw [tagT] at h; simp at h; omega
set_option maxRecDepth 100000 in
set_option maxHeartbeats 1600000 in
theorem tagRead_any (x o : ByteArray) (w : World) (hx : x.size ≤ 1000000000) :
 Calls Tryz.prog 124 #[.string x, .string o] w fun e w' => e = .returned (strV (readPl 103 x o)) ∧ Below w.heap.size w w' := by
 have hr : readPl 103 x o = if tagT x = true then (lenS x, 0) else (⟨#[]⟩, 15) := rfl
 rw [hr]; clear hr; have hT := fun W => isTag_any x W hx
 cases ht : tagT x with
 | false =>
   rw [ht] at hT; rw [if_neg (by simp)]; clear ht; go_enter Tryz.func124, Tryz.ntmps124; go_wp2_with (go_at_call 125; refine (hT _).mono ?_; rintro e w1 ⟨rfl, hw⟩; obtain rfl : w = w1 := hw.symm; clear hw)
   go_ret2
   exact ⟨rfl, Below.refl _ _⟩
 | true =>
   rw [ht] at hT; rw [if_pos rfl]; obtain ⟨l1, l2⟩ := tag_len ht
   have hB : ∀ W, Calls Tryz.prog 101 #[.int .i64 (x.size : Int), .int .i64 1] W fun e w' => e = .returned (.string ⟨#[UInt8.ofNat x.size]⟩) ∧ Below W.heap.size W w' := fun W => by
    have := bigBytesN_any x.size 1 W (by omega) (by decide) (by decide); rw [big_one] at this; exact this
   have HL : Hid ((⟨#[UInt8.ofNat x.size]⟩ : ByteArray) ++ x = lenS x) := rfl; have l3 : (x.size : Int) ≤ 15 := by omega
   clear ht; go_enter Tryz.func124, Tryz.ntmps124; go_wp2_with (first | (go_at_call 125; refine (hT _).mono ?_; rintro e w1 ⟨rfl, hw⟩; obtain rfl : w = w1 := hw.symm; clear hw) | (go_at_call 101; refine (hB _).mono ?_; rintro e w2 ⟨rfl, hb2⟩))
   go_ret2; rw [← HL.out]; exact ⟨rfl, hb2⟩
set_option maxRecDepth 100000 in
set_option maxHeartbeats 1600000 in
theorem numRead_any (k : Nat) (x o : ByteArray) (g : Nat) (w : World) (hk : k = 1 ∨ k = 2 ∨ k = 4) (hg : w.cell? ⟨g, 0, none⟩ = some (.int .i64 (k : Int))) :
 Calls Tryz.prog 104 #[.string x, .string o, .pointer (some ⟨g, 0, none⟩)] w fun e w' => e = .returned (strV (readPl (kc (k + 7)) x o)) ∧ Below w.heap.size w w' := by
 have hN := fun W => readNumber_any x 10 W (by decide)
 rw [show ((10 : Nat) : Int) = 10 from rfl] at hN
 have hr : readPl (kc (k + 7)) x o = match numO x 10 with
  | some n => if n < 2 ^ (8 * k) then (⟨(bigL n k).toArray⟩, 0) else (⟨#[]⟩, 15)
  | none => (⟨#[]⟩, 15) := by rcases hk with rfl | rfl | rfl <;> rfl
 rw [hr]; clear hr
 cases hn : numO x 10 with
 | none =>
   rw [hn] at hN; unfold numV at hN; simp only [Option.getD_none, Option.isSome_none] at hN; clear hn; go_enter Tryz.func104, Tryz.ntmps104; go_wp2_with (go_at_call 53; refine (hN _).mono ?_; rintro e w1 ⟨rfl, hw⟩; obtain rfl : w = w1 := hw.symm; clear hw)
   go_ret2
   exact ⟨rfl, Below.refl _ _⟩
 | some n =>
   have hlt := numO_lt hn; rw [hn] at hN; unfold numV at hN; simp only [Option.getD_some, Option.isSome_some] at hN ⊢; have hB := fun W => bigBytesN_any n k W (by omega) (by omega) (by omega)
   clear hn
   by_cases hb : n < 2 ^ (8 * k)
   · rw [if_pos hb]
     rcases hk with rfl | rfl | rfl
     · have d1 : (n : Int) / 256 = 0 := by simp at hb; omega
       have hB1 : ∀ W, Calls Tryz.prog 101 #[.int .i64 (n : Int), .int .i64 1] W fun e w' => e = .returned (.string ⟨(bigL n 1).toArray⟩) ∧ Below W.heap.size W w' := hB
       have hg1 : w.cell? ⟨g, 0, none⟩ = some (.int .i64 1) := hg; clear hB hb hg; go_enter Tryz.func104, Tryz.ntmps104; go_wp2_with (first | (go_at_call 53; refine (hN _).mono ?_; rintro e w1 ⟨rfl, hw⟩; obtain rfl : w = w1 := hw.symm; clear hw) | (go_at_call 101; refine (hB1 _).mono ?_; rintro e w2 ⟨rfl, hb2⟩))
       go_ret2; exact ⟨rfl, hb2⟩
     · have d1 : (n : Int) / 65536 = 0 := by simp at hb; omega
       have hB1 : ∀ W, Calls Tryz.prog 101 #[.int .i64 (n : Int), .int .i64 2] W fun e w' => e = .returned (.string ⟨(bigL n 2).toArray⟩) ∧ Below W.heap.size W w' := hB
       have hg1 : w.cell? ⟨g, 0, none⟩ = some (.int .i64 2) := hg; clear hB hb hg; go_enter Tryz.func104, Tryz.ntmps104; go_wp2_with (first | (go_at_call 53; refine (hN _).mono ?_; rintro e w1 ⟨rfl, hw⟩; obtain rfl : w = w1 := hw.symm; clear hw) | (go_at_call 101; refine (hB1 _).mono ?_; rintro e w2 ⟨rfl, hb2⟩))
       go_ret2; exact ⟨rfl, hb2⟩
     · have d1 : (n : Int) / 4294967296 = 0 := by simp at hb; omega
       have hB1 : ∀ W, Calls Tryz.prog 101 #[.int .i64 (n : Int), .int .i64 4] W fun e w' => e = .returned (.string ⟨(bigL n 4).toArray⟩) ∧ Below W.heap.size W w' := hB
       have hg1 : w.cell? ⟨g, 0, none⟩ = some (.int .i64 4) := hg; clear hB hb hg; go_enter Tryz.func104, Tryz.ntmps104; go_wp2_with (first | (go_at_call 53; refine (hN _).mono ?_; rintro e w1 ⟨rfl, hw⟩; obtain rfl : w = w1 := hw.symm; clear hw) | (go_at_call 101; refine (hB1 _).mono ?_; rintro e w2 ⟨rfl, hb2⟩))
       go_ret2; exact ⟨rfl, hb2⟩
   · rw [if_neg hb]; clear hB
     rcases hk with rfl | rfl | rfl
     · have d1 : ((n : Int) / 256 == 0) = false := by simp at hb; rw [beq_eq_false_iff_ne]; omega
       have hg1 : w.cell? ⟨g, 0, none⟩ = some (.int .i64 1) := hg; clear hb hg; go_enter Tryz.func104, Tryz.ntmps104; go_wp2_with (go_at_call 53; refine (hN _).mono ?_; rintro e w1 ⟨rfl, hw⟩; obtain rfl : w = w1 := hw.symm; clear hw)
       go_ret2; exact ⟨rfl, Below.refl _ _⟩
     · have d1 : ((n : Int) / 65536 == 0) = false := by simp at hb; rw [beq_eq_false_iff_ne]; omega
       have hg1 : w.cell? ⟨g, 0, none⟩ = some (.int .i64 2) := hg; clear hb hg; go_enter Tryz.func104, Tryz.ntmps104; go_wp2_with (go_at_call 53; refine (hN _).mono ?_; rintro e w1 ⟨rfl, hw⟩; obtain rfl : w = w1 := hw.symm; clear hw)
       go_ret2; exact ⟨rfl, Below.refl _ _⟩
     · have d1 : ((n : Int) / 4294967296 == 0) = false := by simp at hb; rw [beq_eq_false_iff_ne]; omega
       have hg1 : w.cell? ⟨g, 0, none⟩ = some (.int .i64 4) := hg; clear hb hg; go_enter Tryz.func104, Tryz.ntmps104; go_wp2_with (go_at_call 53; refine (hN _).mono ?_; rintro e w1 ⟨rfl, hw⟩; obtain rfl : w = w1 := hw.symm; clear hw)
       go_ret2; exact ⟨rfl, Below.refl _ _⟩
set_option maxRecDepth 100000 in
set_option maxHeartbeats 1600000 in
theorem textRead_any (x o : ByteArray) (b : Bool) (w : World) (hs : x.size ≤ 1000000000) :
 Calls Tryz.prog 99 #[.agg #[.string x, .bool b], .string o] w fun e w' => e = .returned (strV (readTx 116 x)) ∧ Below w.heap.size w w' := by
 have h1 := fun W => implReadText_any x W hs
 obtain ⟨T, hT⟩ : ∃ T, T = readTextR x := ⟨_, rfl⟩; rw [← hT] at h1; have hr : readTx 116 x = if T.2 ≠ 0 then (⟨#[]⟩, T.2) else if 255 < T.1.size then (⟨#[]⟩, 7) else (lenS T.1, 0) := by rw [hT]; rfl
 rw [hr]; clear hr hT
 by_cases h0 : T.2 = 0
 · rw [if_neg (by simpa using h0)]; rw [h0] at h1
   by_cases hl : 255 < T.1.size
   · rw [if_pos hl]; have hl' : 255 < (T.1.size : Int) := by omega
     go_enter Tryz.func99, Tryz.ntmps99; go_wp2_with (go_at_call 100; refine (h1 _).mono ?_; rintro e w1 ⟨rfl, hb1⟩)
     go_ret2; exact ⟨rfl, Nm.below_two ((Below.refl _ _).alloc (Nat.le_refl _) _) hb1⟩
   · rw [if_neg hl]; have hl' : (T.1.size : Int) ≤ 255 := by omega
     have hB : ∀ W, Calls Tryz.prog 101 #[.int .i64 (T.1.size : Int), .int .i64 1] W fun e w' => e = .returned (.string ⟨#[UInt8.ofNat T.1.size]⟩) ∧ Below W.heap.size W w' := fun W => by
      have := bigBytesN_any T.1.size 1 W (by omega) (by decide) (by decide); rw [big_one] at this; exact this
     have HL : Hid ((⟨#[UInt8.ofNat T.1.size]⟩ : ByteArray) ++ T.1 = lenS T.1) := rfl; go_enter Tryz.func99, Tryz.ntmps99; go_wp2_with (first | (go_at_call 100; refine (h1 _).mono ?_; rintro e w1 ⟨rfl, hb1⟩) | (go_at_call 101; refine (hB _).mono ?_; rintro e w2 ⟨rfl, hb2⟩))
     go_ret2; rw [← HL.out]; exact ⟨rfl, Nm.below_two (Nm.below_two ((Below.refl _ _).alloc (Nat.le_refl _) _) hb1) hb2⟩
 · rw [if_pos (by simpa using h0)]; have h0' : (T.2 == 0) = false := by simpa using h0
   go_enter Tryz.func99, Tryz.ntmps99; go_wp2_with (go_at_call 100; refine (h1 _).mono ?_; rintro e w1 ⟨rfl, hb1⟩)
   go_ret2; exact ⟨rfl, Nm.below_two ((Below.refl _ _).alloc (Nat.le_refl _) _) hb1⟩
theorem readTx_rest (x : ByteArray) : readTx 118 x = readTextR x := by
 unfold readTx
 by_cases h : (readTextR x).2 = 0
 · rw [if_neg (by simpa using h), if_pos rfl]; rw [← h]
 · rw [if_pos h]; unfold readTextR at h ⊢
   cases hl : readTextL x.data.toList with
   | none => rfl
   | some l => rw [hl] at h; exact absurd rfl h
set_option maxRecDepth 100000 in
set_option maxHeartbeats 1600000 in
theorem restRead_any (x o : ByteArray) (b : Bool) (w : World) (hs : x.size ≤ 1000000000) :
 Calls Tryz.prog 127 #[.agg #[.string x, .bool b], .string o] w fun e w' => e = .returned (strV (readTx 118 x)) ∧ Below w.heap.size w w' := by
 have h1 := fun W => implReadText_any x W hs
 rw [readTx_rest]; generalize readTextR x = T at *; go_enter Tryz.func127, Tryz.ntmps127; go_wp2_with (go_at_call 100; refine (h1 _).mono ?_; rintro e w1 ⟨rfl, hb1⟩)
 go_ret2; exact ⟨rfl, Nm.below_two ((Below.refl _ _).alloc (Nat.le_refl _) _) hb1⟩
theorem four_keptR {w w1 : World} {a b c d e : Value} {t1 t2 t3 t4 : Nat} (hb : Below ((((w.alloc (.cells #[a] t1)).alloc (.cells #[b] t2)).alloc (.cells #[c] t3)).alloc (.cells #[d, e] t4)).heap.size ((((w.alloc (.cells #[a] t1)).alloc (.cells #[b] t2)).alloc (.cells #[c] t3)).alloc (.cells #[d, e] t4)) w1) :
 w1.cell? ⟨w.heap.size, 0, none⟩ = some a ∧ w1.cell? ⟨w.heap.size + 1, 0, none⟩ = some b ∧ w1.cell? ⟨w.heap.size + 1 + 1, 0, none⟩ = some c ∧ Below w.heap.size w w1 := by
 have s1 : (w.alloc (.cells #[a] t1)).heap.size = w.heap.size + 1 := by simp
 have s2 : ((w.alloc (.cells #[a] t1)).alloc (.cells #[b] t2)).heap.size = w.heap.size + 1 + 1 := by simp
 have s3 : (((w.alloc (.cells #[a] t1)).alloc (.cells #[b] t2)).alloc (.cells #[c] t3)).heap.size = w.heap.size + 1 + 1 + 1 := by simp
 have b1 : Below w.heap.size w (w.alloc (.cells #[a] t1)) := (Below.refl _ w).alloc (Nat.le_refl _) _; have b2 := (Below.refl (w.alloc (.cells #[a] t1)).heap.size (w.alloc (.cells #[a] t1))).alloc (Nat.le_refl _) (.cells #[b] t2); have b3 := (Below.refl ((w.alloc (.cells #[a] t1)).alloc (.cells #[b] t2)).heap.size ((w.alloc (.cells #[a] t1)).alloc (.cells #[b] t2))).alloc (Nat.le_refl _) (.cells #[c] t3); have b4 := (Below.refl (((w.alloc (.cells #[a] t1)).alloc (.cells #[b] t2)).alloc (.cells #[c] t3)).heap.size (((w.alloc (.cells #[a] t1)).alloc (.cells #[b] t2)).alloc (.cells #[c] t3))).alloc (Nat.le_refl _) (.cells #[d, e] t4); have b34 := Nm.below_two b4 hb; have b23 := Nm.below_two b3 b34; have b24 := Nm.below_two b2 b23; refine ⟨(b24.cell (by rw [s1]; exact Nat.lt_succ_self _)).trans (by simp), (b23.cell (by rw [s2]; exact Nat.lt_succ_self _)).trans ?_, (b34.cell (by rw [s3]; exact Nat.lt_succ_self _)).trans ?_, Nm.below_two b1 b24⟩
 · have := World.cell?_alloc_new (w.alloc (.cells #[a] t1)) #[b] t2 0; rw [s1] at this; exact this
 · have := World.cell?_alloc_new ((w.alloc (.cells #[a] t1)).alloc (.cells #[b] t2)) #[c] t3 0; rw [s2] at this; exact this
set_option maxRecDepth 100000 in
set_option maxHeartbeats 1000000 in
theorem addressWordR4_any (w : World) :
 Calls Tryz.prog 63 #[.int .i64 4, .func (.func 64) #[] #[], .func (.func 65) #[] #[]] w fun e w' => (∃ f, e = .returned f ∧ RFv w' 4 f) ∧ Below w.heap.size w w' := by
 have hun := fun p W => unquotedR_any (.func (.func 113) #[] p) W _ _ _ rfl
 go_enter Tryz.func63, Tryz.ntmps63; go_wp2_with (go_at_call 95; refine (hun _ _).mono ?_; rintro e w1 ⟨⟨b, rfl, hcb⟩, hb1⟩; obtain ⟨c0, c1, f0, f1⟩ := two_keptR hb1; have hne := cell_neR hcb c0 (by simp); obtain ⟨kg, kr, kh, hb⟩ := four_keptR hb1; simp only [World.alloc, Array.size_push] at c0 c1 f0 f1 hne)
 obtain ⟨s0, s1⟩ := two_setR (r := .func (.func 157) #[] #[.pointer (some ⟨b, 0, none⟩)]) (v := .func (.func 114) #[] #[.pointer (some ⟨w.heap.size + 1 + 1, 0, none⟩), .pointer (some ⟨w.heap.size, 0, none⟩)]) c0 c1; refine bodyPost_ret (v := .agg #[.func (.func 157) #[] #[.pointer (some ⟨b, 0, none⟩)], .func (.func 114) #[] #[.pointer (some ⟨w.heap.size + 1 + 1, 0, none⟩), .pointer (some ⟨w.heap.size, 0, none⟩)]]) ?_ rfl ⟨⟨_, rfl, _, _, _, _, _, rfl, ⟨b, _, rfl, (set_farR hne).trans hcb, (set_farR (by omega)).trans kr⟩⟩, (hb.setCell (by simp <;> omega) _).setCell (by simp <;> omega) _⟩; simp [results, Tryz.results63, go_sem, Result.andThen, s0, s1]
set_option maxRecDepth 100000 in
set_option maxHeartbeats 1000000 in
theorem addressWordR6_any (w : World) :
 Calls Tryz.prog 63 #[.int .i64 16, .func (.func 66) #[] #[], .func (.func 67) #[] #[]] w fun e w' => (∃ f, e = .returned f ∧ RFv w' 5 f) ∧ Below w.heap.size w w' := by
 have hun := fun p W => unquotedR_any (.func (.func 113) #[] p) W _ _ _ rfl
 go_enter Tryz.func63, Tryz.ntmps63; go_wp2_with (go_at_call 95; refine (hun _ _).mono ?_; rintro e w1 ⟨⟨b, rfl, hcb⟩, hb1⟩; obtain ⟨c0, c1, f0, f1⟩ := two_keptR hb1; have hne := cell_neR hcb c0 (by simp); obtain ⟨kg, kr, kh, hb⟩ := four_keptR hb1; simp only [World.alloc, Array.size_push] at c0 c1 f0 f1 hne)
 obtain ⟨s0, s1⟩ := two_setR (r := .func (.func 157) #[] #[.pointer (some ⟨b, 0, none⟩)]) (v := .func (.func 114) #[] #[.pointer (some ⟨w.heap.size + 1 + 1, 0, none⟩), .pointer (some ⟨w.heap.size, 0, none⟩)]) c0 c1; refine bodyPost_ret (v := .agg #[.func (.func 157) #[] #[.pointer (some ⟨b, 0, none⟩)], .func (.func 114) #[] #[.pointer (some ⟨w.heap.size + 1 + 1, 0, none⟩), .pointer (some ⟨w.heap.size, 0, none⟩)]]) ?_ rfl ⟨⟨_, rfl, _, _, _, _, _, rfl, ⟨b, _, rfl, (set_farR hne).trans hcb, (set_farR (by omega)).trans kr⟩⟩, (hb.setCell (by simp <;> omega) _).setCell (by simp <;> omega) _⟩; simp [results, Tryz.results63, go_sem, Result.andThen, s0, s1]
set_option maxRecDepth 100000 in
set_option maxHeartbeats 1000000 in
theorem justWordsR_any (u : Value) (w : World) (a : Option Addr) (n cap : Nat) (hu : u = .slice a n cap) :
 Calls Tryz.prog 62 #[u] w fun e w' => (∃ gc F y, e = .returned (.agg #[.func (.func 110) #[] #[.pointer (some ⟨gc, 0, none⟩)], .func F #[] y]) ∧ w'.cell? ⟨gc, 0, none⟩ = some u) ∧ Below w.heap.size w w' := by
 subst hu; go_enter Tryz.func62, Tryz.ntmps62; go_wp2; refine bodyPost_ret (v := .agg #[.func (.func 110) #[] #[.pointer (some ⟨w.heap.size, 0, none⟩)], .func (.func 112) #[] #[.pointer (some ⟨w.heap.size, 0, none⟩)]]) ?_ rfl ⟨⟨_, _, _, rfl, by simp⟩, (((Below.refl _ w).alloc (Nat.le_refl _) _).alloc (by simp) _)⟩; simp [results, Tryz.results62, go_sem, Result.andThen]
set_option maxRecDepth 100000 in
set_option maxHeartbeats 1000000 in
theorem manyWordsR_any (w : World) (f : Fn) (x y : Array Value) (g : Fn) (p q : Array Value) :
 Calls Tryz.prog 68 #[.agg #[.func f x y, .func g p q]] w fun e w' => (∃ gc F z, e = .returned (.agg #[.func (.func 121) #[] #[.pointer (some ⟨gc, 0, none⟩)], .func F #[] z]) ∧ w'.cell? ⟨gc, 0, none⟩ = some (.func f x y) ∧ w'.cell? ⟨gc, 1, none⟩ = some (.func g p q)) ∧ Below w.heap.size w w' := by
 go_enter Tryz.func68, Tryz.ntmps68; go_wp2; refine bodyPost_ret (v := .agg #[.func (.func 121) #[] #[.pointer (some ⟨w.heap.size, 0, none⟩)], .func (.func 123) #[] #[.pointer (some ⟨w.heap.size, 0, none⟩)]]) ?_ rfl ⟨⟨_, _, _, rfl, by simp, by simp⟩, (((Below.refl _ w).alloc (Nat.le_refl _) _).alloc (by simp) _)⟩; simp [results, Tryz.results68, go_sem, Result.andThen]
theorem old_allocR {w1 : World} {g : Nat} (hlt : g < w1.heap.size) (o : Obj) (j : Nat) : (w1.alloc o).cell? ⟨g, j, none⟩ = w1.cell? ⟨g, j, none⟩ ∧ (w1.alloc o).frozen? ⟨g, j, none⟩ = w1.frozen? ⟨g, j, none⟩ := by
 have hb : Below w1.heap.size w1 (w1.alloc o) := (Below.refl _ w1).alloc (Nat.le_refl _) o; exact ⟨hb.cell hlt, by simp only [World.frozen?, hb.block g hlt]⟩
set_option maxRecDepth 100000 in
set_option maxHeartbeats 1000000 in
theorem nameAndTypesR_any (w : World) :
 Calls Tryz.prog 71 #[] w fun e w' => (∃ gc b F z, e = .returned (.agg #[.func (.func 129) #[] #[.pointer (some ⟨gc, 0, none⟩)], .func F #[] z]) ∧ w'.cell? ⟨gc, 0, none⟩ = some (.func (.func 157) #[] #[.pointer (some ⟨b, 0, none⟩)]) ∧ w'.cell? ⟨b, 0, none⟩ = some (.func (.func 96) #[] #[])) ∧ Below w.heap.size w w' := by
 have hn := fun W => nameWordR_any W
 go_enter Tryz.func71, Tryz.ntmps71; go_wp2_with (go_at_call 58; refine (hn _).mono ?_; rintro e w1 ⟨⟨f, rfl, g, x, y, F, u, rfl, b, hbv, hcb⟩, hb1⟩; obtain ⟨rfl, rfl, rfl⟩ := Value.func.inj hbv; obtain ⟨c0, c1, f0, f1⟩ := two_keptR hb1; have hne := cell_neR hcb c0 (by simp); have hl1 := World.block_lt_of_cell? w1 _ c0; have d0 := fun o => (old_allocR hl1 o 0).1.trans c0; have d1 := fun o => (old_allocR hl1 o 1).1.trans c1; have e0 := fun o => (old_allocR hl1 o 0).2.trans f0; have e1 := fun o => (old_allocR hl1 o 1).2.trans f1)
 have hb : Below w.heap.size w w1 := ((Below.refl _ w).alloc (Nat.le_refl _) _).trans (hb1.mono (by simp)); have hs1 := hb.size; obtain ⟨s0, s1⟩ := two_setR (w1 := w1) (r := .func (.func 129) #[] #[.pointer (some ⟨w1.heap.size, 0, none⟩)]) (v := .func (.func 131) #[] #[.pointer (some ⟨w1.heap.size, 0, none⟩)]) c0 c1; have hcb2 := (set_farR (r := .func (.func 129) #[] #[.pointer (some ⟨w1.heap.size, 0, none⟩)]) (v := .func (.func 131) #[] #[.pointer (some ⟨w1.heap.size, 0, none⟩)]) hne).trans hcb; have hl2 := World.block_lt_of_cell? _ _ s0; have t0 := fun o => (old_allocR hl2 o 0).1.trans s0
 have t1 := fun o => (old_allocR hl2 o 1).1.trans s1
 have tb := fun o => (old_allocR (World.block_lt_of_cell? _ _ hcb2) o 0).1.trans hcb2
 refine bodyPost_ret (v := .agg #[.func (.func 129) #[] #[.pointer (some ⟨w1.heap.size, 0, none⟩)], .func (.func 131) #[] #[.pointer (some ⟨w1.heap.size, 0, none⟩)]]) ?_ rfl ⟨⟨_, b, _, _, rfl, ?_, tb _⟩, ((hb.setCell (Nat.le_refl _) _).setCell (Nat.le_refl _) _).alloc (by simpa using hs1) _⟩
 · simp [results, Tryz.results71, go_sem, Result.andThen, t0, t1]
 · have e := World.cell?_alloc_new ((w1.setCell ⟨w.heap.size, 0, none⟩ (.func (.func 129) #[] #[.pointer (some ⟨w1.heap.size, 0, none⟩)])).setCell ⟨w.heap.size, 1, none⟩ (.func (.func 131) #[] #[.pointer (some ⟨w1.heap.size, 0, none⟩)])) #[.func (.func 157) #[] #[.pointer (some ⟨b, 0, none⟩)], .func F #[] u] 113 0; simpa using e
end Go.Proofs.YtddabafaejahbaaGreatDoor
/- impl.secondsOf by its contract. -/
namespace Go.Proofs.YtddabafaejahbaaGreatDoor
open Go.RowKit
theorem low_val (c : UInt8) : (Nm.low c).toNat = if 65 ≤ c.toNat ∧ c.toNat ≤ 90 then c.toNat + 32 else c.toNat := by
 unfold Nm.low; split
 · have := c.toNat_lt
   simp; omega
 · rfl
theorem unit_low (c : UInt8) : unitS c = (if (Nm.low c).toNat = 115 then 1 else if (Nm.low c).toNat = 109 then 60 else if (Nm.low c).toNat = 104 then 3600 else if (Nm.low c).toNat = 100 then 86400 else if (Nm.low c).toNat = 119 then 604800 else 0) := by
 rw [low_val, unitS]; have := c.toNat_lt; generalize c.toNat = n at *
 repeat' split
 all_goals omega
set_option maxRecDepth 100000 in
set_option maxHeartbeats 1600000 in
theorem secondsOf_any (c : UInt8) (w : World) :
 Calls Tryz.prog 202 #[.int .u8 c.toNat] w fun e w' => e = .returned (.int .i64 (unitS c)) ∧ w' = w := by
 have hf := fun W => foldByte_any c W
 have hu := unit_low c; generalize Nm.low c = d at *; generalize unitS c = z at *
 by_cases h1 : d.toNat = 115
 · rw [if_pos h1] at hu; have q1 : ((d.toNat : Int) == 115) = true := by rw [beq_iff_eq]; omega
   subst hu; clear h1; go_enter Tryz.func202, Tryz.ntmps202; go_wp2_with (go_at_call 154; refine (hf _).mono ?_; rintro e w1 ⟨rfl, hw⟩; obtain rfl : w = w1 := hw.symm; clear hw)
   go_ret; exact ⟨rfl, rfl⟩
 rw [if_neg h1] at hu; have q1 : ((d.toNat : Int) == 115) = false := by rw [beq_eq_false_iff_ne]; omega
 by_cases h2 : d.toNat = 109
 · rw [if_pos h2] at hu; have q2 : ((d.toNat : Int) == 109) = true := by rw [beq_iff_eq]; omega
   subst hu; clear h1 h2; go_enter Tryz.func202, Tryz.ntmps202; go_wp2_with (go_at_call 154; refine (hf _).mono ?_; rintro e w1 ⟨rfl, hw⟩; obtain rfl : w = w1 := hw.symm; clear hw)
   go_ret; exact ⟨rfl, rfl⟩
 rw [if_neg h2] at hu; have q2 : ((d.toNat : Int) == 109) = false := by rw [beq_eq_false_iff_ne]; omega
 by_cases h3 : d.toNat = 104
 · rw [if_pos h3] at hu; have q3 : ((d.toNat : Int) == 104) = true := by rw [beq_iff_eq]; omega
   subst hu; clear h1 h2 h3; go_enter Tryz.func202, Tryz.ntmps202; go_wp2_with (go_at_call 154; refine (hf _).mono ?_; rintro e w1 ⟨rfl, hw⟩; obtain rfl : w = w1 := hw.symm; clear hw)
   go_ret; exact ⟨rfl, rfl⟩
 rw [if_neg h3] at hu; have q3 : ((d.toNat : Int) == 104) = false := by rw [beq_eq_false_iff_ne]; omega
 by_cases h4 : d.toNat = 100
 · rw [if_pos h4] at hu; have q4 : ((d.toNat : Int) == 100) = true := by rw [beq_iff_eq]; omega
   subst hu; clear h1 h2 h3 h4; go_enter Tryz.func202, Tryz.ntmps202; go_wp2_with (go_at_call 154; refine (hf _).mono ?_; rintro e w1 ⟨rfl, hw⟩; obtain rfl : w = w1 := hw.symm; clear hw)
   go_ret; exact ⟨rfl, rfl⟩
 rw [if_neg h4] at hu; have q4 : ((d.toNat : Int) == 100) = false := by rw [beq_eq_false_iff_ne]; omega
 by_cases h5 : d.toNat = 119
 · rw [if_pos h5] at hu; have q5 : ((d.toNat : Int) == 119) = true := by rw [beq_iff_eq]; omega
   subst hu; clear h1 h2 h3 h4 h5; go_enter Tryz.func202, Tryz.ntmps202; go_wp2_with (go_at_call 154; refine (hf _).mono ?_; rintro e w1 ⟨rfl, hw⟩; obtain rfl : w = w1 := hw.symm; clear hw)
   go_ret; exact ⟨rfl, rfl⟩
 rw [if_neg h5] at hu; have q5 : ((d.toNat : Int) == 119) = false := by rw [beq_eq_false_iff_ne]; omega
 subst hu; clear h1 h2 h3 h4 h5; go_enter Tryz.func202, Tryz.ntmps202; go_wp2_with (go_at_call 154; refine (hf _).mono ?_; rintro e w1 ⟨rfl, hw⟩; obtain rfl : w = w1 := hw.symm; clear hw)
 go_ret; exact ⟨rfl, rfl⟩
end Go.Proofs.YtddabafaejahbaaGreatDoor
