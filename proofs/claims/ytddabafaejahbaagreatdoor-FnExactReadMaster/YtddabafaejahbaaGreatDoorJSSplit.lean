import Derived.Test.YtddabafaejahbaaGreatDoorJTxt8
import Derived.Test.YtddabafaejahbaaGreatDoorJMath
import Derived.Test.YtddabafaejahbaaGreatDoorJV6T
import Derived.Test.YtddabafaejahbaaGreatDoorJOwnT
import Derived.Test.YtddabafaejahbaaGreatDoorJIParts
/- spec.l01Split by its contract. -/
namespace Go.Proofs.YtddabafaejahbaaGreatDoor
open Go.RowKit
set_option maxRecDepth 100000 in
set_option maxHeartbeats 800000 in
theorem l01Split_any (s : ByteArray) (w : World) (hs : s.size ≤ maxLen) :
 Calls Tryz.prog 36 #[.string s] w fun e w' => ∃ v, e = .returned (.tuple #[v, .bool (Nm.split s).isSome]) ∧
  w'.ownsRow w.heap.size 9 1 v ((Nm.split s).getD []).length (((Nm.split s).getD []).map Value.string) ∧ Below w.heap.size w w' := by
 unfold maxLen at hs; obtain ⟨i0, hi, hz0, hz1, hz2⟩ := info_parts Tryz.infoStr
 by_cases hlong : 255 < s.size
 · have H : Hid (Nm.split s = none) := Nm.split_long s hlong; have hl : (255 : Int) < (s.size : Int) := by omega
   go_enter Tryz.func36, Tryz.ntmps36; go_wp2; go_ret2; rw [H.out]; exact ⟨_, rfl, World.ownsRow_nil _ _ _ _, (Below.refl _ _).alloc (Nat.le_refl _) _⟩
 by_cases hshort : s.size = 0
 · have H : Hid (Nm.split s = none) := Nm.at_empty (Nm.at_start s (by omega)) hshort; have hl : (s.size : Int) < 1 := by omega
   go_enter Tryz.func36, Tryz.ntmps36; go_wp2; go_ret2; rw [H.out]; exact ⟨_, rfl, World.ownsRow_nil _ _ _ _, (Below.refl _ _).alloc (Nat.le_refl _) _⟩
 · have hl : (s.size : Int) ≤ 255 := by omega
   have hl1 : (1 : Int) ≤ (s.size : Int) := by omega
   have hst := Nm.at_start s (by omega); go_enter Tryz.func36, Tryz.ntmps36; go_wp2
   go_loopw [4, 5] (fun v x wr => ∃ (ls : List ByteArray) (r : ByteArray), x = .string r ∧ Nm.At s ls r ∧ ls.length + r.size ≤ 255 ∧ wr.ownsRow w.heap.size 9 1 v ls.length (ls.map Value.string) ∧ Below w.heap.size w wr)
    (fun _ x _ => match x with | .string r => r.size | _ => 0)
   case atStart => exact ⟨[], s, rfl, hst, by simp; omega, World.ownsRow_made w #[] 0 (Nat.le_refl _) (by decide) rfl, (Below.refl _ _).alloc (Nat.le_refl _) _⟩
   case round =>
    obtain ⟨ls, r, rfl, hat, hb, hown, hbel⟩ := hrel; clear hst
    by_cases h0 : r.size = 0
    · have HN : Hid (Nm.split s = none) := Nm.at_empty hat h0; have e2 := Nm.tl_empty h0; go_wp2; go_ret2; rw [HN.out]; exact ⟨_, rfl, World.ownsRow_nil _ _ _ _, hbel⟩
    · have hp : 0 < r.size := by omega
      have hn : (r[0].toNat : Int) < 256 := by have := r[0].toNat_lt; omega
      have e2 := Nm.tl_not_empty hp
      by_cases h2 : r[0].toNat = 0
      · have e3 : ((r[0].toNat : Int) == 0) = true := by simp [h2]
        by_cases h1 : r.size = 1
        · have HN : Hid (Nm.split s = some ls) := Nm.at_end hat hp h2 h1; have e4 : ((r.size : Int) != 1) = false := by simp [h1]
          clear h1 h2; go_wp2; go_ret2; rw [HN.out]; exact ⟨_, rfl, hown, hbel⟩
        · have HN : Hid (Nm.split s = none) := Nm.at_zero hat hp h2 h1; have e4 : ((r.size : Int) != 1) = true := by rw [bne_iff_ne]; omega
          clear h1 h2; go_wp2; go_ret2; rw [HN.out]; exact ⟨_, rfl, World.ownsRow_nil _ _ _ _, hbel⟩
      · have e3 : ((r[0].toNat : Int) == 0) = false := by rw [beq_eq_false_iff_ne]; omega
        have e3' : (0 : Int) < (r[0].toNat : Int) := by omega
        by_cases h3 : 63 < r[0].toNat
        · have HN : Hid (Nm.split s = none) := Nm.at_bad hat hp h2 (.inl h3); have e4 : (63 : Int) < (r[0].toNat : Int) := by omega
          clear h2 h0 h3; go_wp2; go_ret2; rw [HN.out]; exact ⟨_, rfl, World.ownsRow_nil _ _ _ _, hbel⟩
        · have e4 : (r[0].toNat : Int) ≤ 63 := by omega
          by_cases h4 : r.size < r[0].toNat + 1
          · have HN : Hid (Nm.split s = none) := Nm.at_bad hat hp h2 (.inr h4); have e5 : (r.size : Int) < (r[0].toNat : Int) + 1 := by omega
            clear h2 h0 h3 h4; go_wp2; go_ret2; rw [HN.out]; exact ⟨_, rfl, World.ownsRow_nil _ _ _ _, hbel⟩
          · have e5 : (r[0].toNat : Int) + 1 ≤ (r.size : Int) := by omega
            have HN : Hid (Nm.At s (ls ++ [r.extract 1 (r[0].toNat + 1)]) (r.extract (r[0].toNat + 1) r.size)) := Nm.at_step hat hp h2 (by omega) (by omega); have hsz := hbel.size; clear h2 h0 h3 h4; go_wp2_with (at_builtin; refine wpList_append_own _ rfl (.tmp 37) (.tmp 42) 82 rfl w.heap.size 9 i0 (.string ByteArray.empty) 1 16 Tryz.underlying82 hi hz0 hz1 hz2 rfl (by decide) _ _ _ rfl (hown.alloc _) ⟨wr.heap.size, 0, none⟩ 1 1 [.string (r.extract 1 (r[0].toNat + 1))] rfl rfl ?c1 ?c2 ?c3 ?c4 ?c5 ?_)
            case c1 =>
             intro j u hj
             match j, hj with
             | 0, hj => simp at hj; subst hj; simp [Addr.add]
            case c2 => exact Nm.one_cell _ rfl
            case c3 => unfold maxLen; omega
            case c4 => omega
            case c5 => simp; omega
            · intro v' w1 hown' hgrow _; have R := own_step hsz hown hbel _ hown' hgrow; clear hown' hgrow hown hbel; go_wp2; go_roundw
              case rel => exact ⟨_, _, rfl, HN.out, by simp; omega, R.1, R.2⟩
              case measure => simp; omega
end Go.Proofs.YtddabafaejahbaaGreatDoor
/- spec.ReadName by its contract. -/
namespace Go.Proofs.YtddabafaejahbaaGreatDoor
open Go.RowKit
theorem tl_at {t : ByteArray} (h : (t.toList == [64]) = true) : (t.toList == [46]) = false := by
 rw [beq_iff_eq] at h; rw [h]; rfl
set_option maxRecDepth 100000 in
set_option maxHeartbeats 1600000 in
theorem specReadName_any (t o : ByteArray) (w : World) (ho : o.size ≤ maxLen) :
 Calls Tryz.prog 44 #[.string t, .string o] w fun e w' => e = .returned (.tuple #[.string (readS t o).1, .int .i64 (readS t o).2]) ∧ Below w.heap.size w w' := by
 have hsp := l01Split_any o w ho; obtain ⟨i0, hi, hz0, hz1, hz2⟩ := info_parts Tryz.infoStr
 by_cases hform : o.size ≠ 0 ∧ Nm.split o = none
 · have HA := Nm.hide (read_form (t := t) hform); have hoe := Nm.tl_not_empty (r := o) (by omega); rw [hform.2] at hsp; clear hform; go_enter Tryz.func44, Tryz.ntmps44; go_wp2_with fail
   refine hsp.mono ?_; rintro e w1 ⟨v, rfl, hown, hbel⟩; go_wp2; go_ret2; rw [HA.out]; exact ⟨rfl, by first | exact hbel | exact hbel.alloc hbel.size _⟩
 · have hgu : (o.toList.isEmpty = true) ∨ (o.toList.isEmpty = false ∧ (Nm.split o).isSome = true) := by
    by_cases h0 : o.size = 0
    · exact .inl (Nm.tl_empty h0)
    · refine .inr ⟨Nm.tl_not_empty (by omega), ?_⟩
      cases hq : Nm.split o with
      | none => exact absurd ⟨h0, hq⟩ hform
      | some zs => rfl
   by_cases hlong : 1100 < t.size
   · have HA := Nm.hide (read_long hform hlong); have hl' : (1100 : Int) < (t.size : Int) := by omega
     clear hform; generalize Nm.split o = so at *
     rcases hgu with h1 | ⟨h1, h2⟩
     all_goals
      go_enter Tryz.func44, Tryz.ntmps44; go_wp2_with fail
      refine hsp.mono ?_; rintro e w1 ⟨v, rfl, hown, hbel⟩; go_wp2; go_ret2; rw [HA.out]; exact ⟨rfl, by first | exact hbel | exact hbel.alloc hbel.size _⟩
   by_cases hemp : t.size = 0
   · have HA := Nm.hide (read_empty hform hemp); have hl' : (t.size : Int) ≤ 1100 := by omega
     have hte := Nm.tl_empty hemp; clear hform; generalize Nm.split o = so at *
     rcases hgu with h1 | ⟨h1, h2⟩
     all_goals
      go_enter Tryz.func44, Tryz.ntmps44; go_wp2_with fail
      refine hsp.mono ?_; rintro e w1 ⟨v, rfl, hown, hbel⟩; go_wp2; go_ret2; rw [HA.out]; exact ⟨rfl, by first | exact hbel | exact hbel.alloc hbel.size _⟩
   have hl' : (t.size : Int) ≤ 1100 := by omega
   have hte := Nm.tl_not_empty (r := t) (by omega)
   cases hat : (t.toList == [64]) with
   | true =>
     have hra := read_at hform (by omega) (by omega) hat; have hdt := tl_at hat
     by_cases h0 : o.size = 0
     · have HA := Nm.hide (hra.trans (if_pos h0)); have hoe := Nm.tl_empty h0; clear hform hra hgu; go_enter Tryz.func44, Tryz.ntmps44; go_wp2_with fail
       refine hsp.mono ?_; rintro e w1 ⟨v, rfl, hown, hbel⟩; go_wp2; go_ret2; rw [HA.out]; exact ⟨rfl, by first | exact hbel | exact hbel.alloc hbel.size _⟩
     · have hoe := Nm.tl_not_empty (r := o) (by omega); obtain ⟨zs, hq⟩ : ∃ zs, Nm.split o = some zs := Option.ne_none_iff_exists'.1 (fun h => hform ⟨h0, h⟩); have HA := Nm.hide ((hra.trans (if_neg h0)).trans (make_split hq).symm); have hz := Nm.split_size hq; have hlz := Nm.length_le_wsum zs; have hmk := fun V W h => specMakeName_any V ([] ++ zs) W h
       rw [List.nil_append] at hmk; generalize makeS zs = M at *; rw [hq] at hsp; clear hform hra hgu hq; go_enter Tryz.func44, Tryz.ntmps44; go_wp2_with fail
       refine hsp.mono ?_; rintro e w1 ⟨v, rfl, hown, hbel⟩; obtain ⟨a3, cap3, rfl, hcap3, hmx3, hnl3, hc3⟩ := Nm.SRow.of_owns hown; simp only [Option.getD_some] at hown hcap3 hc3; clear hown hsp hnl3; go_wp2
       go_loopw [8, 13] (fun v i wi => ∃ j : Nat, j ≤ zs.length ∧ i = .int .i64 j ∧ wi.ownsRow w1.heap.size 9 1 v (([] : List ByteArray) ++ zs.take j).length ((([] : List ByteArray) ++ zs.take j).map Value.string) ∧ Below w1.heap.size w1 wi)
        (fun _ i _ => zs.length - (intOf i).toNat)
       case atStart => exact ⟨0, Nat.zero_le _, rfl, by simpa using World.ownsRow_made w1 #[] 0 (Nat.le_refl _) (by decide) rfl, (Below.refl _ _).alloc (Nat.le_refl _) _⟩
       case round =>
        obtain ⟨j, hj, rfl, hownj, hbelj⟩ := hrel; have hszj := hbelj.size; have hlj : (([] : List ByteArray) ++ zs.take j).length = 0 + j := by simp; omega
        by_cases hjz : j < zs.length
        · obtain ⟨x, hx⟩ : ∃ x, zs[j]? = some x := ⟨_, List.getElem?_eq_getElem hjz⟩; obtain ⟨b3, off3, rfl, hcell⟩ := hc3 (by intro h; rw [h] at hjz; simp at hjz); have hcx : wr.cell? ⟨b3, off3 + j, none⟩ = some (.string x) := (hbelj.cell (World.block_lt_of_cell? w1 _ (hcell j x hx))).trans (hcell j x hx); have HT := Nm.hide (Nm.take_step hx); have HLK := Nm.hide hlj; clear hx hcell hc3 hlj hmk; go_wp2_with (at_builtin; refine wpList_append_own _ rfl (.tmp 56) (.tmp 61) 82 rfl w1.heap.size 9 i0 (.string ByteArray.empty) 1 16 Tryz.underlying82 hi hz0 hz1 hz2 rfl (by decide) _ _ _ rfl (hownj.alloc _) ⟨wr.heap.size, 0, none⟩ 1 1 [.string x] rfl rfl (cell_one_new _ _ _) (Nm.one_cell _ rfl) (by have := HLK.out; unfold maxLen; omega) (by have := HLK.out; omega) (by simp; omega) ?_; intro v' w5 hown' hgrow hnl'; clear hnl'; have R := own_step hszj hownj hbelj _ hown' hgrow; clear hown' hgrow)
          go_roundw
          case rel => exact ⟨j + 1, by omega, by go_num, by rw [HT.out, ← List.append_assoc]; exact R.1, R.2⟩
          case measure => simp [intOf]; omega
        · have hje : j = zs.length := by omega
          subst hje; rw [List.take_length] at hownj; have hrr := Nm.SRow.of_owns hownj; clear hownj hc3 hlj; go_wp2_with fail
          refine (hmk _ _ hrr).mono ?_; rintro e w6 ⟨rfl, hbel6⟩; go_wp2; go_ret2; rw [HA.out]
          exact ⟨rfl, Nm.below_two (Nm.below_two hbel hbelj) hbel6⟩
   | false =>
     cases hdt : (t.toList == [46]) with
     | true =>
       have HA := Nm.hide (read_dot hform (by omega) (by omega) hat hdt); clear hform; generalize Nm.split o = so at *
       rcases hgu with h1 | ⟨h1, h2⟩
       all_goals
        go_enter Tryz.func44, Tryz.ntmps44; go_wp2_with fail
        refine hsp.mono ?_; rintro e w1 ⟨v, rfl, hown, hbel⟩; go_wp2; go_ret2; rw [HA.out]
        exact ⟨rfl, by first | exact hbel | exact hbel.alloc hbel.size _⟩
     | false =>
       have hrs := read_scan hform (by omega) (by omega) hat hdt; have hsc := fun W => l01Read_any t W (by omega)
       have hok := scanS_ok t; have htb : t.size ≤ 1100 := by omega
       generalize hS : Nm.scanS t = R at *; clear hS; obtain ⟨ls, ab, code⟩ := R; simp only at hrs hsc hok
       by_cases hcode : code ≠ 0
       · have HA := Nm.hide (hrs.trans (if_pos hcode)); have hc' : (code != 0) = true := by rw [bne_iff_ne]; exact hcode
         clear hform hrs hcode; generalize Nm.split o = so at *
         rcases hgu with h1 | ⟨h1, h2⟩
         all_goals
          go_enter Tryz.func44, Tryz.ntmps44; go_wp2_with fail
          refine hsp.mono ?_; rintro e w1 ⟨v, rfl, hown, hbel⟩; go_wp2_with fail
          refine (hsc _).mono ?_; rintro e w2 ⟨v2, rfl, hown2, hbel2⟩; go_wp2; go_ret2; rw [HA.out]; exact ⟨rfl, Nm.below_two (by first | exact hbel | exact hbel.alloc hbel.size _) hbel2⟩
       · rw [if_neg hcode] at hrs; have hc0 : code = 0 := Classical.byContradiction hcode; subst hc0; have hc' : ((0 : Int) != 0) = false := rfl; have hw64 := wsum_le64 ls hok.1
         cases ab with
         | true =>
           have HA := Nm.hide (hrs.trans (if_pos rfl)); have hmk := fun V W h => specMakeName_any V ls W h
           generalize makeS ls = M at *; clear hform hrs hcode; generalize Nm.split o = so at *
           rcases hgu with h1 | ⟨h1, h2⟩
           all_goals
            go_enter Tryz.func44, Tryz.ntmps44; go_wp2_with fail
            refine hsp.mono ?_; rintro e w1 ⟨v, rfl, hown, hbel⟩; go_wp2_with fail
            refine (hsc _).mono ?_; rintro e w2 ⟨v2, rfl, hown2, hbel2⟩; go_wp2_with fail
            refine (hmk v2 _ (Nm.SRow.of_owns hown2)).mono ?_; rintro e w3 ⟨rfl, hbel3⟩; go_wp2; go_ret2; rw [HA.out]
            exact ⟨rfl, Nm.below_two (Nm.below_two (hbel.alloc hbel.size _) hbel2) hbel3⟩
         | false =>
           rw [if_neg (by simp)] at hrs
           by_cases h0 : o.size = 0
           · have HA := Nm.hide (hrs.trans (if_pos h0)); have hoe := Nm.tl_empty h0; clear hform hrs hcode hgu; go_enter Tryz.func44, Tryz.ntmps44; go_wp2_with fail
             refine hsp.mono ?_; rintro e w1 ⟨v, rfl, hown, hbel⟩; go_wp2_with fail
             refine (hsc _).mono ?_; rintro e w2 ⟨v2, rfl, hown2, hbel2⟩; go_wp2; go_ret2; rw [HA.out]; exact ⟨rfl, Nm.below_two (by first | exact hbel | exact hbel.alloc hbel.size _) hbel2⟩
           · rw [if_neg h0] at hrs; have hoe := Nm.tl_not_empty (r := o) (by omega); obtain ⟨zs, hq⟩ : ∃ zs, Nm.split o = some zs := Option.ne_none_iff_exists'.1 (fun h => hform ⟨h0, h⟩); have hz := Nm.split_size hq; have hzs := (Nm.split_join hq).2; have hlz := Nm.length_le_wsum zs; rw [hq] at hsp hrs; have HA := Nm.hide hrs; simp only [Option.getD_some] at HA; have hmk := fun V W h => specMakeName_any V (ls ++ zs) W h
             generalize makeS (ls ++ zs) = M at *; clear hform hrs hcode hgu hq; go_enter Tryz.func44, Tryz.ntmps44; go_wp2_with fail
             refine hsp.mono ?_; rintro e w1 ⟨v, rfl, hown, hbel⟩; go_wp2_with fail
             refine (hsc _).mono ?_; rintro e w2 ⟨v2, rfl, hown2, hbel2⟩; have hb12 : Below w1.heap.size w1 w2 := Nm.below_two ((Below.refl _ _).alloc (Nat.le_refl _) _) hbel2; have hown2' := owns_base hown2 (grow1 w1 _); obtain ⟨a3, cap3, rfl, hcap3, hmx3, hnl3, hc3⟩ := Nm.SRow.of_owns hown; simp only [Option.getD_some] at hown hcap3 hc3; clear hown hown2 hsp hsc hnl3 hbel2; go_wp2
             go_loopw [8, 13] (fun v i wi => ∃ j : Nat, j ≤ zs.length ∧ i = .int .i64 j ∧ wi.ownsRow w1.heap.size 9 1 v (ls ++ zs.take j).length ((ls ++ zs.take j).map Value.string) ∧ Below w1.heap.size w1 wi)
              (fun _ i _ => zs.length - (intOf i).toNat)
             case atStart => exact ⟨0, Nat.zero_le _, rfl, by simpa using hown2', hb12⟩
             case round =>
              obtain ⟨j, hj, rfl, hownj, hbelj⟩ := hrel; have hszj := hbelj.size; have hlj : (ls ++ zs.take j).length = ls.length + j := by simp; omega
              by_cases hjz : j < zs.length
              · obtain ⟨x, hx⟩ : ∃ x, zs[j]? = some x := ⟨_, List.getElem?_eq_getElem hjz⟩; obtain ⟨b3, off3, rfl, hcell⟩ := hc3 (by intro h; rw [h] at hjz; simp at hjz); have hcx : wr.cell? ⟨b3, off3 + j, none⟩ = some (.string x) := (hbelj.cell (World.block_lt_of_cell? w1 _ (hcell j x hx))).trans (hcell j x hx); have HT := Nm.hide (Nm.take_step hx); have HLK := Nm.hide hlj; clear hx hcell hc3 hlj hmk; go_wp2_with (at_builtin; refine wpList_append_own _ rfl (.tmp 56) (.tmp 61) 82 rfl w1.heap.size 9 i0 (.string ByteArray.empty) 1 16 Tryz.underlying82 hi hz0 hz1 hz2 rfl (by decide) _ _ _ rfl (hownj.alloc _) ⟨wr.heap.size, 0, none⟩ 1 1 [.string x] rfl rfl (cell_one_new _ _ _) (Nm.one_cell _ rfl) (by have := HLK.out; unfold maxLen; omega) (by have := HLK.out; omega) (by simp; omega) ?_; intro v' w5 hown' hgrow hnl'; clear hnl'; have R := own_step hszj hownj hbelj _ hown' hgrow; clear hown' hgrow)
                go_roundw
                case rel => exact ⟨j + 1, by omega, by go_num, by rw [HT.out, ← List.append_assoc]; exact R.1, R.2⟩
                case measure => simp [intOf]; omega
              · have hje : j = zs.length := by omega
                subst hje; rw [List.take_length] at hownj; have hrr := Nm.SRow.of_owns hownj; clear hownj hc3 hlj; go_wp2_with fail
                refine (hmk _ _ hrr).mono ?_; rintro e w6 ⟨rfl, hbel6⟩; go_wp2; go_ret2; rw [HA.out]; exact ⟨rfl, Nm.below_two (Nm.below_two hbel hbelj) hbel6⟩
end Go.Proofs.YtddabafaejahbaaGreatDoor
/- spec.l02Put at any width by its contract. -/
namespace Go.Proofs.YtddabafaejahbaaGreatDoor
open Go.RowKit
set_option linter.unusedVariables false
theorem bigL_len (v n : Nat) : (bigL v n).length = n := by simp [bigL]
theorem bigL_take {v n j : Nat} (h : j < n) : Nm.bys ((bigL v n).take (j + 1)) = Nm.bys ((bigL v n).take j) ++ [.int .u8 ((v : Int) / 2 ^ (8 * (n - 1 - j)) % 256)] := by
 have hx : (bigL v n)[j]? = some (UInt8.ofNat (v / 2 ^ (8 * (n - 1 - j)))) := by simp [bigL, h]
 have e : ((UInt8.ofNat (v / 2 ^ (8 * (n - 1 - j)))).toNat : Int) = (v : Int) / 2 ^ (8 * (n - 1 - j)) % 256 := by
  rw [UInt8.toNat_ofNat', Int.natCast_emod, Int.natCast_ediv, Int.natCast_pow]; rfl
 rw [List.take_add_one, hx, Nm.bys_append, ← e]; rfl
set_option maxRecDepth 100000 in
set_option maxHeartbeats 1600000 in
theorem l02PutN_any (v n : Nat) (w : World) (hv : v ≤ 4611686018427387904) (hn1 : 1 ≤ n) (hn : n ≤ 8) :
 Calls Tryz.prog 45 #[.int .i64 (v : Int), .int .i64 (n : Int)] w fun e w' => e = .returned (.string ⟨(bigL v n).toArray⟩) ∧ Below w.heap.size w w' := by
 obtain ⟨j0, hj, k0, k1, k2⟩ := info_parts Tryz.infoBy; have i3 : (n : Int) ≤ 8 := by omega
 have i4 : (1 : Int) ≤ (n : Int) := by omega
 have hro := World.ownsRow_made (base := w.heap.size) (size := 1) (e := 5) w #[] 0 (Nat.le_refl _) (by decide) rfl; have hBs := (Below.refl w.heap.size w).alloc (Nat.le_refl _) (.cells #[] 5); go_enter Tryz.func45, Tryz.ntmps45; go_wp2
 go_loopw [5, 6] (fun u i wr => ∃ j : Nat, j ≤ n ∧ i = .int .i64 ((n : Int) - 1 - (j : Int)) ∧ wr.ownsRow w.heap.size 5 1 u j (Nm.bys ((bigL v n).take j)) ∧ Below w.heap.size w wr) (fun _ i _ => (intOf i + 1).toNat)
 case atStart => exact ⟨0, by omega, by congr 1; omega, hro, hBs⟩
 case round =>
  clear hro hBs; obtain ⟨j, hj8, rfl, hown, hbel⟩ := hrel; obtain ⟨xa, xc, rfl⟩ := own_sl hown; have hBr := hbel.size
  by_cases hlt : j < n
  · obtain ⟨i, hi⟩ : ∃ i : Nat, (n : Int) - 1 - (j : Int) = (i : Int) := ⟨n - 1 - j, by omega⟩; have hi7 : i ≤ 7 := by omega
    rw [hi]; have i1 : (0 : Int) ≤ (i : Int) := by omega
    have i2 : (i : Int) ≤ 7 := by omega
    have HT := Nm.hide (show Nm.bys ((bigL v n).take (j + 1)) = Nm.bys ((bigL v n).take j) ++ [.int .u8 ((v : Int) / 2 ^ (8 * i) % 256)] by
     have h7 : n - 1 - j = i := by omega
     rw [bigL_take hlt, h7])
    have HI := Nm.hide hi; clear hi; go_wp2_with (at_builtin; refine wpList_append_own _ rfl (.tmp 14) (.tmp 21) 87 rfl w.heap.size 5 j0 (.int .u8 0) 1 1 Tryz.underlying87 hj k0 k1 k2 rfl (by decide) _ _ _ rfl (hown.alloc _) ⟨wr.heap.size, 0, none⟩ 1 1 [.int .u8 ((v : Int) / 2 ^ (8 * i) % 256)] rfl rfl (cell_one_new _ _ _) (Nm.one_cell _ rfl) (by unfold maxLen; omega) (by omega) (by simp; omega) ?_; intro vb wb hown8 hgrow8 hnl8; clear hnl8)
    rw [← HT.out] at hown8; have hrow : ∀ q, Value.ownBlock (.slice xa j xc) = some q → w.heap.size ≤ q := fun q hq => (hown.lt q hq).1
    have hB8 : Below w.heap.size w wb := (hbel.alloc hBr _).grown hgrow8 (by rw [World.size_alloc]; omega) hrow; obtain ⟨za, zc, rfl⟩ := own_sl hown8; clear hgrow8 hown hbel; have hi := HI.out; go_roundw
    case rel => exact ⟨j + 1, by omega, by go_num, hown8, hB8⟩
    case measure => simp [intOf]
  · obtain rfl : j = n := by omega
    rw [List.take_of_length_le (by rw [bigL_len]; omega)] at hown; have HC := Nm.conv_own (P := Tryz.prog) (src := 87) (dst := 9) Tryz.underlying87 Tryz.underlying5 Tryz.underlying9 hown (by omega); obtain ⟨g, cap, hv', hcv⟩ := HC; cases hv'
    have hneg : ¬ (0 : Int) ≤ (j : Int) - 1 - (j : Int) := by omega
    go_wp2; go_ret; exact ⟨rfl, hbel⟩
set_option maxRecDepth 100000 in
set_option maxHeartbeats 800000 in
theorem l03Word_quoted (c : UInt8) (x o : ByteArray) (w : World) (hc : c = 65 ∨ c = 86 ∨ c = 110 ∨ c = 49 ∨ c = 50 ∨ c = 52 ∨ c = 84 ∨ c = 103) :
 Calls Tryz.prog 21 #[.int .u8 (c.toNat : Int), .agg #[.string x, .bool true], .string o] w fun e w' => e = .returned (strV (readWd c (x, true) o)) ∧ Below w.heap.size w w' := by
 have hr : readWd c (x, true) o = (⟨#[]⟩, 15) := by
  rcases hc with rfl | rfl | rfl | rfl | rfl | rfl | rfl | rfl <;> rfl
 rw [hr]; clear hr
 rcases hc with rfl | rfl | rfl | rfl | rfl | rfl | rfl | rfl <;>
 · go_enter Tryz.func21, Tryz.ntmps21; go_wp2; refine bodyPost_ret (v := strV (⟨#[]⟩, 15)) ?_ rfl ⟨rfl, (Below.refl _ _).alloc (Nat.le_refl _) _⟩; simp [results, Tryz.f21, go_sem, strV]
set_option maxRecDepth 100000 in
set_option maxHeartbeats 800000 in
theorem l03Word_v4 (x o : ByteArray) (w : World) (hs : x.size ≤ 2000000) :
 Calls Tryz.prog 21 #[.int .u8 65, .agg #[.string x, .bool false], .string o] w fun e w' => e = .returned (strV (readV4S x)) ∧ Below w.heap.size w w' := by
 have h1 := fun W => specReadV4_any x W hs
 generalize readV4S x = r at *; unfold strV at *; go_enter Tryz.func21, Tryz.ntmps21; go_wp2_with (go_at_call 42; refine (h1 _).mono ?_; rintro e w1 ⟨rfl, hb⟩)
 refine bodyPost_ret (v := .tuple #[.string r.1, .int .i64 r.2]) ?_ rfl ⟨rfl, Nm.below_two ((Below.refl _ _).alloc (Nat.le_refl _) _) hb⟩; simp [results, Tryz.f21, go_sem]
set_option maxRecDepth 100000 in
set_option maxHeartbeats 800000 in
theorem l03Word_v6 (x o : ByteArray) (w : World) :
 Calls Tryz.prog 21 #[.int .u8 86, .agg #[.string x, .bool false], .string o] w fun e w' => e = .returned (strV (readV6S x)) ∧ Below w.heap.size w w' := by
 have h1 := fun W => specReadV6_any x W
 generalize readV6S x = r at *; unfold strV at *; go_enter Tryz.func21, Tryz.ntmps21; go_wp2_with (go_at_call 43; refine (h1 _).mono ?_; rintro e w1 ⟨rfl, hb⟩)
 refine bodyPost_ret (v := .tuple #[.string r.1, .int .i64 r.2]) ?_ rfl ⟨rfl, Nm.below_two ((Below.refl _ _).alloc (Nat.le_refl _) _) hb⟩; simp [results, Tryz.f21, go_sem]
set_option maxRecDepth 100000 in
set_option maxHeartbeats 800000 in
theorem l03Word_name (x o : ByteArray) (w : World) (ho : o.size ≤ maxLen) :
 Calls Tryz.prog 21 #[.int .u8 110, .agg #[.string x, .bool false], .string o] w fun e w' => e = .returned (strV (readS x o)) ∧ Below w.heap.size w w' := by
 have h1 := fun W => specReadName_any x o W ho
 generalize readS x o = r at *; unfold strV at *; go_enter Tryz.func21, Tryz.ntmps21; go_wp2_with (go_at_call 44; refine (h1 _).mono ?_; rintro e w1 ⟨rfl, hb⟩)
 refine bodyPost_ret (v := .tuple #[.string r.1, .int .i64 r.2]) ?_ rfl ⟨rfl, Nm.below_two ((Below.refl _ _).alloc (Nat.le_refl _) _) hb⟩; simp [results, Tryz.f21, go_sem]
end Go.Proofs.YtddabafaejahbaaGreatDoor
