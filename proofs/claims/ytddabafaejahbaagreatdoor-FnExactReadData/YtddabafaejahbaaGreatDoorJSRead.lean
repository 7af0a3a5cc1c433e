import Derived.Test.YtddabafaejahbaaGreatDoorJTxt3
import Derived.Test.YtddabafaejahbaaGreatDoorJV6T
import Derived.Test.YtddabafaejahbaaGreatDoorJMath
import Derived.Test.YtddabafaejahbaaGreatDoorJIParts
import Derived.Test.YtddabafaejahbaaGreatDoorRows
import Derived.WalkSpells
import Derived.WalkLawsBesides
import Derived.RegionTactic
import Derived.ChangeAlike
import Derived.BigRegion
/- spec.l01Read by its contract. -/
namespace Go.Proofs.YtddabafaejahbaaGreatDoor
open Go.RowKit

set_option maxRecDepth 100000 in
set_option maxHeartbeats 1600000 in
theorem l01Read_any (s : ByteArray) (w : World) (hs : s.size ≤ 1100) :
    Calls Tryz.prog 85 #[.string s] w fun e w' => ∃ v, e = .returned (.tuple #[v, .bool (Nm.scanS s).2.1, .int .i64 (Nm.scanS s).2.2]) ∧
      w'.ownsRow w.heap.size 9 1 v (Nm.scanS s).1.length ((Nm.scanS s).1.map Value.string) ∧ Below w.heap.size w w' := by
  obtain ⟨i0, hi, hz0, hz1, hz2⟩ := info_parts Tryz.infoStr
  obtain ⟨j0, hj, k0, k1, k2⟩ := info_parts Tryz.infoU8r
  have hst := Nm.sc_start s
  generalize hR : Nm.scanS s = R at *
  have HR := Nm.hide hR
  clear hR
  go_enter Tryz.func85, Tryz.ntmps85
  go_wp2
  go_loopw [5, 6, 7, 8] (fun vo vn op i wr => ∃ (k : Nat) (now : List UInt8) (done : List ByteArray) (st : Bool), i = .int .i64 k ∧ op = .bool (!st) ∧ wr.ownsRow w.heap.size 9 1 vo done.length (done.map Value.string) ∧ wr.ownsRow w.heap.size 5 1 vn now.length (Nm.bys now) ∧ Nm.ScAt s st k now done ∧ done.length + now.length ≤ k ∧ Below w.heap.size w wr)
    (fun _ _ _ i _ => s.size - (intOf i).toNat)
  case atStart => exact ⟨0, [], [], false, rfl, rfl, (World.ownsRow_made w #[] 0 (Nat.le_refl _) (by decide) rfl).alloc _, made2 w _ _, hst, by simp, ((Below.refl _ _).alloc (Nat.le_refl _) _).alloc (grow1 w _) _⟩
  case round =>
    obtain ⟨k, now, done, st, rfl, rfl, hro, hrn, hat, hbd, hbel⟩ := hrel
    have hks := hat.1
    have hsz := hbel.size
    clear hst
    by_cases hlt : k < s.size
    · have hcl : (s[k].toNat : Int) < 256 := by have := s[k].toNat_lt; omega
      by_cases hdot : s[k] = 46
      · have e1 : ((s[k].toNat : Int) == 46) = true := by rw [hdot]; rfl
        obtain ⟨a6, cap6, rfl⟩ := owns_shape hrn
        by_cases hf : 1 ≤ now.length ∧ now.length ≤ 63
        · have HN := Nm.hide (Nm.sc_dot hat hlt hdot (Nm.fits_yes hf.1 hf.2))
          have d1 : decide ((now.length : Int) < 1) = false := by simp; omega
          have d2 : decide ((63 : Int) < (now.length : Int)) = false := by simp; omega
          obtain ⟨g6, cp6, ev, hcv⟩ := Nm.conv_own (P := Tryz.prog) Tryz.underlying87 Tryz.underlying5 Tryz.underlying9 hrn (by omega)
          simp only [Value.slice.injEq, true_and] at ev
          obtain ⟨rfl, rfl⟩ := ev
          have hnl : now.length ≤ 63 := hf.2
          clear hat hdot hf hrn
          go_wp2_with (at_builtin; refine wpList_append_own _ rfl (.tmp 32) (.tmp 35) 82 rfl w.heap.size 9 i0 (.string ByteArray.empty) 1 16 Tryz.underlying82 hi hz0 hz1 hz2 rfl (by decide) _ _ _ rfl (hro.alloc _) ⟨wr.heap.size, 0, none⟩ 1 1 [.string ⟨now.toArray⟩] rfl rfl (cell_one_new _ _ _) (Nm.one_cell _ rfl) (by unfold maxLen; omega) (by omega) (by simp; omega) ?_; intro v' w5 hown' hgrow hnl'; clear hnl'; have RR := own_step hsz hro hbel _ hown' hgrow; clear hown' hgrow)
          go_roundw
          case rel => exact ⟨k + 1, [], _, true, by go_num, rfl, RR.1.alloc _, World.ownsRow_made w5 #[] 0 RR.2.size (by decide) rfl, HN.out, by simp; omega, RR.2.alloc RR.2.size _⟩
          case measure => simp [intOf]; omega
        · have e : R = ([], false, 2) := HR.out.symm.trans (Nm.sc_dot_bad hat hlt hdot (Nm.fits_no hf))
          subst e
          by_cases hlow : now.length < 1
          · have d1 : decide ((now.length : Int) < 1) = true := by simp; omega
            clear hat hdot hf hrn hro
            go_wp2
            go_ret3
            exact ⟨_, rfl, World.ownsRow_nil _ _ _ _, hbel⟩
          · have d1 : decide ((now.length : Int) < 1) = false := by simp; omega
            have d2 : decide ((63 : Int) < (now.length : Int)) = true := by simp; omega
            clear hat hdot hf hrn hro
            go_wp2
            go_ret3
            exact ⟨_, rfl, World.ownsRow_nil _ _ _ _, hbel⟩
      · have e1 : ((s[k].toNat : Int) == 46) = false := u8_ne (by decide) hdot
        by_cases hesc : s[k] = 92
        · have e2 : ((s[k].toNat : Int) == 92) = true := by rw [hesc]; rfl
          have hes := fun r hr W => l01Escape_any (s.extract (k + 1) s.size) r W hr (by simp; omega)
          rw [extract_drop] at hes
          cases hr : Nm.escF (s.data.toList.drop (k + 1)) with
          | none =>
            have e : R = ([], false, 4) := HR.out.symm.trans (Nm.sc_esc_bad hat hlt hesc hr)
            subst e
            have he := hes none (Nm.hide hr) wr
            clear hes hat hdot hesc hr hrn hro
            go_wp2_with (go_at_call 88; refine he.mono ?_; rintro e w3 ⟨rfl, m, hw3⟩; have hb3 : Below wr.heap.size wr w3 := (by rw [hw3]; exact Go.below_drewN (Below.refl _ _) m); clear hw3)
            go_ret3
            exact ⟨_, rfl, World.ownsRow_nil _ _ _ _, hbel.trans (hb3.mono hsz)⟩
          | some bn =>
            obtain ⟨b, n⟩ := bn
            have hln := Nm.esc_len hr
            simp only [List.length_drop, Array.length_toList, ByteArray.size_data] at hln
            have HN := Nm.hide (Nm.sc_esc hat hlt hesc hr)
            have he := hes (some (b, n)) (Nm.hide hr) wr
            have hb256 : (b.toNat : Int) < 256 := by have := b.toNat_lt; omega
            have hnz : ((n : Int) == 0) = false := by rw [beq_eq_false_iff_ne]; omega
            simp only [escB, escN] at he
            clear hes hat hdot hesc hr
            go_wp2_with (first | (go_at_call 88; refine he.mono ?_; rintro e w3 ⟨rfl, m, hw3⟩; have hb3 : Below wr.heap.size wr w3 := (by rw [hw3]; exact Go.below_drewN (Below.refl _ _) m); clear hw3; have hro3 := owns_bel hro hb3; have hrn3 := owns_bel hrn hb3; have hbel3 := hbel.trans (hb3.mono hsz); have hsz3 := hbel3.size) | (at_builtin; refine wpList_append_own _ rfl (.tmp 57) (.tmp 59) 87 rfl w.heap.size 5 j0 (.int .u8 0) 1 1 Tryz.underlying87 hj k0 k1 k2 rfl (by decide) _ _ _ rfl (hrn3.alloc _) ⟨w3.heap.size, 0, none⟩ 1 1 [.int .u8 (b.toNat : Int)] rfl rfl (cell_one_new _ _ _) (Nm.one_cell _ rfl) (by unfold maxLen; omega) (by omega) (by simp; omega) ?_; intro vb wb hown2 hgrow2 hnl2; clear hnl2; have RO := owns_apart (hro3.alloc _) (hrn3.alloc _) (by decide) hgrow2; have R2 := Nm.bys_step (x := [b]) (by simp; omega) (hrn3.alloc _) (hbel3.alloc hsz3 _) hown2 hgrow2; clear hown2 hgrow2))
            go_roundw
            case rel => exact ⟨k + 1 + n, _, _, false, by go_num, rfl, RO, by simpa using R2.1, HN.out, by simp; omega, R2.2⟩
            case measure => simp [intOf]; omega
        · have e2 : ((s[k].toNat : Int) == 92) = false := u8_ne (by decide) hesc
          have HN := Nm.hide (Nm.sc_plain hat hlt hdot hesc)
          clear hat hdot hesc
          go_wp2_with (at_builtin; refine wpList_append_own _ rfl (.tmp 57) (.tmp 59) 87 rfl w.heap.size 5 j0 (.int .u8 0) 1 1 Tryz.underlying87 hj k0 k1 k2 rfl (by decide) _ _ _ rfl (hrn.alloc _) ⟨wr.heap.size, 0, none⟩ 1 1 [.int .u8 (s[k].toNat : Int)] rfl rfl (cell_one_new _ _ _) (Nm.one_cell _ rfl) (by unfold maxLen; omega) (by omega) (by simp; omega) ?_; intro vb wb hown2 hgrow2 hnl2; clear hnl2; have RO := owns_apart (hro.alloc _) (hrn.alloc _) (by decide) hgrow2; have R2 := Nm.bys_step (x := [s[k]]) (by simp; omega) (hrn.alloc _) (hbel.alloc hsz _) hown2 hgrow2; clear hown2 hgrow2)
          go_roundw
          case rel => exact ⟨k + 1, _, _, false, by go_num, rfl, RO, by simpa using R2.1, HN.out, by simp; omega, R2.2⟩
          case measure => simp [intOf]; omega
    · have hke : k = s.size := by omega
      subst hke
      cases st with
      | true =>
        have e : R = (done, true, 0) := HR.out.symm.trans (Nm.sc_abs hat rfl)
        subst e
        clear hat hrn
        go_wp2
        go_ret3
        exact ⟨_, rfl, hro, hbel⟩
      | false =>
        obtain ⟨a6, cap6, rfl⟩ := owns_shape hrn
        by_cases hf : 1 ≤ now.length ∧ now.length ≤ 63
        · have e : R = (done ++ [⟨now.toArray⟩], false, 0) := HR.out.symm.trans (Nm.sc_rel hat rfl (Nm.fits_yes hf.1 hf.2))
          subst e
          have d1 : decide ((now.length : Int) < 1) = false := by simp; omega
          have d2 : decide ((63 : Int) < (now.length : Int)) = false := by simp; omega
          obtain ⟨g6, cp6, ev, hcv⟩ := Nm.conv_own (P := Tryz.prog) Tryz.underlying87 Tryz.underlying5 Tryz.underlying9 hrn (by omega)
          simp only [Value.slice.injEq, true_and] at ev
          obtain ⟨rfl, rfl⟩ := ev
          have hnl : now.length ≤ 63 := hf.2
          clear hat hf hrn
          go_wp2_with (at_builtin; refine wpList_append_own _ rfl (.tmp 72) (.tmp 75) 82 rfl w.heap.size 9 i0 (.string ByteArray.empty) 1 16 Tryz.underlying82 hi hz0 hz1 hz2 rfl (by decide) _ _ _ rfl (hro.alloc _) ⟨wr.heap.size, 0, none⟩ 1 1 [.string ⟨now.toArray⟩] rfl rfl (cell_one_new _ _ _) (Nm.one_cell _ rfl) (by unfold maxLen; omega) (by omega) (by simp; omega) ?_; intro v' w5 hown' hgrow hnl'; clear hnl'; have RR := own_step hsz hro hbel _ hown' hgrow; clear hown' hgrow)
          go_ret3
          exact ⟨_, rfl, by simpa using RR.1, RR.2⟩
        · have e : R = ([], false, 2) := HR.out.symm.trans (Nm.sc_rel_bad hat rfl (Nm.fits_no hf))
          subst e
          by_cases hlow : now.length < 1
          · have d1 : decide ((now.length : Int) < 1) = true := by simp; omega
            clear hat hf hrn hro
            go_wp2
            go_ret3
            exact ⟨_, rfl, World.ownsRow_nil _ _ _ _, hbel⟩
          · have d1 : decide ((now.length : Int) < 1) = false := by simp; omega
            have d2 : decide ((63 : Int) < (now.length : Int)) = true := by simp; omega
            clear hat hf hrn hro
            go_wp2
            go_ret3
            exact ⟨_, rfl, World.ownsRow_nil _ _ _ _, hbel⟩
end Go.Proofs.YtddabafaejahbaaGreatDoor
/- spec.l01Join by its contract. -/
namespace Go.Proofs.YtddabafaejahbaaGreatDoor
open Go.RowKit

set_option maxRecDepth 100000 in
set_option maxHeartbeats 800000 in
theorem l01Join_any (v : Value) (ls : List ByteArray) (w : World) (h : Nm.SRow w v ls) (hlen : Nm.wsum ls ≤ 1000000000) :
    Calls Tryz.prog 152 #[v] w fun e w' => e = .returned (.string ⟨(Nm.joinL ls).toArray⟩) ∧ Below w.heap.size w w' := by
  obtain ⟨a, cap, rfl, hcap, hmx, hnl, hc⟩ := h
  have hll := Nm.length_le_wsum ls
  go_enter Tryz.func152, Tryz.ntmps152
  go_wp2
  go_loopw [3, 4] (fun t i wr => ∃ (k : Nat) (s : ByteArray), k ≤ ls.length ∧ i = .int .i64 k ∧ t = .string s ∧ Hid (s.data.toList = Nm.preL (ls.take k)) ∧ Below w.heap.size w wr)
    (fun _ i _ => ls.length - (intOf i).toNat)
  case atStart => exact ⟨0, _, Nat.zero_le _, rfl, rfl, rfl, Below.refl _ _⟩
  case round =>
    obtain ⟨k, s, hk, rfl, rfl, HS, hbel⟩ := hrel
    have hw := Nm.wsum_take_le ls k
    have hsz := hbel.size
    have hss : s.size = Nm.wsum (ls.take k) := by rw [← size_list, HS.out, Nm.preL_length]
    have hss' : s.size ≤ 1000000000 := by omega
    by_cases hlt : k < ls.length
    · obtain ⟨x, hx⟩ : ∃ x, ls[k]? = some x := ⟨_, List.getElem?_eq_getElem hlt⟩
      obtain ⟨b, off, rfl, hcell⟩ := hc (by intro h; rw [h] at hlt; simp at hlt)
      have hbk : b < wr.heap.size := Nat.lt_of_lt_of_le (World.block_lt_of_cell? w _ (hcell k x hx)) hsz
      have hcx : wr.cell? ⟨b, off + k, none⟩ = some (.string x) := (hbel.cell (World.block_lt_of_cell? w _ (hcell k x hx))).trans (hcell k x hx)
      have HP : Hid (Nm.preL (ls.take (k + 1)) = Nm.preL (ls.take k) ++ (UInt8.ofNat x.size :: x.data.toList)) := Nm.preL_step hx
      have hw1 : s.size + (1 + x.size) ≤ 1000000000 := by
        have h1 := Nm.wsum_step hx
        have h2 := Nm.wsum_take_le ls (k + 1)
        omega
      have hcv := fun n => conv_one_drew n wr
      clear hx hcell hc hnl hss hw
      go_wp2
      go_region
      all_goals
        go_wp2
        go_roundw
        case rel => exact ⟨k + 1, _, by omega, by go_num, rfl, by show _ = _; rw [HP.out, ← HS.out]; simp [byte_mod], (hbel.alloc hsz _).drew⟩
        case measure => simp [intOf]; omega
    · have hkl : k = ls.length := by omega
      subst hkl
      rw [List.take_length] at HS
      clear hc hnl hw hlt hss
      have hone : (ByteArray.mk #[0]).size = 1 := rfl
      go_wp2
      go_ret
      exact ⟨ret_str (ba_ext (by simp [Nm.joinL, HS.out])), hbel⟩
end Go.Proofs.YtddabafaejahbaaGreatDoor
/- spec.MakeName by its contract. -/
namespace Go.Proofs.YtddabafaejahbaaGreatDoor
open Go.RowKit

set_option maxRecDepth 100000 in
set_option maxHeartbeats 800000 in
theorem specMakeName_any (v : Value) (ls : List ByteArray) (w : World) (h : Nm.SRow w v ls) :
    Calls Tryz.prog 86 #[v] w fun e w' => e = .returned (.tuple #[.string (makeS ls).1, .int .i64 (makeS ls).2]) ∧ Below w.heap.size w w' := by
  have hjoin := fun hq => l01Join_any v ls w h hq
  obtain ⟨a, cap, rfl, hcap, hmx, hnl, hc⟩ := h
  unfold maxLen at hmx
  by_cases hm : 127 < ls.length
  · have HM : Hid (makeS ls = (ByteArray.empty, 3)) := make_many hm
    have hm' : (127 : Int) < (ls.length : Int) := by omega
    clear hjoin
    go_enter Tryz.func86, Tryz.ntmps86
    go_wp2
    go_ret2
    rw [HM.out]
    exact ⟨rfl, Below.refl _ _⟩
  · have hm' : (ls.length : Int) ≤ 127 := by omega
    go_enter Tryz.func86, Tryz.ntmps86
    go_wp2
    go_loop [4] (fun i => ∃ k : Nat, k ≤ ls.length ∧ i = .int .i64 k ∧ Hid ((ls.take k).any badB = false)) (fun i => ls.length - (intOf i).toNat)
    case atStart => exact ⟨0, Nat.zero_le _, rfl, by show _ = _; simp⟩
    case round =>
      obtain ⟨k, hk, rfl, HG⟩ := hrel
      by_cases hlt : k < ls.length
      · obtain ⟨x, hx⟩ : ∃ x, ls[k]? = some x := ⟨_, List.getElem?_eq_getElem hlt⟩
        obtain ⟨b, off, rfl, hcell⟩ := hc (by intro h; rw [h] at hlt; simp at hlt)
        have hcx := hcell k x hx
        by_cases hb : x.size < 1 ∨ 63 < x.size
        · have HM : Hid (makeS ls = (ByteArray.empty, 2)) := make_bad (by omega) (any_bad hx hb)
          clear hx hcell hc hjoin
          by_cases hb1 : x.size < 1
          · have h1 : decide ((x.size : Int) < 1) = true := by simp; omega
            clear hb
            go_wp2
            go_ret2
            rw [HM.out]
            exact ⟨rfl, Below.refl _ _⟩
          · have h1 : decide ((x.size : Int) < 1) = false := by simp; omega
            have h2 : decide ((63 : Int) < (x.size : Int)) = true := by simp; omega
            clear hb
            go_wp2
            go_ret2
            rw [HM.out]
            exact ⟨rfl, Below.refl _ _⟩
        · have HN : Hid ((ls.take (k + 1)).any badB = false) := any_step hx HG.out hb
          have h1 : decide ((x.size : Int) < 1) = false := by simp; omega
          have h2 : decide ((63 : Int) < (x.size : Int)) = false := by simp; omega
          clear hx hcell hc hjoin hb
          go_wp2
          go_round
          case rel => exact ⟨k + 1, by omega, by go_num, HN⟩
          case measure => simp [intOf]; omega
      · have hkl : k = ls.length := by omega
        subst hkl
        rw [List.take_length] at HG
        have hws := wsum_good ls HG.out
        have Hj := hjoin (by omega)
        have hjl := Nm.joinL_length ls
        have hsize : (ByteArray.mk (Nm.joinL ls).toArray).size = 1 + Nm.wsum ls := by rw [← size_list]; simp [hjl]; omega
        generalize hr : ByteArray.mk (Nm.joinL ls).toArray = r at *
        clear hjoin hc
        by_cases hl : 255 < 1 + Nm.wsum ls
        · have HM : Hid (makeS ls = (ByteArray.empty, 3)) := make_long (by omega) HG.out hl
          have hd : decide ((255 : Int) < (r.size : Int)) = true := by simp; omega
          clear hsize hr
          go_wp2_with fail
          refine Hj.mono ?_
          rintro e w2 ⟨rfl, hbel2⟩
          go_wp2
          go_ret2
          rw [HM.out]
          exact ⟨rfl, hbel2⟩
        · have HM : Hid (makeS ls = (r, 0)) := by show _ = _; rw [← hr]; exact make_good (by omega) HG.out hl
          have hd : decide ((255 : Int) < (r.size : Int)) = false := by simp; omega
          clear hsize hr
          go_wp2_with fail
          refine Hj.mono ?_
          rintro e w2 ⟨rfl, hbel2⟩
          go_wp2
          go_ret2
          rw [HM.out]
          exact ⟨rfl, hbel2⟩
end Go.Proofs.YtddabafaejahbaaGreatDoor
/- spec.l01Split by its contract. -/
namespace Go.Proofs.YtddabafaejahbaaGreatDoor
open Go.RowKit

set_option maxRecDepth 100000 in
set_option maxHeartbeats 800000 in
theorem l01Split_any (s : ByteArray) (w : World) (hs : s.size ≤ maxLen) :
    Calls Tryz.prog 36 #[.string s] w fun e w' => ∃ v, e = .returned (.tuple #[v, .bool (Nm.split s).isSome]) ∧
      w'.ownsRow w.heap.size 9 1 v ((Nm.split s).getD []).length (((Nm.split s).getD []).map Value.string) ∧ Below w.heap.size w w' := by
  unfold maxLen at hs
  obtain ⟨i0, hi, hz0, hz1, hz2⟩ := info_parts Tryz.infoStr
  by_cases hlong : 255 < s.size
  · have H : Hid (Nm.split s = none) := Nm.split_long s hlong
    have hl : (255 : Int) < (s.size : Int) := by omega
    go_enter Tryz.func36, Tryz.ntmps36
    go_wp2
    go_ret2
    rw [H.out]
    exact ⟨_, rfl, World.ownsRow_nil _ _ _ _, (Below.refl _ _).alloc (Nat.le_refl _) _⟩
  by_cases hshort : s.size = 0
  · have H : Hid (Nm.split s = none) := Nm.at_empty (Nm.at_start s (by omega)) hshort
    have hl : (s.size : Int) < 1 := by omega
    go_enter Tryz.func36, Tryz.ntmps36
    go_wp2
    go_ret2
    rw [H.out]
    exact ⟨_, rfl, World.ownsRow_nil _ _ _ _, (Below.refl _ _).alloc (Nat.le_refl _) _⟩
  · have hl : (s.size : Int) ≤ 255 := by omega
    have hl1 : (1 : Int) ≤ (s.size : Int) := by omega
    have hst := Nm.at_start s (by omega)
    go_enter Tryz.func36, Tryz.ntmps36
    go_wp2
    go_loopw [4, 5] (fun v x wr => ∃ (ls : List ByteArray) (r : ByteArray), x = .string r ∧ Nm.At s ls r ∧ ls.length + r.size ≤ 255 ∧ wr.ownsRow w.heap.size 9 1 v ls.length (ls.map Value.string) ∧ Below w.heap.size w wr)
      (fun _ x _ => match x with | .string r => r.size | _ => 0)
    case atStart => exact ⟨[], s, rfl, hst, by simp; omega, World.ownsRow_made w #[] 0 (Nat.le_refl _) (by decide) rfl, (Below.refl _ _).alloc (Nat.le_refl _) _⟩
    case round =>
      obtain ⟨ls, r, rfl, hat, hb, hown, hbel⟩ := hrel
      clear hst
      by_cases h0 : r.size = 0
      · have HN : Hid (Nm.split s = none) := Nm.at_empty hat h0
        have e2 := Nm.tl_empty h0
        go_wp2
        go_ret2
        rw [HN.out]
        exact ⟨_, rfl, World.ownsRow_nil _ _ _ _, hbel⟩
      · have hp : 0 < r.size := by omega
        have hn : (r[0].toNat : Int) < 256 := by have := r[0].toNat_lt; omega
        have e2 := Nm.tl_not_empty hp
        by_cases h2 : r[0].toNat = 0
        · have e3 : ((r[0].toNat : Int) == 0) = true := by simp [h2]
          by_cases h1 : r.size = 1
          · have HN : Hid (Nm.split s = some ls) := Nm.at_end hat hp h2 h1
            have e4 : ((r.size : Int) != 1) = false := by simp [h1]
            clear h1 h2
            go_wp2
            go_ret2
            rw [HN.out]
            exact ⟨_, rfl, hown, hbel⟩
          · have HN : Hid (Nm.split s = none) := Nm.at_zero hat hp h2 h1
            have e4 : ((r.size : Int) != 1) = true := by rw [bne_iff_ne]; omega
            clear h1 h2
            go_wp2
            go_ret2
            rw [HN.out]
            exact ⟨_, rfl, World.ownsRow_nil _ _ _ _, hbel⟩
        · have e3 : ((r[0].toNat : Int) == 0) = false := by rw [beq_eq_false_iff_ne]; omega
          have e3' : (0 : Int) < (r[0].toNat : Int) := by omega
          by_cases h3 : 63 < r[0].toNat
          · have HN : Hid (Nm.split s = none) := Nm.at_bad hat hp h2 (.inl h3)
            have e4 : (63 : Int) < (r[0].toNat : Int) := by omega
            clear h2 h0 h3
            go_wp2
            go_ret2
            rw [HN.out]
            exact ⟨_, rfl, World.ownsRow_nil _ _ _ _, hbel⟩
          · have e4 : (r[0].toNat : Int) ≤ 63 := by omega
            by_cases h4 : r.size < r[0].toNat + 1
            · have HN : Hid (Nm.split s = none) := Nm.at_bad hat hp h2 (.inr h4)
              have e5 : (r.size : Int) < (r[0].toNat : Int) + 1 := by omega
              clear h2 h0 h3 h4
              go_wp2
              go_ret2
              rw [HN.out]
              exact ⟨_, rfl, World.ownsRow_nil _ _ _ _, hbel⟩
            · have e5 : (r[0].toNat : Int) + 1 ≤ (r.size : Int) := by omega
              have HN : Hid (Nm.At s (ls ++ [r.extract 1 (r[0].toNat + 1)]) (r.extract (r[0].toNat + 1) r.size)) := Nm.at_step hat hp h2 (by omega) (by omega)
              have hsz := hbel.size
              clear h2 h0 h3 h4
              go_wp2_with (at_builtin; refine wpList_append_own _ rfl (.tmp 37) (.tmp 42) 82 rfl w.heap.size 9 i0 (.string ByteArray.empty) 1 16 Tryz.underlying82 hi hz0 hz1 hz2 rfl (by decide) _ _ _ rfl (hown.alloc _) ⟨wr.heap.size, 0, none⟩ 1 1 [.string (r.extract 1 (r[0].toNat + 1))] rfl rfl ?c1 ?c2 ?c3 ?c4 ?c5 ?_)
              case c1 =>
                intro j u hj
                match j, hj with
                | 0, hj => simp at hj; subst hj; simp [Addr.add]
              case c2 => exact Nm.one_cell _ rfl
              case c3 => unfold maxLen; omega
              case c4 => omega
              case c5 => simp; omega
              · intro v' w1 hown' hgrow _
                have R := own_step hsz hown hbel _ hown' hgrow
                clear hown' hgrow hown hbel
                go_wp2
                go_roundw
                case rel => exact ⟨_, _, rfl, HN.out, by simp; omega, R.1, R.2⟩
                case measure => simp; omega
end Go.Proofs.YtddabafaejahbaaGreatDoor
