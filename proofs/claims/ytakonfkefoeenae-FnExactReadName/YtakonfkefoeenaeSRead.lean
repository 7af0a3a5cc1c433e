/- spec.l01Read by its contract. -/
import Derived.Test.YtakonfkefoeenaeSEsc
import Derived.Test.YtakonfkefoeenaeRowM
namespace Go.Proofs.Ytakonfkefoeenae
open Go.RowKit

set_option maxRecDepth 100000 in
set_option maxHeartbeats 1600000 in
theorem l01Read_any (s : ByteArray) (w : World) (hs : s.size ≤ 1100) :
    Calls Try.prog 20 #[.string s] w fun e w' => ∃ v, e = .returned (.tuple #[v, .bool (Nm.scanS s).2.1, .int .i64 (Nm.scanS s).2.2]) ∧
      w'.ownsRow w.heap.size 9 1 v (Nm.scanS s).1.length ((Nm.scanS s).1.map Value.string) ∧ Below w.heap.size w w' := by
  obtain ⟨i0, hi, hz0, hz1, hz2⟩ := info_parts Try.infoStr
  obtain ⟨j0, hj, k0, k1, k2⟩ := info_parts Try.infoU8r
  have hst := Nm.sc_start s
  generalize hR : Nm.scanS s = R at *
  have HR := Nm.hide hR
  clear hR
  go_enter Try.func20, Try.ntmps20
  go_wp2
  go_loopw [5, 6, 7, 8] (fun vo vn op i wr => ∃ (k : Nat) (now : List UInt8) (done : List ByteArray) (st : Bool), i = .int .i64 k ∧ op = .bool (!st) ∧ wr.ownsRow w.heap.size 9 1 vo done.length (done.map Value.string) ∧ wr.ownsRow w.heap.size 5 1 vn now.length (Nm.bys now) ∧ Nm.ScAt s st k now done ∧ done.length + now.length ≤ k ∧ Below w.heap.size w wr)
    (fun _ _ _ i _ => s.size - (intOf i).toNat)
  case atStart => exact ⟨0, [], [], false, rfl, rfl, (World.ownsRow_made w #[] 0 (Nat.le_refl _) (by decide) rfl).alloc _, made2 w _ _, hst, by simp, ((Below.refl _ _).alloc (Nat.le_refl _) _).alloc (grow1 w _) _⟩
  case round =>
    obtain ⟨k, now, done, st, rfl, rfl, hro, hrn, hat, hbd, hbel⟩ := hrel
    have hks := hat.1
    have hsz := hbel.size
    clear hst
    by_cases hlt : k < s.size
    · have hcl : (s[k].toNat : Int) < 256 := by have := s[k].toNat_lt; omega
      by_cases hdot : s[k] = 46
      · have e1 : ((s[k].toNat : Int) == 46) = true := by rw [hdot]; rfl
        obtain ⟨a6, cap6, rfl⟩ := owns_shape hrn
        by_cases hf : 1 ≤ now.length ∧ now.length ≤ 63
        · have HN := Nm.hide (Nm.sc_dot hat hlt hdot (Nm.fits_yes hf.1 hf.2))
          have d1 : decide ((now.length : Int) < 1) = false := by simp; omega
          have d2 : decide ((63 : Int) < (now.length : Int)) = false := by simp; omega
          obtain ⟨g6, cp6, ev, hcv⟩ := Nm.conv_own (P := Try.prog) Try.underlying50 Try.underlying5 Try.underlying9 hrn (by omega)
          simp only [Value.slice.injEq, true_and] at ev
          obtain ⟨rfl, rfl⟩ := ev
          have hnl : now.length ≤ 63 := hf.2
          clear hat hdot hf hrn
          go_wp2_with (at_builtin; refine wpList_append_own _ rfl (.tmp 32) (.tmp 35) 29 rfl w.heap.size 9 i0 (.string ByteArray.empty) 1 16 Try.underlying29 hi hz0 hz1 hz2 rfl (by decide) _ _ _ rfl (hro.alloc _) ⟨wr.heap.size, 0, none⟩ 1 1 [.string ⟨now.toArray⟩] rfl rfl (cell_one_new _ _ _) (Nm.one_cell _ rfl) (by unfold maxLen; omega) (by omega) (by simp; omega) ?_; intro v' w5 hown' hgrow hnl'; clear hnl'; have RR := own_step hsz hro hbel _ hown' hgrow; clear hown' hgrow)
          go_roundw
          case rel => exact ⟨k + 1, [], _, true, by go_num, rfl, RR.1.alloc _, World.ownsRow_made w5 #[] 0 RR.2.size (by decide) rfl, HN.out, by simp; omega, RR.2.alloc RR.2.size _⟩
          case measure => simp [intOf]; omega
        · have e : R = ([], false, 2) := HR.out.symm.trans (Nm.sc_dot_bad hat hlt hdot (Nm.fits_no hf))
          subst e
          by_cases hlow : now.length < 1
          · have d1 : decide ((now.length : Int) < 1) = true := by simp; omega
            clear hat hdot hf hrn hro
            go_wp2
            go_ret3
            exact ⟨_, rfl, World.ownsRow_nil _ _ _ _, hbel⟩
          · have d1 : decide ((now.length : Int) < 1) = false := by simp; omega
            have d2 : decide ((63 : Int) < (now.length : Int)) = true := by simp; omega
            clear hat hdot hf hrn hro
            go_wp2
            go_ret3
            exact ⟨_, rfl, World.ownsRow_nil _ _ _ _, hbel⟩
      · have e1 : ((s[k].toNat : Int) == 46) = false := u8_ne (by decide) hdot
        by_cases hesc : s[k] = 92
        · have e2 : ((s[k].toNat : Int) == 92) = true := by rw [hesc]; rfl
          have hes := fun r hr W => l01Escape_any (s.extract (k + 1) s.size) r W hr (by simp; omega)
          rw [extract_drop] at hes
          cases hr : Nm.escF (s.data.toList.drop (k + 1)) with
          | none =>
            have e : R = ([], false, 4) := HR.out.symm.trans (Nm.sc_esc_bad hat hlt hesc hr)
            subst e
            have he := hes none (Nm.hide hr) wr
            clear hes hat hdot hesc hr hrn hro
            go_wp2_with (go_at_call 32; refine he.mono ?_; rintro e w3 ⟨rfl, m, hw3⟩; have hb3 : Below wr.heap.size wr w3 := (by rw [hw3]; exact Go.below_drewN (Below.refl _ _) m); clear hw3)
            go_ret3
            exact ⟨_, rfl, World.ownsRow_nil _ _ _ _, hbel.trans (hb3.mono hsz)⟩
          | some bn =>
            obtain ⟨b, n⟩ := bn
            have hln := Nm.esc_len hr
            simp only [List.length_drop, Array.length_toList, ByteArray.size_data] at hln
            have HN := Nm.hide (Nm.sc_esc hat hlt hesc hr)
            have he := hes (some (b, n)) (Nm.hide hr) wr
            have hb256 : (b.toNat : Int) < 256 := by have := b.toNat_lt; omega
            have hnz : ((n : Int) == 0) = false := by rw [beq_eq_false_iff_ne]; omega
            simp only [escB, escN] at he
            clear hes hat hdot hesc hr
            go_wp2_with (first | (go_at_call 32; refine he.mono ?_; rintro e w3 ⟨rfl, m, hw3⟩; have hb3 : Below wr.heap.size wr w3 := (by rw [hw3]; exact Go.below_drewN (Below.refl _ _) m); clear hw3; have hro3 := owns_bel hro hb3; have hrn3 := owns_bel hrn hb3; have hbel3 := hbel.trans (hb3.mono hsz); have hsz3 := hbel3.size) | (at_builtin; refine wpList_append_own _ rfl (.tmp 57) (.tmp 59) 50 rfl w.heap.size 5 j0 (.int .u8 0) 1 1 Try.underlying50 hj k0 k1 k2 rfl (by decide) _ _ _ rfl (hrn3.alloc _) ⟨w3.heap.size, 0, none⟩ 1 1 [.int .u8 (b.toNat : Int)] rfl rfl (cell_one_new _ _ _) (Nm.one_cell _ rfl) (by unfold maxLen; omega) (by omega) (by simp; omega) ?_; intro vb wb hown2 hgrow2 hnl2; clear hnl2; have RO := owns_apart (hro3.alloc _) (hrn3.alloc _) (by decide) hgrow2; have R2 := Nm.bys_step (x := [b]) (by simp; omega) (hrn3.alloc _) (hbel3.alloc hsz3 _) hown2 hgrow2; clear hown2 hgrow2))
            go_roundw
            case rel => exact ⟨k + 1 + n, _, _, false, by go_num, rfl, RO, by simpa using R2.1, HN.out, by simp; omega, R2.2⟩
            case measure => simp [intOf]; omega
        · have e2 : ((s[k].toNat : Int) == 92) = false := u8_ne (by decide) hesc
          have HN := Nm.hide (Nm.sc_plain hat hlt hdot hesc)
          clear hat hdot hesc
          go_wp2_with (at_builtin; refine wpList_append_own _ rfl (.tmp 57) (.tmp 59) 50 rfl w.heap.size 5 j0 (.int .u8 0) 1 1 Try.underlying50 hj k0 k1 k2 rfl (by decide) _ _ _ rfl (hrn.alloc _) ⟨wr.heap.size, 0, none⟩ 1 1 [.int .u8 (s[k].toNat : Int)] rfl rfl (cell_one_new _ _ _) (Nm.one_cell _ rfl) (by unfold maxLen; omega) (by omega) (by simp; omega) ?_; intro vb wb hown2 hgrow2 hnl2; clear hnl2; have RO := owns_apart (hro.alloc _) (hrn.alloc _) (by decide) hgrow2; have R2 := Nm.bys_step (x := [s[k]]) (by simp; omega) (hrn.alloc _) (hbel.alloc hsz _) hown2 hgrow2; clear hown2 hgrow2)
          go_roundw
          case rel => exact ⟨k + 1, _, _, false, by go_num, rfl, RO, by simpa using R2.1, HN.out, by simp; omega, R2.2⟩
          case measure => simp [intOf]; omega
    · have hke : k = s.size := by omega
      subst hke
      cases st with
      | true =>
        have e : R = (done, true, 0) := HR.out.symm.trans (Nm.sc_abs hat rfl)
        subst e
        clear hat hrn
        go_wp2
        go_ret3
        exact ⟨_, rfl, hro, hbel⟩
      | false =>
        obtain ⟨a6, cap6, rfl⟩ := owns_shape hrn
        by_cases hf : 1 ≤ now.length ∧ now.length ≤ 63
        · have e : R = (done ++ [⟨now.toArray⟩], false, 0) := HR.out.symm.trans (Nm.sc_rel hat rfl (Nm.fits_yes hf.1 hf.2))
          subst e
          have d1 : decide ((now.length : Int) < 1) = false := by simp; omega
          have d2 : decide ((63 : Int) < (now.length : Int)) = false := by simp; omega
          obtain ⟨g6, cp6, ev, hcv⟩ := Nm.conv_own (P := Try.prog) Try.underlying50 Try.underlying5 Try.underlying9 hrn (by omega)
          simp only [Value.slice.injEq, true_and] at ev
          obtain ⟨rfl, rfl⟩ := ev
          have hnl : now.length ≤ 63 := hf.2
          clear hat hf hrn
          go_wp2_with (at_builtin; refine wpList_append_own _ rfl (.tmp 72) (.tmp 75) 29 rfl w.heap.size 9 i0 (.string ByteArray.empty) 1 16 Try.underlying29 hi hz0 hz1 hz2 rfl (by decide) _ _ _ rfl (hro.alloc _) ⟨wr.heap.size, 0, none⟩ 1 1 [.string ⟨now.toArray⟩] rfl rfl (cell_one_new _ _ _) (Nm.one_cell _ rfl) (by unfold maxLen; omega) (by omega) (by simp; omega) ?_; intro v' w5 hown' hgrow hnl'; clear hnl'; have RR := own_step hsz hro hbel _ hown' hgrow; clear hown' hgrow)
          go_ret3
          exact ⟨_, rfl, by simpa using RR.1, RR.2⟩
        · have e : R = ([], false, 2) := HR.out.symm.trans (Nm.sc_rel_bad hat rfl (Nm.fits_no hf))
          subst e
          by_cases hlow : now.length < 1
          · have d1 : decide ((now.length : Int) < 1) = true := by simp; omega
            clear hat hf hrn hro
            go_wp2
            go_ret3
            exact ⟨_, rfl, World.ownsRow_nil _ _ _ _, hbel⟩
          · have d1 : decide ((now.length : Int) < 1) = false := by simp; omega
            have d2 : decide ((63 : Int) < (now.length : Int)) = true := by simp; omega
            clear hat hf hrn hro
            go_wp2
            go_ret3
            exact ⟨_, rfl, World.ownsRow_nil _ _ _ _, hbel⟩
end Go.Proofs.Ytakonfkefoeenae
