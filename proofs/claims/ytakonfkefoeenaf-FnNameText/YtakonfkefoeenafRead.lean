/- impl.scanLabels by its contract. -/
import Derived.Test.YtakonfkefoeenafEsc
import Derived.Test.YtakonfkefoeenafRowM
import Derived.Deep.LoopGhost
import Derived.WalkMore
namespace Go.Proofs.Ytakonfkefoeenaf
open Go.RowKit

theorem extract_drop1 (s : ByteArray) (k : Nat) : (s.extract k s.size).data.toList.drop 1 = s.data.toList.drop (k + 1) := by
  rw [extract_drop, List.drop_drop]

set_option maxRecDepth 100000 in
set_option maxHeartbeats 1600000 in
theorem scanLabels_any (s : ByteArray) (w : World) (hs : s.size ≤ 1100) (hpos : 0 < s.size) :
    Calls Try.prog 38 #[.string s] w fun e w' => ∃ v, e = .returned (.tuple #[v, .bool (Nm.scanS s).2.1, .int .i64 (Nm.scanS s).2.2]) ∧
      w'.ownsRow w.heap.size 9 1 v (Nm.scanS s).1.length ((Nm.scanS s).1.map Value.string) ∧ Below w.heap.size w w' := by
  obtain ⟨i0, hi, hz0, hz1, hz2⟩ := info_parts Try.infoStr
  obtain ⟨j0, hj, k0, k1, k2⟩ := info_parts Try.infoU8r
  have hst := Nm.sc_start' s hpos
  generalize hR : Nm.scanS s = R at *
  have HR := Nm.hide hR
  clear hR
  go_enter Try.func38, Try.ntmps38
  go_wp2
  go_step3
  go_wp2
  go_step3
  go_wp2
  go_loopg [2, 5] s.size (fun g vo i wr => ∃ (k : Nat) (done : List ByteArray), k + g = s.size ∧ i = .int .i64 k ∧ wr.ownsRow w.heap.size 9 1 vo done.length (done.map Value.string) ∧ Nm.ScAt s true k [] done ∧ done.length ≤ k ∧ Below w.heap.size w wr)
  case atStart => exact ⟨0, [], by omega, rfl, World.ownsRow_nil _ _ _ _, hst, by simp, Below.refl _ _⟩
  case round =>
    obtain ⟨k, done, hkg, rfl, hro0, hat0, hbd0, hbel0⟩ := hrel
    clear hst
    by_cases hlt0 : k < s.size
    · go_wp2
      go_loopg [2, 5, 6] (s.size - k) (fun g vo i vn wi => ∃ (j : Nat) (now : List UInt8) (st : Bool), j + g = s.size ∧ i = .int .i64 j ∧ k ≤ j ∧ wi.ownsRow w.heap.size 9 1 vo done.length (done.map Value.string) ∧ wi.ownsRow w.heap.size 5 1 vn now.length (Nm.bys now) ∧ Nm.ScAt s st j now done ∧ (st = false ∨ j = k) ∧ done.length + now.length ≤ j ∧ Below w.heap.size w wi)
      case atStart => exact ⟨k, [], true, by omega, rfl, Nat.le_refl _, hro0, World.ownsRow_nil _ _ _ _, hat0, .inr rfl, by simpa using hbd0, hbel0⟩
      case round =>
        obtain ⟨j, now, st, hjg, rfl, hkj, hro, hrn, hat, hsj, hbd, hbel⟩ := hrel
        have hsz := hbel.size
        clear hro0 hat0 hbd0 hbel0
        by_cases hlt : j < s.size
        · have hcl : (s[j].toNat : Int) < 256 := by have := s[j].toNat_lt; omega
          by_cases hdot : s[j] = 46
          · have e1 : ((s[j].toNat : Int) == 46) = true := by rw [hdot]; rfl
            obtain ⟨a6, cap6, rfl⟩ := owns_shape hrn
            by_cases hf : 1 ≤ now.length ∧ now.length ≤ 63
            · have HN := Nm.hide (Nm.sc_dot hat hlt hdot (Nm.fits_yes hf.1 hf.2))
              have f1 : (0 : Int) < (now.length : Int) := by omega
              have f2 : (now.length : Int) ≤ 63 := by omega
              have f3 : decide ((now.length : Int) ≤ 63) = true := by simp; omega
              obtain ⟨g6, cp6, ev, hcv⟩ := Nm.conv_own (P := Try.prog) Try.underlying28 Try.underlying5 Try.underlying9 hrn (by omega)
              simp only [Value.slice.injEq, true_and] at ev
              obtain ⟨rfl, rfl⟩ := ev
              clear hat hdot hf hrn hsj
              go_wp2_with (first | (go_at_call 56; go_in) | (at_builtin; refine wpList_append_own _ rfl (.tmp 35) (.tmp 38) 52 rfl w.heap.size 9 i0 (.string ByteArray.empty) 1 16 Try.underlying52 hi hz0 hz1 hz2 rfl (by decide) _ _ _ rfl (hro.alloc _) ⟨wr.heap.size, 0, none⟩ 1 1 [.string ⟨now.toArray⟩] rfl rfl (cell_one_new _ _ _) (Nm.one_cell _ rfl) (by unfold maxLen; omega) (by omega) (by simp; omega) ?_; intro v' w5 hown' hgrow hnl'; clear hnl'; have RR := own_step hsz hro hbel _ hown' hgrow; clear hown' hgrow))
              go_roundg (s.size - (j + 1))
              case measure => omega
              case rel => exact ⟨j + 1, _, by omega, by go_num, RR.1, HN.out, by simp; omega, RR.2⟩
            · have e : R = ([], false, 2) := HR.out.symm.trans (Nm.sc_dot_bad hat hlt hdot (Nm.fits_no hf))
              subst e
              by_cases hlow : now.length < 1
              · have f1 : (now.length : Int) ≤ 0 := by omega
                clear hat hdot hf hrn hro hsj
                go_wp2_with (go_at_call 56; go_in)
                try rw [Exit.noGoto_ret]
                go_ret3
                exact ⟨_, rfl, World.ownsRow_nil _ _ _ _, hbel⟩
              · have f1 : (0 : Int) < (now.length : Int) := by omega
                have f2 : (63 : Int) < (now.length : Int) := by omega
                have f3 : decide ((now.length : Int) ≤ 63) = false := by simp; omega
                clear hat hdot hf hrn hro hsj
                go_wp2_with (go_at_call 56; go_in)
                try rw [Exit.noGoto_ret]
                go_ret3
                exact ⟨_, rfl, World.ownsRow_nil _ _ _ _, hbel⟩
          · have e1 : ((s[j].toNat : Int) == 46) = false := u8_ne (by decide) hdot
            by_cases hesc : s[j] = 92
            · have e2 : ((s[j].toNat : Int) == 92) = true := by rw [hesc]; rfl
              have hes := fun r hr W => readEscape_any (s.extract j s.size) r W hr (by simp; omega) (by simp; omega)
              rw [extract_drop1] at hes
              cases hr : Nm.escF (s.data.toList.drop (j + 1)) with
              | none =>
                have e : R = ([], false, 4) := HR.out.symm.trans (Nm.sc_esc_bad hat hlt hesc hr)
                subst e
                have he := hes none (Nm.hide hr) wr
                simp only [escB, escM, escO] at he
                clear hes hat hdot hesc hr hrn hro hsj
                go_wp2_with (go_at_call 57; refine he.mono ?_; rintro e w3 ⟨rfl, m, hw3⟩; have hb3 : Below wr.heap.size wr w3 := (by rw [hw3]; exact Go.below_drewN (Below.refl _ _) m); clear hw3)
                try rw [Exit.noGoto_ret]
                go_ret3
                exact ⟨_, rfl, World.ownsRow_nil _ _ _ _, hbel.trans (hb3.mono hsz)⟩
              | some bn =>
                obtain ⟨b, n⟩ := bn
                have hln := Nm.esc_len hr
                simp only [List.length_drop, Array.length_toList, ByteArray.size_data] at hln
                have HN := Nm.hide (Nm.sc_esc hat hlt hesc hr)
                have he := hes (some (b, n)) (Nm.hide hr) wr
                have hb256 : (b.toNat : Int) < 256 := by have := b.toNat_lt; omega
                simp only [escB, escM, escO] at he
                clear hes hat hdot hesc hr hsj
                go_wp2_with (first | (go_at_call 57; refine he.mono ?_; rintro e w3 ⟨rfl, m, hw3⟩; have hb3 : Below wr.heap.size wr w3 := (by rw [hw3]; exact Go.below_drewN (Below.refl _ _) m); clear hw3; have hro3 := owns_bel hro hb3; have hrn3 := owns_bel hrn hb3; have hbel3 := hbel.trans (hb3.mono hsz); have hsz3 := hbel3.size) | (at_builtin; refine wpList_append_own _ rfl (.tmp 54) (.tmp 56) 28 rfl w.heap.size 5 j0 (.int .u8 0) 1 1 Try.underlying28 hj k0 k1 k2 rfl (by decide) _ _ _ rfl (hrn3.alloc _) ⟨w3.heap.size, 0, none⟩ 1 1 [.int .u8 (b.toNat : Int)] rfl rfl (cell_one_new _ _ _) (Nm.one_cell _ rfl) (by unfold maxLen; omega) (by omega) (by simp; omega) ?_; intro vb wb hown2 hgrow2 hnl2; clear hnl2; have RO := owns_apart (hro3.alloc _) (hrn3.alloc _) (by decide) hgrow2; have R2 := Nm.bys_step (x := [b]) (by simp; omega) (hrn3.alloc _) (hbel3.alloc hsz3 _) hown2 hgrow2; clear hown2 hgrow2))
                go_roundg (s.size - (j + 1 + n))
                case measure => omega
                case rel => exact ⟨j + 1 + n, _, false, by omega, by go_num, by omega, RO, by simpa using R2.1, HN.out, .inl rfl, by simp; omega, R2.2⟩
            · have e2 : ((s[j].toNat : Int) == 92) = false := u8_ne (by decide) hesc
              have HN := Nm.hide (Nm.sc_plain hat hlt hdot hesc)
              clear hat hdot hesc hsj
              go_wp2_with (at_builtin; refine wpList_append_own _ rfl (.tmp 21) (.tmp 25) 28 rfl w.heap.size 5 j0 (.int .u8 0) 1 1 Try.underlying28 hj k0 k1 k2 rfl (by decide) _ _ _ rfl (hrn.alloc _) ⟨wr.heap.size, 0, none⟩ 1 1 [.int .u8 (s[j].toNat : Int)] rfl rfl (cell_one_new _ _ _) (Nm.one_cell _ rfl) (by unfold maxLen; omega) (by omega) (by simp; omega) ?_; intro vb wb hown2 hgrow2 hnl2; clear hnl2; have RO := owns_apart (hro.alloc _) (hrn.alloc _) (by decide) hgrow2; have R2 := Nm.bys_step (x := [s[j]]) (by simp; omega) (hrn.alloc _) (hbel.alloc hsz _) hown2 hgrow2; clear hown2 hgrow2)
              go_roundg (s.size - (j + 1))
              case measure => omega
              case rel => exact ⟨j + 1, _, false, by omega, by go_num, by omega, RO, by simpa using R2.1, HN.out, .inl rfl, by simp; omega, R2.2⟩
        · have hje : j = s.size := by omega
          have hsf : st = false := by
            rcases hsj with h | h
            · exact h
            · omega
          subst hsf
          subst hje
          obtain ⟨a6, cap6, rfl⟩ := owns_shape hrn
          by_cases hf : 1 ≤ now.length ∧ now.length ≤ 63
          · have e : R = (done ++ [⟨now.toArray⟩], false, 0) := HR.out.symm.trans (Nm.sc_rel hat rfl (Nm.fits_yes hf.1 hf.2))
            subst e
            have f1 : (0 : Int) < (now.length : Int) := by omega
            have f2 : (now.length : Int) ≤ 63 := by omega
            have f3 : decide ((now.length : Int) ≤ 63) = true := by simp; omega
            obtain ⟨g6, cp6, ev, hcv⟩ := Nm.conv_own (P := Try.prog) Try.underlying28 Try.underlying5 Try.underlying9 hrn (by omega)
            simp only [Value.slice.injEq, true_and] at ev
            obtain ⟨rfl, rfl⟩ := ev
            clear hat hf hrn
            go_wp2_with (first | (go_at_call 56; go_in) | (at_builtin; refine wpList_append_own _ rfl (.tmp 65) (.tmp 68) 52 rfl w.heap.size 9 i0 (.string ByteArray.empty) 1 16 Try.underlying52 hi hz0 hz1 hz2 rfl (by decide) _ _ _ rfl (hro.alloc _) ⟨wr.heap.size, 0, none⟩ 1 1 [.string ⟨now.toArray⟩] rfl rfl (cell_one_new _ _ _) (Nm.one_cell _ rfl) (by unfold maxLen; omega) (by omega) (by simp; omega) ?_; intro v' w5 hown' hgrow hnl'; clear hnl'; have RR := own_step hsz hro hbel _ hown' hgrow; clear hown' hgrow))
            try rw [Exit.noGoto_ret]
            go_ret3
            exact ⟨_, rfl, by simpa using RR.1, RR.2⟩
          · have e : R = ([], false, 2) := HR.out.symm.trans (Nm.sc_rel_bad hat rfl (Nm.fits_no hf))
            subst e
            by_cases hlow : now.length < 1
            · have f1 : (now.length : Int) ≤ 0 := by omega
              clear hat hf hrn hro
              go_wp2_with (go_at_call 56; go_in)
              try rw [Exit.noGoto_ret]
              go_ret3
              exact ⟨_, rfl, World.ownsRow_nil _ _ _ _, hbel⟩
            · have f1 : (0 : Int) < (now.length : Int) := by omega
              have f2 : (63 : Int) < (now.length : Int) := by omega
              have f3 : decide ((now.length : Int) ≤ 63) = false := by simp; omega
              clear hat hf hrn hro
              go_wp2_with (go_at_call 56; go_in)
              try rw [Exit.noGoto_ret]
              go_ret3
              exact ⟨_, rfl, World.ownsRow_nil _ _ _ _, hbel⟩
    · have hke : k = s.size := by omega
      subst hke
      have e : R = (done, true, 0) := HR.out.symm.trans (Nm.sc_abs hat0 rfl)
      subst e
      clear hat0
      go_wp2
      try rw [Exit.noGoto_ret]
      go_ret3
      exact ⟨_, rfl, hro0, hbel0⟩
end Go.Proofs.Ytakonfkefoeenaf
