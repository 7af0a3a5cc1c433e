import Derived.Test.YtkiadnglbjamfaaPfO
/- impl.openProof by its contract: the walk. -/
namespace Go.Proofs.Ytkiadnglbjamfaa
open Go.RowKit
set_option linter.unusedVariables false

set_option maxRecDepth 100000 in
set_option maxHeartbeats 3200000 in
theorem openProof_any (v u : Value) (rs : List Rr) (ax : List ByteArray) (w : World) (h : CRow w v rs.length 5 (rvVs rs)) (hu : Nm.SRow w u ax) (hax : Few ax) (hz : ∀ r ∈ rs, r.own.size ≤ maxLen ∧ r.da.size ≤ 2000000) :
    Calls Try.prog 23 #[v, u] w fun e w' => Opened w w' (openO ax rs) e := by
  obtain ⟨i0, hi, hz0, hz1, hz2⟩ := info_parts Try.infoLk
  obtain ⟨_, a, cap, rfl, hcap, hmx, hc⟩ := h
  have HU := Nm.hide hu
  obtain ⟨xu, yu, rfl, _⟩ := hu
  by_cases hbig : 20 < rs.length
  · have hbig' : (20 : Int) < (rs.length : Int) := by omega
    have HV := Nm.hide (show openO ax rs = none by rw [openO, if_neg (by omega)])
    clear hc
    go_enter Try.func23, Try.ntmps23
    go_wp2
    go_ret2
    rw [HV.out]
    exact ⟨Below.refl _ _, rfl⟩
  · have hbig' : (rs.length : Int) ≤ 20 := by omega
    rw [show openO ax rs = openL ax rs by rw [openO, if_pos (by omega)]]
    go_enter Try.func23, Try.ntmps23
    go_wp2
    go_loopw [6, 16] (fun v i wr => ∃ (k : Nat) (ls : List Lk) (vs : List (Value × Value × Value)), k ≤ rs.length ∧ i = .int .i64 k ∧ openL ax (rs.take k) = some ls ∧ LkW wr w.heap.size v ls vs ∧ Below w.heap.size w wr) (fun _ i _ => rs.length - (intOf i).toNat)
    case atStart => exact ⟨0, [], [], Nat.zero_le _, rfl, rfl, lkW_nil _ _, Below.refl _ _⟩
    case round =>
      obtain ⟨k, ls, vs, hk, rfl, hop, hW, hbel⟩ := hrel
      have hll := openL_len ax _ _ hop
      rw [List.length_take] at hll
      have hl20 : ls.length ≤ 20 := by omega
      have HO := Nm.hide hop
      have HW := Nm.hide hW
      obtain ⟨ya, yc, rfl⟩ := own_sl hW.row
      clear hop hll hW
      by_cases hlt : k < rs.length
      · obtain ⟨r, hr⟩ : ∃ r, rs[k]? = some r := ⟨_, List.getElem?_eq_getElem hlt⟩
        have at0 := rvVs_atP rs k 0 r hr (by decide)
        have at1 := rvVs_atP rs k 1 r hr (by decide)
        have at2 := rvVs_atP rs k 2 r hr (by decide)
        have at3 := rvVs_atP rs k 3 r hr (by decide)
        have at4 := rvVs_atP rs k 4 r hr (by decide)
        obtain ⟨b, off, rfl, hcell⟩ := hc (by omega)
        have put : ∀ {B O : Nat} {z : Value}, w.cell? ⟨B, O, none⟩ = some z → wr.cell? ⟨B, O, none⟩ = some z := fun h => (hbel.cell (World.block_lt_of_cell? w _ h)).trans h
        have c0 : wr.cell? ⟨b, off + k * 5, none⟩ = some (.string r.own) := put (hcell _ _ at0)
        have c1 : wr.cell? ⟨b, off + k * 5 + 1, none⟩ = some (.int .i64 r.ty) := put (hcell _ _ at1)
        have c2 : wr.cell? ⟨b, off + k * 5 + 2, none⟩ = some (.int .i64 r.cl) := put (hcell _ _ at2)
        have c3 : wr.cell? ⟨b, off + k * 5 + 3, none⟩ = some (.int .i64 r.tt) := put (hcell _ _ at3)
        have c4 : wr.cell? ⟨b, off + k * 5 + 4, none⟩ = some (.string r.da) := put (hcell _ _ at4)
        have hzr := hz r (List.mem_of_getElem? hr)
        have hA := (Below.refl wr.heap.size wr).alloc (Nat.le_refl _) (.cells #[.string r.own, .int .i64 r.ty, .int .i64 r.cl, .int .i64 r.tt, .string r.da] 35)
        have k8 := blk_new wr #[.string r.own, .int .i64 r.ty, .int .i64 r.cl, .int .i64 r.tt, .string r.da] 35
        have hrl := readLink_any r (wr.alloc (.cells #[.string r.own, .int .i64 r.ty, .int .i64 r.cl, .int .i64 r.tt, .string r.da] 35)) hzr.1 hzr.2
        have hgr := good_read ax r
        have HR := Nm.hide hr
        have hB := Nm.below_two hbel hA
        have HW1 := Nm.hide (HW.out.below hA)
        have hws : w.heap.size ≤ (wr.alloc (.cells #[.string r.own, .int .i64 r.ty, .int .i64 r.cl, .int .i64 r.tt, .string r.da] 35)).heap.size := hB.size
        have i1 : (0 : Int) ≤ (k : Int) := by omega
        have i2 : (k : Int) < (rs.length : Int) := by omega
        clear hc hcell at0 at1 at2 at3 at4 hr put hA HW hbel hzr
        go_wp2_with fail
        refine hrl.mono ?_
        rintro e w2 ⟨b2, hm⟩
        replace k8 := blk_below k8 b2
        replace hB := Nm.below_two hB b2
        have HW := Nm.hide (HW1.out.below b2)
        have r8 := fun i => blk_cell k8 i
        clear hrl b2 HW1
        cases hq : readR r with
        | none =>
          rw [hq] at hm hgr
          replace hm : e = .returned (.tuple #[.agg #[.slice none 0 0, .slice none 0 0, .slice none 0 0], .bool false]) := hm
          subst hm
          have HV := Nm.hide (open_fail HO.out HR.out hgr)
          replace hB := hB.alloc hB.size (.cells #[.slice none 0 0, .slice none 0 0, .slice none 0 0] 68)
          clear hq hgr
          go_wp2
          go_ret2
          rw [HV.out]
          exact ⟨hB, rfl⟩
        | some l =>
          rw [hq] at hm hgr
          obtain ⟨va, vb, vc, rfl, hlv, o1, o2, o3⟩ := hm
          have hlo := (LkO.mk o1 o2 o3 hlv.so hlv.sn).base hws
          have hA2 := (Below.refl w2.heap.size w2).alloc (Nat.le_refl _) (.cells #[va, vb, vc] 68)
          have k9 := blk_new w2 #[va, vb, vc] 68
          replace k8 := blk_below k8 hA2
          replace hB := Nm.below_two hB hA2
          have HW3 := Nm.hide (HW.out.below hA2)
          replace hlv := hlv.below hA2
          replace hlo := hlo.below hA2
          have hsl := lk_form hlv
          have hun1 := fun W (hW : Below (w2.alloc (.cells #[va, vb, vc] 68)).heap.size (w2.alloc (.cells #[va, vb, vc] 68)) W) (hW2 : Below w.heap.size w W) => under_any va _ l.ow ax W (hlv.below hW).ro (HU.out.below hW2) hlv.so.1 (by have := hlv.so.2; omega) (by have := hax.2; omega)
          have hun2 := fun W (hW : Below (w2.alloc (.cells #[va, vb, vc] 68)).heap.size (w2.alloc (.cells #[va, vb, vc] 68)) W) (hW2 : Below w.heap.size w W) => under_any vb _ l.nx ax W (hlv.below hW).rn (HU.out.below hW2) hlv.sn.1 (by have := hlv.sn.2; omega) (by have := hax.2; omega)
          have HL := Nm.hide hlo
          obtain ⟨⟨x1, y1, rfl⟩, ⟨x2, y2, rfl⟩, ⟨x3, y3, rfl⟩⟩ := hsl
          have r8 := fun i => blk_cell k8 i
          have r9 := fun i => blk_cell k9 i
          clear hq HW hlv o1 o2 o3 hA2 hws hlo
          simp only at hgr
          by_cases ht : r.ty = 47
          · by_cases hcl : r.cl = 1
            · rw [ht] at r8 k8 ⊢
              rw [hcl] at r8 k8 ⊢
              cases hU1 : underB l.ow ax with
              | false =>
                have HV := Nm.hide (open_fail HO.out HR.out (by rw [hgr, if_neg (by rw [hU1]; simp)]))
                rw [hU1] at hun1
                clear hU1 hgr hun2 ht hcl
                go_wp2_with fail
                refine (hun1 _ (Below.refl _ _) hB).mono ?_
                rintro e w3 ⟨rfl, m3, rfl⟩
                replace hB := Nm.below_two hB (below_drewN _ m3)
                go_wp2
                go_ret2
                rw [HV.out]
                exact ⟨hB, rfl⟩
              | true =>
                rw [hU1] at hun1
                go_wp2_with fail
                refine (hun1 _ (Below.refl _ _) hB).mono ?_
                rintro e w3 ⟨rfl, m3, rfl⟩
                have b3 := below_drewN (w2.alloc (.cells #[.slice x1 l.ow.length y1, .slice x2 l.nx.length y2, .slice x3 l.ty.length y3] 68)) m3
                replace hB := Nm.below_two hB b3
                replace k9 := blk_below k9 b3
                have HW4 := Nm.hide (HW3.out.below b3)
                have HL4 := Nm.hide (HL.out.below b3)
                have hc2 := hun2 _ b3 hB
                generalize (w2.alloc (.cells #[.slice x1 l.ow.length y1, .slice x2 l.nx.length y2, .slice x3 l.ty.length y3] 68)).drewN m3 = w3 at *
                have r9 := fun i => blk_cell k9 i
                clear b3 hun1 hun2 HW3 HL k8 r8
                cases hU2 : underB l.nx ax with
                | false =>
                  have HV := Nm.hide (open_fail HO.out HR.out (by rw [hgr, if_neg (by rw [hU2]; simp)]))
                  rw [hU2] at hc2
                  clear hU1 hU2 hgr ht hcl
                  go_wp2_with fail
                  refine hc2.mono ?_
                  rintro e w4 ⟨rfl, m4, rfl⟩
                  replace hB := Nm.below_two hB (below_drewN _ m4)
                  go_wp2
                  go_ret2
                  rw [HV.out]
                  exact ⟨hB, rfl⟩
                | true =>
                  have HG := Nm.hide (open_step HO.out HR.out (by rw [hgr, if_pos ⟨ht, hcl, hU1, hU2⟩]))
                  rw [hU2] at hc2
                  clear hU1 hU2 hgr ht hcl
                  go_wp2_with fail
                  refine hc2.mono ?_
                  rintro e w4 ⟨rfl, m4, rfl⟩
                  have b4 := below_drewN w3 m4
                  replace hB := Nm.below_two hB b4
                  replace k9 := blk_below k9 b4
                  have HW5 := Nm.hide (HW4.out.below b4)
                  have HL5 := Nm.hide (HL4.out.below b4)
                  generalize w3.drewN m4 = w4 at *
                  have r9 := fun i => blk_cell k9 i
                  clear b4 hc2 HW4 HL4
                  have hA5 := (Below.refl w4.heap.size w4).alloc (Nat.le_refl _) (.cells #[.slice x1 l.ow.length y1, .slice x2 l.nx.length y2, .slice x3 l.ty.length y3] 68)
                  have hW6 := HW5.out.below hA5
                  have hL6 := HL5.out.below hA5
                  have hB6 := Nm.below_two hB hA5
                  go_wp2_with (at_builtin; refine wpList_append_own _ rfl (.tmp 51) (.tmp 53) 54 rfl w.heap.size 68 i0 _ 3 72 Try.underlying54 hi hz0 hz1 hz2 rfl (by decide) _ _ _ rfl hW6.row ⟨w4.heap.size, 0, none⟩ 1 1 [.slice x1 l.ow.length y1, .slice x2 l.nx.length y2, .slice x3 l.ty.length y3] rfl rfl (cell_three _ _ _ _ _) (one_three _ _ _ _ _ _ _ _ _) (by unfold maxLen; omega) (by omega) hB6.size ?_; intro vb wb hown8 hgrow8 hnl8; clear hnl8)
                  have hW8 := hW6.snoc hL6 hgrow8 hown8
                  have hB8 : Below w.heap.size w wb := hB6.grown hgrow8 hB6.size (fun q hq => (hW6.row.lt q hq).1)
                  obtain ⟨za, zc, rfl⟩ := own_sl hown8
                  clear hown8 hgrow8 hA5 hW6 hL6 hB6 HW5 HL5 k9
                  go_roundw
                  case rel => exact ⟨k + 1, ls ++ [l], _, by omega, by go_num, HG.out, hW8, hB8⟩
                  case measure => simp [intOf]; omega
            · have HV := Nm.hide (open_fail HO.out HR.out (by rw [hgr, if_neg (by simp [hcl])]))
              have hcl' : (r.cl != 1) = true := by simp [hcl]
              rw [ht] at r8 k8 ⊢
              clear hgr ht hcl hun1 hun2
              go_wp2
              go_ret2
              rw [HV.out]
              exact ⟨hB, rfl⟩
          · have HV := Nm.hide (open_fail HO.out HR.out (by rw [hgr, if_neg (by simp [ht])]))
            have ht' : (r.ty != 47) = true := by simp [ht]
            clear hgr ht hun1 hun2
            go_wp2
            go_ret2
            rw [HV.out]
            exact ⟨hB, rfl⟩
      · have hke : k = rs.length := by omega
        subst hke
        have HV := Nm.hide (show openL ax rs = some ls by have := HO.out; rwa [List.take_length] at this)
        clear hc HO
        go_wp2
        go_ret2
        rw [HV.out]
        exact ⟨hbel, _, vs, rfl, HW.out.s⟩
end Go.Proofs.Ytkiadnglbjamfaa
