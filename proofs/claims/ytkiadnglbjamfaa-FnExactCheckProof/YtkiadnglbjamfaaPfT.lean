import Derived.Test.YtkiadnglbjamfaaJAnc
import Derived.Test.YtkiadnglbjamfaaJPfD
import Derived.Test.YtkiadnglbjamfaaSCheck
import Derived.Test.YtkiadnglbjamfaaOwnT
/- spec.CheckProof by its contract. -/
namespace Go.Proofs.Ytkiadnglbjamfaa
open Go.RowKit
set_option linter.unusedVariables false

theorem Try.infoNs : (Try.prog.info? 38).map (fun i => (i.zero, i.size, i.bytes)) = some (some (.agg #[.string ByteArray.empty, .int .i64 0, .int .i64 0, .int .i64 0, .string ByteArray.empty, .string ByteArray.empty, .string ByteArray.empty]), 7, 88) := by kernel_rfl
theorem cell_newP (w : World) (cs : Array Value) (e : Nat) : ∀ (j : Nat) (u : Value), cs.toList[j]? = some u → (w.alloc (.cells cs e)).cell? ((⟨w.heap.size, 0, none⟩ : Addr).add j) = some u := by
  intro j u h
  rw [Nm.addr_add, Nat.zero_add, World.cell?_alloc_new]
  simpa using h
theorem one_ns (r : Rr) : ∀ u ∈ nsC r, u.oneCell' = true := by
  intro u hu
  simp [nsC] at hu
  rcases hu with rfl | rfl | rfl | rfl | rfl | rfl | rfl <;> rfl

theorem ns_field (x0 x4 nn bb : ByteArray) (x1 x2 x3 : Int) (W : World) : (Instr.field 38 (.agg #[.string x0, .int .i64 x1, .int .i64 x2, .int .i64 x3, .string x4, .string nn, .string bb]) 1).run Try.prog W = .ok (.string nn) W := by kernel_rfl

theorem wsum_geS : ∀ ls : List ByteArray, ls.length ≤ Nm.wsum ls := by
  intro ls
  induction ls with
  | nil => simp [Nm.wsum]
  | cons a t ih => simp only [Nm.wsum, List.length_cons]; omega

set_option maxRecDepth 100000 in
set_option maxHeartbeats 3200000 in
theorem specCheckProof_loop (a b : ByteArray) (ax x : List ByteArray) (q : Int) (v : Value) (rs : List Rr) (w : World) (ha : a.size ≤ maxLen) (hb : b.size ≤ maxLen) (hqa : Nm.split a = some ax) (hqb : Nm.split b = some x) (hU : underB x ax = true) (hO : oneB q = true) (hl : rs.length ≤ 20)
    (h : CRow w v rs.length 5 (rvVs rs)) (hz : ∀ r ∈ rs, r.own.size ≤ maxLen ∧ r.da.size ≤ 2000000) :
    Calls Try.prog 5 #[.string a, .string b, .int .i64 q, v] w fun e w' => e = .returned (.int .i64 (match openL ax rs with | some ls => checkC ls x q | none => 0)) ∧ Below w.heap.size w w' := by
  obtain ⟨i0, hi, hz0, hz1, hz2⟩ := info_parts Try.infoNs
  have hok := fun W => specNameOK_any a W ha
  have hub := fun W => specIsUnder_any b a W hb ha
  rw [hqa] at hok
  rw [isUnder_some hqb hqa, hU] at hub
  simp only [oneB, decide_eq_true_eq] at hO
  obtain ⟨hq1, hq2, hq3⟩ := hO
  have hq1' : ¬ (q < 1) := by omega
  have hq2' : ¬ (65535 < q) := by omega
  have hq3' : (q == 255) = false := by rw [beq_eq_false_iff_ne]; exact hq3
  have hl' : ¬ ((20 : Int) < (rs.length : Int)) := by omega
  have HQ := Nm.hide (And.intro hqa hqb)
  obtain ⟨_, va, vc, rfl, hcap, hmx, hc⟩ := h
  obtain ⟨RES, hRES⟩ : ∃ RES : Int, (match openL ax rs with | some ls => checkC ls x q | none => 0) = RES := ⟨_, rfl⟩
  rw [hRES]
  have HRES := Nm.hide hRES
  clear hRES hqa hqb hU hq3
  go_enter Try.func5, Try.ntmps5
  go_wp2_with fail
  refine (hok _).mono ?_
  rintro e w1 ⟨rfl, b1⟩
  go_wp2_with fail
  refine (hub _).mono ?_
  rintro e w2 ⟨rfl, b2⟩
  have hB0 := Nm.below_two b1 b2
  have hro0 := World.ownsRow_made (base := w.heap.size) (size := 7) (e := 38) w2 #[] 0 hB0.size (by decide) rfl
  have hBs := hB0.alloc hB0.size (.cells #[] 38)
  clear hok hub b1 b2
  go_wp2
  go_loopw [9, 10] (fun u i wr => ∃ (k : Nat) (ls : List Lk), k ≤ rs.length ∧ i = .int .i64 k ∧ openL ax (rs.take k) = some ls ∧ wr.ownsRow w.heap.size 38 7 u k (nsCs (rs.take k)) ∧ Below w.heap.size w wr) (fun _ i _ => rs.length - (intOf i).toNat)
  case atStart => exact ⟨0, [], Nat.zero_le _, rfl, rfl, hro0, hBs⟩
  case round =>
    obtain ⟨k, ls, hk, rfl, hop, hro, hbel⟩ := hrel
    have HO := Nm.hide hop
    have HRo := Nm.hide hro
    obtain ⟨ya, yc, rfl⟩ := own_sl hro
    clear hop hro hro0 hBs hB0
    by_cases hlt : k < rs.length
    · obtain ⟨r, hr⟩ : ∃ r, rs[k]? = some r := ⟨_, List.getElem?_eq_getElem hlt⟩
      have at0 := rvVs_atP rs k 0 r hr (by decide)
      have at1 := rvVs_atP rs k 1 r hr (by decide)
      have at2 := rvVs_atP rs k 2 r hr (by decide)
      have at3 := rvVs_atP rs k 3 r hr (by decide)
      have at4 := rvVs_atP rs k 4 r hr (by decide)
      obtain ⟨b', off, rfl, hcell⟩ := hc (by omega)
      have put : ∀ {B O : Nat} {z : Value}, w.cell? ⟨B, O, none⟩ = some z → wr.cell? ⟨B, O, none⟩ = some z := fun h => (hbel.cell (World.block_lt_of_cell? w _ h)).trans h
      have c0 : wr.cell? ⟨b', off + k * 5, none⟩ = some (.string r.own) := put (hcell _ _ at0)
      have c1 : wr.cell? ⟨b', off + k * 5 + 1, none⟩ = some (.int .i64 r.ty) := put (hcell _ _ at1)
      have c2 : wr.cell? ⟨b', off + k * 5 + 2, none⟩ = some (.int .i64 r.cl) := put (hcell _ _ at2)
      have c3 : wr.cell? ⟨b', off + k * 5 + 3, none⟩ = some (.int .i64 r.tt) := put (hcell _ _ at3)
      have c4 : wr.cell? ⟨b', off + k * 5 + 4, none⟩ = some (.string r.da) := put (hcell _ _ at4)
      have hzr := hz r (List.mem_of_getElem? hr)
      have hA := (Below.refl wr.heap.size wr).alloc (Nat.le_refl _) (.cells #[.string r.own, .int .i64 r.ty, .int .i64 r.cl, .int .i64 r.tt, .string r.da] 35)
      have k11 := blk_new wr #[.string r.own, .int .i64 r.ty, .int .i64 r.cl, .int .i64 r.tt, .string r.da] 35
      have HR := Nm.hide hr
      have hB := Nm.below_two hbel hA
      have HRo := Nm.hide (own_below HRo.out hA)
      have i1 : (0 : Int) ≤ (k : Int) := by omega
      have i2 : (k : Int) < (rs.length : Int) := by omega
      have HF : Hid (goodR ax r = none → RES = 0) := fun hg => by rw [← HRES.out, open_fail HO.out HR.out hg]
      have hck := fun W => specCheckData_any 47 r.da W
      have hu1 := fun W => specIsUnder_any r.own a W hzr.1 ha
      have hrd := fun W => l08Read_any r W
      have hle := Dt.name_le r.da
      have hu2 := fun W => specIsUnder_any (Dt.nameAtS r.da) a W (by unfold maxLen; omega) ha
      unfold nsA at hrd
      have r11 := fun i => blk_cell k11 i
      clear hc hcell at0 at1 at2 at3 at4 hr put hA hbel hle hzr
      by_cases ht : r.ty = 47
      · by_cases hcl : r.cl = 1
        · by_cases hcc : cutCode 47 r.da = 0
          · cases hV1 : isUnderS r.own a with
            | false =>
              have HV := Nm.hide (HF.out (good_no1 HQ.out.1 hV1))
              rw [hcc] at hck
              rw [hV1] at hu1
              clear hcc hV1 hu2 hrd
              rw [ht] at k11 r11 c1 hB HRo
              rw [hcl] at k11 r11 c2 hB HRo
              go_wp2_with fail
              refine (hck _).mono ?_
              rintro e wn ⟨rfl, bn⟩
              replace k11 := blk_below k11 bn
              replace hB := Nm.below_two hB bn
              have HRo := Nm.hide (own_below HRo.out bn)
              have r11 := fun i => blk_cell k11 i
              clear bn
              go_wp2_with fail
              refine (hu1 _).mono ?_
              rintro e wn ⟨rfl, bn⟩
              replace k11 := blk_below k11 bn
              replace hB := Nm.below_two hB bn
              have HRo := Nm.hide (own_below HRo.out bn)
              have r11 := fun i => blk_cell k11 i
              clear bn
              go_wp2
              go_ret
              rw [HV.out]
              exact ⟨rfl, hB⟩
            | true =>
              cases hV2 : isUnderS (Dt.nameAtS r.da) a with
              | false =>
                have HV := Nm.hide (HF.out (good_no2 HQ.out.1 hV2))
                rw [hcc] at hck
                rw [hV1] at hu1
                rw [hV2] at hu2
                clear hcc hV1 hV2
                rw [ht] at k11 r11 c1 hrd hB HRo
                rw [hcl] at k11 r11 c2 hrd hB HRo
                generalize Dt.nameAtS r.da = nn at *
                generalize bitsOf r.da = bb at *
                go_wp2_with fail
                refine (hck _).mono ?_
                rintro e wn ⟨rfl, bn⟩
                replace k11 := blk_below k11 bn
                replace hB := Nm.below_two hB bn
                have HRo := Nm.hide (own_below HRo.out bn)
                have r11 := fun i => blk_cell k11 i
                clear bn
                go_wp2_with fail
                refine (hu1 _).mono ?_
                rintro e wn ⟨rfl, bn⟩
                replace k11 := blk_below k11 bn
                replace hB := Nm.below_two hB bn
                have HRo := Nm.hide (own_below HRo.out bn)
                have r11 := fun i => blk_cell k11 i
                clear bn
                have hfd := fun W => ns_field r.own r.da nn bb 47 1 r.tt W
                go_wp2_with fail
                refine (hrd _).mono ?_
                rintro e wn ⟨rfl, bn⟩
                replace k11 := blk_below k11 bn
                replace hB := Nm.below_two hB bn
                have HRo := Nm.hide (own_below HRo.out bn)
                have r11 := fun i => blk_cell k11 i
                clear bn
                go_wp2_with fail
                refine (hu2 _).mono ?_
                rintro e wn ⟨rfl, bn⟩
                replace k11 := blk_below k11 bn
                replace hB := Nm.below_two hB bn
                have HRo := Nm.hide (own_below HRo.out bn)
                have r11 := fun i => blk_cell k11 i
                clear bn
                go_wp2
                go_ret
                rw [HV.out]
                exact ⟨rfl, hB⟩
              | true =>
                obtain ⟨l, hgl⟩ := good_yes HQ.out.1 ht hcl hcc hV1 hV2
                have HG := Nm.hide (open_step HO.out HR.out hgl)
                have HN := Nm.hide (show nsCs (rs.take (k + 1)) = nsCs (rs.take k) ++ nsC r by rw [take_more HR.out, nsCs_snoc])
                have HON := Nm.hide (one_ns r)
                rw [hcc] at hck
                rw [hV1] at hu1
                rw [hV2] at hu2
                clear hcc hV1 hV2 hgl HF
                unfold nsC at HON HN
                rw [ht] at k11 r11 c1 hrd HN HON hB HRo
                rw [hcl] at k11 r11 c2 hrd HN HON hB HRo
                generalize Dt.nameAtS r.da = nn at *
                generalize bitsOf r.da = bb at *
                go_wp2_with fail
                refine (hck _).mono ?_
                rintro e wn ⟨rfl, bn⟩
                replace k11 := blk_below k11 bn
                replace hB := Nm.below_two hB bn
                have HRo := Nm.hide (own_below HRo.out bn)
                have r11 := fun i => blk_cell k11 i
                clear bn
                go_wp2_with fail
                refine (hu1 _).mono ?_
                rintro e wn ⟨rfl, bn⟩
                replace k11 := blk_below k11 bn
                replace hB := Nm.below_two hB bn
                have HRo := Nm.hide (own_below HRo.out bn)
                have r11 := fun i => blk_cell k11 i
                clear bn
                have hfd := fun W => ns_field r.own r.da nn bb 47 1 r.tt W
                go_wp2_with fail
                refine (hrd _).mono ?_
                rintro e wn ⟨rfl, bn⟩
                replace k11 := blk_below k11 bn
                replace hB := Nm.below_two hB bn
                have HRo := Nm.hide (own_below HRo.out bn)
                have r11 := fun i => blk_cell k11 i
                clear bn
                go_wp2_with fail
                refine (hu2 _).mono ?_
                rintro e wn ⟨rfl, bn⟩
                replace k11 := blk_below k11 bn
                replace hB := Nm.below_two hB bn
                have HRo := Nm.hide (own_below HRo.out bn)
                have r11 := fun i => blk_cell k11 i
                clear bn
                go_wp2_with fail
                refine (hrd _).mono ?_
                rintro e wn ⟨rfl, bn⟩
                replace k11 := blk_below k11 bn
                replace hB := Nm.below_two hB bn
                have HRo := Nm.hide (own_below HRo.out bn)
                have r11 := fun i => blk_cell k11 i
                clear bn
                have hA5 := (Below.refl wn.heap.size wn).alloc (Nat.le_refl _) (.cells #[.string r.own, .int .i64 47, .int .i64 1, .int .i64 r.tt, .string r.da, .string nn, .string bb] 38)
                have hW6 := own_below HRo.out hA5
                have hB6 := Nm.below_two hB hA5
                have hcn := cell_newP wn #[.string r.own, .int .i64 47, .int .i64 1, .int .i64 r.tt, .string r.da, .string nn, .string bb] 38
                go_wp2_with (at_builtin; refine wpList_append_own _ rfl (.tmp 86) (.tmp 89) 34 rfl w.heap.size 38 i0 _ 7 88 Try.underlying34 hi hz0 hz1 hz2 rfl (by decide) _ _ _ rfl hW6 ⟨wn.heap.size, 0, none⟩ 1 1 [.string r.own, .int .i64 47, .int .i64 1, .int .i64 r.tt, .string r.da, .string nn, .string bb] rfl rfl hcn HON.out (by unfold maxLen; omega) (by omega) hB6.size ?_; intro vb wb hown8 hgrow8 hnl8; clear hnl8)
                have hB8 : Below w.heap.size w wb := hB6.grown hgrow8 hB6.size (fun q hq => (hW6.lt q hq).1)
                rw [← HN.out] at hown8
                obtain ⟨za, zc, rfl⟩ := own_sl hown8
                clear hgrow8 hA5 hW6 hB6 k11 r11
                go_roundw
                case rel => exact ⟨k + 1, ls ++ [l], by omega, by go_num, HG.out, hown8, hB8⟩
                case measure => simp [intOf]; omega
          · have HV := Nm.hide (HF.out (good_cc hcc))
            have hcc' : (cutCode 47 r.da != 0) = true := by simp [hcc]
            clear hcc hu1 hu2 hrd
            rw [ht] at k11 r11 c1 hB HRo
            rw [hcl] at k11 r11 c2 hB HRo
            generalize cutCode 47 r.da = CC at *
            go_wp2_with fail
            refine (hck _).mono ?_
            rintro e wn ⟨rfl, bn⟩
            replace k11 := blk_below k11 bn
            replace hB := Nm.below_two hB bn
            have HRo := Nm.hide (own_below HRo.out bn)
            have r11 := fun i => blk_cell k11 i
            clear bn
            go_wp2
            go_ret
            rw [HV.out]
            exact ⟨rfl, hB⟩
        · have HV := Nm.hide (HF.out (good_cl hcl))
          have hcl' : (r.cl != 1) = true := by simp [hcl]
          clear hcl hck hu1 hu2 hrd
          rw [ht] at k11 r11 c1 hB HRo
          go_wp2
          go_ret
          rw [HV.out]
          exact ⟨rfl, hB⟩
      · have HV := Nm.hide (HF.out (good_ty ht))
        have ht' : (r.ty != 47) = true := by simp [ht]
        clear ht hck hu1 hu2 hrd
        go_wp2
        go_ret
        rw [HV.out]
        exact ⟨rfl, hB⟩
    · have hke : k = rs.length := by omega
      subst hke
      have hop : openL ax rs = some ls := by have := HO.out; rwa [List.take_length] at this
      have hrow : CRow wr (.slice ya rs.length yc) rs.length 7 (nsCs rs) := by have := HRo.out; rw [List.take_length] at this; exact CRow.of_owns this
      have hres : checkC ls x q = RES := by have := HRES.out; rw [hop] at this; exact this
      have hall := open_all rs ls (fun r hr => (hz r hr).1) hop
      have hmt := l08Matching_any _ rs ls b x q wr hrow hall hl HQ.out.2 hb
      have HROW := Nm.hide hrow
      clear hc HO HRo HRES hop hrow hi hz0 hz1 hz2 hz hcap hmx
      as_aux_lemma =>
        go_wp2_with fail
        refine hmt.mono ?_
        rintro e w3 ⟨b3, rfl⟩
        have hB3 := Nm.below_two hbel b3
        have hrow3 := HROW.out.below b3
        have hcv := l08Covering_any _ rs ls b x w3 hrow3 hall hl HQ.out.2 hb
        have HR3 := Nm.hide hrow3
        clear hmt b3 hrow3 HROW hbel
        rcases match_cases ls x q with ⟨hm0, hp0⟩ | ⟨hm1, hs1⟩ | ⟨hm2, hs2⟩
        · rw [hm0]
          clear hm0
          go_wp2_with fail
          refine hcv.mono ?_
          rintro e w4 ⟨b4, ⟨rfl, hcn⟩ | ⟨kk, r, l, rfl, hr, hlk, hcs⟩⟩
          · have HV := Nm.hide (show RES = 0 by rw [← hres]; exact check_not (says_none hp0 hcn) (by decide))
            clear hcn hp0 hres
            go_wp2
            go_ret
            rw [HV.out]
            exact ⟨rfl, Nm.below_two hB3 b4⟩
          · have hB4 := Nm.below_two hB3 b4
            have hrow4 := HR3.out.below b4
            have HRW := Nm.hide hrow4
            have HXL := Nm.hide (show x.length ≤ 1000 by have h2 := Nm.split_size HQ.out.2; have := wsum_geS x; omega)
            clear hcv b4 HR3 hB3
            as_aux_lemma =>
              obtain ⟨_, za, zc, ez, _, _, hcz⟩ := hrow4
              simp only [Value.slice.injEq] at ez
              obtain ⟨rfl, _, rfl⟩ := ez
              have hlt' : kk < rs.length := (List.getElem?_eq_some_iff.1 hr).1
              have at0 := nsCs_at rs kk 0 r hr (by decide)
              have at5 := nsCs_at rs kk 5 r hr (by decide)
              obtain ⟨bz, oz, rfl, hcellz⟩ := hcz (by omega)
              have KK := Nm.hide (show ∀ W, Below w4.heap.size w4 W → W.cell? ⟨bz, oz + kk * 7, none⟩ = some (.string r.own) ∧ W.cell? ⟨bz, oz + kk * 7 + 5, none⟩ = some (.string (Dt.nameAtS r.da)) by
                intro W hW
                have put : ∀ {B O : Nat} {z : Value}, w4.cell? ⟨B, O, none⟩ = some z → W.cell? ⟨B, O, none⟩ = some z := fun h => (hW.cell (World.block_lt_of_cell? w4 _ h)).trans h
                exact ⟨put (hcellz _ _ at0), put (hcellz _ _ at5)⟩)
              have R := hall.2 kk r l hr hlk
              have hst := l08Strictly_any (Dt.nameAtS r.da) b l.nx x w4 R.sn HQ.out.2 R.zn hb
              have hx1 := pick_cov_pos hcs
              have hun1 := fun j (hj : j ≤ x.length) W => und_j HQ.out.2 hj R.so R.zo W
              have hun2 := fun j (hj : j ≤ x.length) W => und_j HQ.out.2 hj R.sn R.zn W
              have hrow4' : CRow w4 (.slice (some ⟨bz, oz, none⟩) rs.length yc) rs.length 7 (nsCs rs) := HRW.out
              have i1 : (0 : Int) ≤ (kk : Int) := by omega
              have i2 : (kk : Int) < (rs.length : Int) := by omega
              have i3 : ¬ ((kk : Int) < 0) := by omega
              have HRW4 := Nm.hide hrow4'
              obtain ⟨c0, c5⟩ := KK.out _ (Below.refl _ _)
              clear hcz hcellz at0 at5 R hr hlk hrow4' HRW
              generalize Dt.nameAtS r.da = nn at *
              cases hS : strB l.nx x with
              | true =>
                have HV := Nm.hide (show RES = 1 by rw [← hres]; exact check_not (says_str hp0 hcs hS) (by decide))
                rw [hS] at hst
                clear hS hp0 hcs hres hun1 hun2
                go_wp2_with fail
                refine hst.mono ?_
                rintro e w5 ⟨rfl, b5⟩
                go_wp2
                go_ret
                rw [HV.out]
                exact ⟨rfl, Nm.below_two hB4 b5⟩
              | false =>
                have HV := Nm.hide (show RES = saysC ls (starL :: nearJ l x 1) q by rw [← hres]; exact check_two (says_cov hp0 hcs hS) hcs)
                rw [hS] at hst
                clear hS hp0 hcs hres
                have ha1 := fun W => anc_j HQ.out.2 (j := 1) (by omega) W hb
                go_wp2_with fail
                refine hst.mono ?_
                rintro e w5 ⟨rfl, b5⟩
                obtain ⟨c0, c5⟩ := KK.out _ b5
                go_wp2_with fail
                refine (ha1 _).mono ?_
                rintro e w6 ⟨rfl, b6⟩
                have b46 := Nm.below_two b5 b6
                clear b5 b6 ha1 hst
                as_aux_lemma =>
                  go_wp2
                  go_loopw [14, 15] (fun kv nv wl => ∃ j : Nat, 1 ≤ j ∧ j ≤ x.length ∧ kv = .int .i64 j ∧ nv = .string (ancB x j) ∧ nearJ l x j = nearJ l x 1 ∧ Below w4.heap.size w4 wl) (fun kv _ _ => x.length - (intOf kv).toNat)
                  case atStart => exact ⟨1, Nat.le_refl _, by omega, rfl, rfl, rfl, b46⟩
                  case round =>
                    obtain ⟨j, hj1, hjx, rfl, rfl, hnj, bl⟩ := hrel
                    have HNJ := Nm.hide hnj
                    obtain ⟨c0, c5⟩ := KK.out _ bl
                    have hu1 := hun1 j hjx
                    clear hnj b46
                    cases hU1 : undJ l.ow x j with
                    | true =>
                      have HE := Nm.hide (near_j_stop (l := l) (x := x) (j := j) (by rw [hU1]; rfl))
                      rw [hU1] at hu1
                      clear hU1 hun1 hun2
                      go_wp2_with fail
                      refine (hu1 _).mono ?_
                      rintro e w7 ⟨rfl, b7⟩
                      replace bl := Nm.below_two bl b7
                      clear b7 hu1
                      obtain ⟨hs1, hs2, hs3⟩ := star_j HQ.out.2 hj1 hx1 hjx w4
                      have hsr := fun W => (star_j HQ.out.2 hj1 hx1 hjx W).2.2
                      have HV2 := Nm.hide (show RES = saysC ls (starJ x j) q by rw [HV.out, ← HNJ.out, HE.out])
                      clear HV HE HNJ hs3
                      generalize (⟨#[1, 42]⟩ ++ ancB x j : ByteArray) = ST at *
                      generalize starJ x j = XS at *
                      have hmm := fun W (hW : Below w4.heap.size w4 W) => l08Matching_any _ rs ls ST XS q W (HRW4.out.below hW) hall hl hs1 hs2
                      have hcc := fun W (hW : Below w4.heap.size w4 W) => l08Covering_any _ rs ls ST XS W (HRW4.out.below hW) hall hl hs1 hs2
                      as_aux_lemma =>
                        go_wp2_with fail
                        refine (hsr _).mono ?_
                        rintro e wa ⟨rfl, rfl⟩
                        go_wp2_with fail
                        refine (hmm _ bl).mono ?_
                        rintro e wb ⟨bb, rfl⟩
                        replace bl := Nm.below_two bl bb
                        clear bb hmm hsr
                        rcases match_cases ls XS q with ⟨hm0, hp0⟩ | ⟨hm1, hsa1⟩ | ⟨hm2, hsa2⟩
                        · rw [hm0]
                          clear hm0
                          go_wp2_with fail
                          refine (hcc _ bl).mono ?_
                          rintro e wc ⟨bc, ⟨rfl, hcn⟩ | ⟨k2, r2, l2, rfl, hr2, hlk2, hcs2⟩⟩
                          · have HV3 := Nm.hide (show RES = 0 by rw [HV2.out, says_none hp0 hcn])
                            clear hcn hp0
                            go_wp2
                            go_ret
                            rw [HV3.out]
                            exact ⟨rfl, Nm.below_two hB4 (Nm.below_two bl bc)⟩
                          · replace bl := Nm.below_two bl bc
                            have hlt2 : k2 < rs.length := (List.getElem?_eq_some_iff.1 hr2).1
                            have at2 := nsCs_at rs k2 5 r2 hr2 (by decide)
                            have R2 := hall.2 k2 r2 l2 hr2 hlk2
                            have hst2 := l08Strictly_any (Dt.nameAtS r2.da) ST l2.nx XS wc R2.sn hs1 R2.zn hs2
                            have hc2 : wc.cell? ⟨bz, oz + k2 * 7 + 5, none⟩ = some (.string (Dt.nameAtS r2.da)) := by
                              obtain ⟨_, zb, zd, ez, _, _, hcz⟩ := HRW4.out
                              simp only [Value.slice.injEq] at ez
                              obtain ⟨rfl, _, rfl⟩ := ez
                              obtain ⟨b9, o9, e9, hcell9⟩ := hcz (by omega)
                              simp only [Option.some.injEq, Addr.mk.injEq] at e9
                              obtain ⟨rfl, rfl, _⟩ := e9
                              exact (bl.cell (World.block_lt_of_cell? w4 _ (hcell9 _ _ at2))).trans (hcell9 _ _ at2)
                            have j1 : (0 : Int) ≤ (k2 : Int) := by omega
                            have j2 : (k2 : Int) < (rs.length : Int) := by omega
                            have j3 : ¬ ((k2 : Int) < 0) := by omega
                            clear bc hcc at2 R2 hr2 hlk2
                            generalize Dt.nameAtS r2.da = n2 at *
                            cases hS2 : strB l2.nx XS with
                            | true =>
                              have HV3 := Nm.hide (show RES = 1 by rw [HV2.out, says_str hp0 hcs2 hS2])
                              rw [hS2] at hst2
                              clear hS2 hp0 hcs2
                              go_wp2_with fail
                              refine hst2.mono ?_
                              rintro e wd ⟨rfl, bd⟩
                              go_wp2
                              go_ret
                              rw [HV3.out]
                              exact ⟨rfl, Nm.below_two hB4 (Nm.below_two bl bd)⟩
                            | false =>
                              have HV3 := Nm.hide (show RES = 2 by rw [HV2.out, says_cov hp0 hcs2 hS2])
                              rw [hS2] at hst2
                              clear hS2 hp0 hcs2
                              go_wp2_with fail
                              refine hst2.mono ?_
                              rintro e wd ⟨rfl, bd⟩
                              go_wp2
                              go_ret
                              rw [HV3.out]
                              exact ⟨rfl, Nm.below_two hB4 (Nm.below_two bl bd)⟩
                        · have HV3 := Nm.hide (show RES = 1 by rw [HV2.out, hsa1])
                          have hBl := Nm.below_two hB4 bl
                          rw [hm1]
                          clear hm1 hsa1 hcc
                          go_wp2
                          go_ret
                          rw [HV3.out]
                          exact ⟨rfl, hBl.alloc hBl.size _⟩
                        · have HV3 := Nm.hide (show RES = 0 by rw [HV2.out, hsa2])
                          have hBl := Nm.below_two hB4 bl
                          rw [hm2]
                          clear hm2 hsa2 hcc
                          go_wp2
                          go_ret
                          rw [HV3.out]
                          exact ⟨rfl, hBl.alloc hBl.size _⟩
                    | false =>
                      rw [hU1] at hu1
                      have hu2 := hun2 j hjx
                      go_wp2_with fail
                      refine (hu1 _).mono ?_
                      rintro e w7 ⟨rfl, b7⟩
                      replace bl := Nm.below_two bl b7
                      obtain ⟨c0, c5⟩ := KK.out _ bl
                      clear b7 hu1
                      cases hU2 : undJ l.nx x j with
                      | true =>
                        have HE := Nm.hide (near_j_stop (l := l) (x := x) (j := j) (by rw [hU1, hU2]; rfl))
                        rw [hU2] at hu2
                        clear hU1 hU2 hun1 hun2
                        go_wp2_with fail
                        refine (hu2 _).mono ?_
                        rintro e w8 ⟨rfl, b8⟩
                        replace bl := Nm.below_two bl b8
                        clear b8 hu2
                        obtain ⟨hs1, hs2, hs3⟩ := star_j HQ.out.2 hj1 hx1 hjx w4
                        have hsr := fun W => (star_j HQ.out.2 hj1 hx1 hjx W).2.2
                        have HV2 := Nm.hide (show RES = saysC ls (starJ x j) q by rw [HV.out, ← HNJ.out, HE.out])
                        clear HV HE HNJ hs3
                        generalize (⟨#[1, 42]⟩ ++ ancB x j : ByteArray) = ST at *
                        generalize starJ x j = XS at *
                        have hmm := fun W (hW : Below w4.heap.size w4 W) => l08Matching_any _ rs ls ST XS q W (HRW4.out.below hW) hall hl hs1 hs2
                        have hcc := fun W (hW : Below w4.heap.size w4 W) => l08Covering_any _ rs ls ST XS W (HRW4.out.below hW) hall hl hs1 hs2
                        as_aux_lemma =>
                          go_wp2_with fail
                          refine (hsr _).mono ?_
                          rintro e wa ⟨rfl, rfl⟩
                          go_wp2_with fail
                          refine (hmm _ bl).mono ?_
                          rintro e wb ⟨bb, rfl⟩
                          replace bl := Nm.below_two bl bb
                          clear bb hmm hsr
                          rcases match_cases ls XS q with ⟨hm0, hp0⟩ | ⟨hm1, hsa1⟩ | ⟨hm2, hsa2⟩
                          · rw [hm0]
                            clear hm0
                            go_wp2_with fail
                            refine (hcc _ bl).mono ?_
                            rintro e wc ⟨bc, ⟨rfl, hcn⟩ | ⟨k2, r2, l2, rfl, hr2, hlk2, hcs2⟩⟩
                            · have HV3 := Nm.hide (show RES = 0 by rw [HV2.out, says_none hp0 hcn])
                              clear hcn hp0
                              go_wp2
                              go_ret
                              rw [HV3.out]
                              exact ⟨rfl, Nm.below_two hB4 (Nm.below_two bl bc)⟩
                            · replace bl := Nm.below_two bl bc
                              have hlt2 : k2 < rs.length := (List.getElem?_eq_some_iff.1 hr2).1
                              have at2 := nsCs_at rs k2 5 r2 hr2 (by decide)
                              have R2 := hall.2 k2 r2 l2 hr2 hlk2
                              have hst2 := l08Strictly_any (Dt.nameAtS r2.da) ST l2.nx XS wc R2.sn hs1 R2.zn hs2
                              have hc2 : wc.cell? ⟨bz, oz + k2 * 7 + 5, none⟩ = some (.string (Dt.nameAtS r2.da)) := by
                                obtain ⟨_, zb, zd, ez, _, _, hcz⟩ := HRW4.out
                                simp only [Value.slice.injEq] at ez
                                obtain ⟨rfl, _, rfl⟩ := ez
                                obtain ⟨b9, o9, e9, hcell9⟩ := hcz (by omega)
                                simp only [Option.some.injEq, Addr.mk.injEq] at e9
                                obtain ⟨rfl, rfl, _⟩ := e9
                                exact (bl.cell (World.block_lt_of_cell? w4 _ (hcell9 _ _ at2))).trans (hcell9 _ _ at2)
                              have j1 : (0 : Int) ≤ (k2 : Int) := by omega
                              have j2 : (k2 : Int) < (rs.length : Int) := by omega
                              have j3 : ¬ ((k2 : Int) < 0) := by omega
                              clear bc hcc at2 R2 hr2 hlk2
                              generalize Dt.nameAtS r2.da = n2 at *
                              cases hS2 : strB l2.nx XS with
                              | true =>
                                have HV3 := Nm.hide (show RES = 1 by rw [HV2.out, says_str hp0 hcs2 hS2])
                                rw [hS2] at hst2
                                clear hS2 hp0 hcs2
                                go_wp2_with fail
                                refine hst2.mono ?_
                                rintro e wd ⟨rfl, bd⟩
                                go_wp2
                                go_ret
                                rw [HV3.out]
                                exact ⟨rfl, Nm.below_two hB4 (Nm.below_two bl bd)⟩
                              | false =>
                                have HV3 := Nm.hide (show RES = 2 by rw [HV2.out, says_cov hp0 hcs2 hS2])
                                rw [hS2] at hst2
                                clear hS2 hp0 hcs2
                                go_wp2_with fail
                                refine hst2.mono ?_
                                rintro e wd ⟨rfl, bd⟩
                                go_wp2
                                go_ret
                                rw [HV3.out]
                                exact ⟨rfl, Nm.below_two hB4 (Nm.below_two bl bd)⟩
                          · have HV3 := Nm.hide (show RES = 1 by rw [HV2.out, hsa1])
                            have hBl := Nm.below_two hB4 bl
                            rw [hm1]
                            clear hm1 hsa1 hcc
                            go_wp2
                            go_ret
                            rw [HV3.out]
                            exact ⟨rfl, hBl.alloc hBl.size _⟩
                          · have HV3 := Nm.hide (show RES = 0 by rw [HV2.out, hsa2])
                            have hBl := Nm.below_two hB4 bl
                            rw [hm2]
                            clear hm2 hsa2 hcc
                            go_wp2
                            go_ret
                            rw [HV3.out]
                            exact ⟨rfl, hBl.alloc hBl.size _⟩
                      | false =>
                        obtain ⟨hg1, hg2⟩ := near_j_go (l := l) (x := x) (j := j) (by rw [hU1, hU2]; rfl)
                        have HG := Nm.hide hg1
                        have hga := fun W => anc_j HQ.out.2 (j := j + 1) (by omega) W hb
                        have hcast : ((j + 1 : Nat) : Int) = (j : Int) + 1 := by omega
                        rw [hcast] at hga
                        rw [hU2] at hu2
                        clear hU1 hU2 hg1 hcast
                        go_wp2_with fail
                        refine (hu2 _).mono ?_
                        rintro e w8 ⟨rfl, b8⟩
                        replace bl := Nm.below_two bl b8
                        clear b8 hu2
                        have hjb : (j : Int) ≤ 1000000 := by have := HXL.out; omega
                        go_wp2_with fail
                        refine (hga _).mono ?_
                        rintro e w9 ⟨rfl, b9⟩
                        replace bl := Nm.below_two bl b9
                        clear b9 hga
                        go_wp2
                        go_roundw
                        case rel => exact ⟨j + 1, by omega, by omega, by go_num, rfl, by rw [← HG.out]; exact HNJ.out, bl⟩
                        case measure => simp [intOf]; omega
        · have HV := Nm.hide (show RES = 1 by rw [← hres]; exact check_not hs1 (by decide))
          rw [hm1]
          clear hm1 hs1 hcv hres
          go_wp2
          go_ret
          rw [HV.out]
          exact ⟨rfl, hB3.alloc hB3.size _⟩
        · have HV := Nm.hide (show RES = 0 by rw [← hres]; exact check_not hs2 (by decide))
          rw [hm2]
          clear hm2 hs2 hcv hres
          go_wp2
          go_ret
          rw [HV.out]
          exact ⟨rfl, hB3.alloc hB3.size _⟩
end Go.Proofs.Ytkiadnglbjamfaa
