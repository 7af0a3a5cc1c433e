import Derived.Test.YthhagapmcbkeiaaJSRe
import Derived.Test.YthhagapmcbkeiaaIIx
/- impl.ReadEdns by its contract. -/
namespace Go.Proofs.Ythhagapmcbkeiaa
open Go.RowKit
set_option linter.unusedVariables false

theorem ri_bad {w W : World} {a : Act} {c : Array Value} (hk : Blk W (w.heap.size + 1) c 41) (hB : Below w.heap.size w W) (h2 : a.tmps[2]?.getD undef = .pointer (some ⟨w.heap.size + 1, 0, none⟩)) (h3 : a.tmps[3]?.getD undef = .int .i64 32) (hd : a.defers = []) (hc : c = edZ) :
    bodyPost Try.prog Try.f9 (EdPost none w) .ret a W := by
  subst hc
  have hl := run_loadVar_row W (w.heap.size + 1) 41 41 edZ (0, 0) _ hk Try.underlying41 rfl (by kernel_rfl)
  refine bodyPost_ret (v := .tuple #[.agg edZ, .int .i64 32]) ?_ hd ⟨rfl, hB⟩
  simp [results, Try.results9, h2, h3, asAddr, hl]
theorem ri_back {w W : World} {a : Act} {c : Array Value} {E : Ed} {u : Value} (hk : Blk W (w.heap.size + 1) c 41) (hB : Below w.heap.size w W) (h2 : a.tmps[2]?.getD undef = .pointer (some ⟨w.heap.size + 1, 0, none⟩)) (h3 : a.tmps[3]?.getD undef = .int .i64 0) (hd : a.defers = []) (hc : c = edC E u) (ho : W.ownsRow w.heap.size 45 2 u E.opts.length (opVs E.opts)) :
    bodyPost Try.prog Try.f9 (EdPost (some E) w) .ret a W := by
  subst hc
  have hl := run_loadVar_row W (w.heap.size + 1) 41 41 (edC E u) (0, 0) _ hk Try.underlying41 rfl (by kernel_rfl)
  refine bodyPost_ret (v := .tuple #[.agg (edC E u), .int .i64 0]) ?_ hd ⟨⟨_, rfl, ho⟩, hB⟩
  simp [results, Try.results9, h2, h3, asAddr, hl]

theorem rv_drop {w : World} {b off : Nat} {xs : List Rr} {cap : Nat} (h : CRow w (.slice (some ⟨b, off, none⟩) xs.length cap) xs.length 5 (rvVs xs)) (k : Nat) (hk : k ≤ xs.length) :
    CRow w (.slice (some ⟨b, off + k * 5, none⟩) (xs.drop k).length (cap - k)) (xs.drop k).length 5 (rvVs (xs.drop k)) := by
  obtain ⟨hl, a, c, e, hcap, hmx, hc⟩ := h
  cases e
  refine ⟨by rw [rvVs_len], _, _, rfl, by rw [List.length_drop]; omega, by omega, fun hp => ⟨b, off + k * 5, rfl, ?_⟩⟩
  rw [List.length_drop] at hp
  obtain ⟨b', off', e, hcell⟩ := hc (by omega)
  cases e
  intro i y hy
  have e2 : rvVs xs = rvVs (xs.take k) ++ rvVs (xs.drop k) := by
    conv => lhs; rw [← List.take_append_drop k xs]
    simp only [rvVs, List.flatMap_append]
  have e3 : (rvVs (xs.take k)).length = k * 5 := by rw [rvVs_len, List.length_take, Nat.min_eq_left hk]
  have := hcell (k * 5 + i) y (by rw [e2, List.getElem?_append_right (by omega), e3, Nat.add_sub_cancel_left]; exact hy)
  rw [← Nat.add_assoc] at this
  exact this

set_option maxRecDepth 100000 in
set_option maxHeartbeats 3200000 in
theorem implReadEdns_any (m : Mg) (q a u x : Value) (w : World) (h : MRow w m q a u x) (hl : m.an.length ≤ 1048576 ∧ m.au.length ≤ 1048576 ∧ m.ex.length ≤ 1048576) (hd : ∀ r ∈ m.ex, r.ty = 41 → r.da.size ≤ 1048576) :
    Calls Try.prog 9 #[.agg (mgV m.hd q a u x)] w (EdPost (edR m) w) := by
  obtain ⟨xq, yq, rfl⟩ : ∃ b c, q = .slice b m.qs.length c := by obtain ⟨_, b, c, e, _⟩ := h.rq; exact ⟨b, c, e⟩
  obtain ⟨xa, ya, rfl⟩ : ∃ b c, a = .slice b m.an.length c := by obtain ⟨_, b, c, e, _⟩ := h.ra; exact ⟨b, c, e⟩
  obtain ⟨xu, yu, rfl⟩ : ∃ b c, u = .slice b m.au.length c := by obtain ⟨_, b, c, e, _⟩ := h.ru; exact ⟨b, c, e⟩
  obtain ⟨xx, yx, rfl⟩ : ∃ b c, x = .slice b m.ex.length c := by obtain ⟨_, b, c, e, _⟩ := h.rx; exact ⟨b, c, e⟩
  have hB0 := (Below.refl w.heap.size w).alloc (Nat.le_refl _) (.cells (mgV m.hd (.slice xq m.qs.length yq) (.slice xa m.an.length ya) (.slice xu m.au.length yu) (.slice xx m.ex.length yx)) 37)
  have hB1 := hB0.alloc hB0.size (.cells edZ 41)
  have kM := blk_alloc (blk_new w (mgV m.hd (.slice xq m.qs.length yq) (.slice xa m.an.length ya) (.slice xu m.au.length yu) (.slice xx m.ex.length yx)) 37) (.cells edZ 41)
  have kE := blk_new (w.alloc (.cells (mgV m.hd (.slice xq m.qs.length yq) (.slice xa m.an.length ya) (.slice xu m.au.length yu) (.slice xx m.ex.length yx)) 37)) edZ 41
  rw [World.size_alloc] at kE
  have hca := hasOPT_any _ m.an _ (h.ra.below hB1)
  have hcu := fun W (hW : Below w.heap.size w W) => hasOPT_any _ m.au _ (h.ru.below hW)
  have hix := fun W (hW : Below w.heap.size w W) => indexOPT_any _ m.ex _ (h.rx.below hW)
  have hex := fun W (hW : Below w.heap.size w W) => h.rx.below hW
  obtain ⟨EDR, hEDR⟩ : ∃ R, R = edR m := ⟨_, rfl⟩
  rw [← hEDR]
  rw [edR] at hEDR
  have HXC := opI_cases m.ex
  generalize cntR m.an 41 = A at *
  generalize cntR m.au 41 = U at *
  simp only [mgV, edZ] at *
  clear h
  have cM := (blk_cell kM 12).trans rfl
  by_cases hA : 0 < A
  · rw [if_pos (.inl (by omega))] at hEDR
    subst hEDR
    rw [decide_eq_true hA] at hca
    clear hcu hix hex HXC
    go_enter Try.func9, Try.ntmps9
    go_wp2_with fail
    refine hca.mono ?_
    rintro e w1 ⟨rfl, b1⟩
    have kE1 := blk_below kE b1
    have hb1 := Nm.below_two hB1 b1
    go_wp2_with ((refine wpList_store_blk (.tmp 2) (.tmp 16) 41 rfl rfl rfl (w.heap.size + 1) _ _ kE1 rfl rfl (by kernel_rfl) rfl (by kernel_rfl) ?_; intro wz kz oz))
    exact ri_bad kz (oz.below hb1 (by omega) hb1.size) rfl rfl rfl rfl
  · rw [decide_eq_false hA] at hca
    by_cases hU : 0 < U
    · rw [if_pos (.inl (by omega))] at hEDR
      subst hEDR
      clear hix hex HXC
      go_enter Try.func9, Try.ntmps9
      go_wp2_with fail
      refine hca.mono ?_
      rintro e w1 ⟨rfl, b1⟩
      have kE1 := blk_below kE b1
      have kM1 := blk_below kM b1
      have hb1 := Nm.below_two hB1 b1
      have cM1 := (blk_cell kM1 13).trans rfl
      have hcu1 := hcu _ hb1
      rw [decide_eq_true hU] at hcu1
      clear kE kM b1 hca cM hcu
      go_wp2_with fail
      refine hcu1.mono ?_
      rintro e w2 ⟨rfl, b2⟩
      have kE2 := blk_below kE1 b2
      have hb2 := Nm.below_two hb1 b2
      go_wp2_with ((refine wpList_store_blk (.tmp 2) (.tmp 16) 41 rfl rfl rfl (w.heap.size + 1) _ _ kE2 rfl rfl (by kernel_rfl) rfl (by kernel_rfl) ?_; intro wz kz oz))
      exact ri_bad kz (oz.below hb2 (by omega) hb2.size) rfl rfl rfl rfl
    · have HED := Nm.hide hEDR
      clear hEDR
      go_enter Try.func9, Try.ntmps9
      go_wp2_with fail
      refine hca.mono ?_
      rintro e w1 ⟨rfl, b1⟩
      have kE1 := blk_below kE b1
      have kM1 := blk_below kM b1
      have hb1 := Nm.below_two hB1 b1
      have cM1 := (blk_cell kM1 13).trans rfl
      have hcu1 := hcu _ hb1
      rw [decide_eq_false hU] at hcu1
      clear kE kM b1 hca cM hcu
      go_wp2_with fail
      refine hcu1.mono ?_
      rintro e w2 ⟨rfl, b2⟩
      have kE2 := blk_below kE1 b2
      have kM2 := blk_below kM1 b2
      have hb2 := Nm.below_two hb1 b2
      have cM2 := (blk_cell kM2 14).trans rfl
      have hix2 := hix _ hb2
      clear kE1 kM1 b2 hcu1 cM1 hb1
      rcases HXC with ⟨e1, e2, e3⟩ | ⟨k, r, hk, hrk, hty, e1, e3, e2⟩
      · rw [e1] at hix2
        have HE : Hid (EDR = some ed0) := by
          show _ = _
          rw [HED.out, if_neg (by omega), e3]
        clear e1 e2 e3 HED
        go_wp2_with fail
        refine hix2.mono ?_
        rintro e w3 ⟨rfl, b3⟩
        have kE3 := blk_below kE2 b3
        have hb3 := Nm.below_two hb2 b3
        go_wp2_with ((refine wpList_store_blk (.tmp 2) (.tmp 22) 41 rfl rfl rfl (w.heap.size + 1) _ _ kE3 rfl rfl (by kernel_rfl) rfl (by kernel_rfl) ?_; intro wz kz oz))
        rw [HE.out]
        exact ri_back (u := .slice none 0 0) kz (oz.below hb3 (by omega) hb3.size) rfl rfl rfl rfl ⟨rfl, .inl ⟨rfl, rfl⟩⟩
      · rw [e1] at hix2
        have hrd := hd r (List.mem_of_getElem? hrk) hty
        have i1 : ¬ (k : Int) < 0 := by omega
        have i2 : (0 : Int) ≤ (k : Int) := by omega
        have i3 : (k : Int) < (m.ex.length : Int) := by omega
        have HC := Nm.hide e2
        have HF := Nm.hide e3
        have HRK := Nm.hide hrk
        clear e1 e2 e3
        go_wp2_with fail
        refine hix2.mono ?_
        rintro e w3 ⟨rfl, b3⟩
        have kE3 := blk_below kE2 b3
        have kM3 := blk_below kM2 b3
        have hb3 := Nm.below_two hb2 b3
        have cM3 := (blk_cell kM3 14).trans rfl
        have hx3 := hex _ hb3
        obtain ⟨_, a', c', e', hcap, hmx, hcc⟩ := hx3
        cases e'
        obtain ⟨b, off, rfl, hcell⟩ := hcc (by omega)
        obtain ⟨c0, c1, c2, c3, c4⟩ := rv_cells hcell hrk
        have hdp := fun W (hW : Below w.heap.size w W) => rv_drop (hex W hW) (k + 1) (by omega)
        have hcd : ∀ W v, CRow W v (m.ex.drop (k + 1)).length 5 (rvVs (m.ex.drop (k + 1))) → _ := fun W v hv => hasOPT_any v _ W hv
        have hBr := (Below.refl w3.heap.size w3).alloc (Nat.le_refl _) (.cells #[.string r.own, .int .i64 r.ty, .int .i64 r.cl, .int .i64 r.tt, .string r.da] 27)
        have kEr := blk_below kE3 hBr
        have kMr := blk_below kM3 hBr
        have hbr := Nm.below_two hb3 hBr
        have kr := blk_new w3 #[.string r.own, .int .i64 r.ty, .int .i64 r.cl, .int .i64 r.tt, .string r.da] 27
        have hop := readOptions_any r.da (w3.alloc (.cells #[.string r.own, .int .i64 r.ty, .int .i64 r.cl, .int .i64 r.tt, .string r.da] 27)) hrd
        unfold OpPost at hop
        clear hcell hcc hrk b3 hix2 hix kE2 kM2 cM2 hb2 hBr kE3 kM3 hex hd
        obtain ⟨o, ty, cl, tt, da⟩ := r
        simp only at *
        subst hty
        cases hor : optR da.data.toList with
        | none =>
          rw [hor] at hop
          have HE : Hid (EDR = none) := by
            show _ = _
            rw [HED.out, HF.out]
            split
            · rfl
            · simp only [hor]
          clear hor hcd hdp
          go_wp2_with fail
          refine hop.mono ?_
          rintro e w5 ⟨rfl, b5⟩
          have kE5 := blk_below kEr b5
          have hb5 := Nm.below_two hbr b5
          clear hop b5 c0 c1 c2 c3 c4
          go_wp2_with ((refine wpList_store_blk (.tmp 2) (.tmp 49) 41 rfl rfl rfl (w.heap.size + 1) _ _ kE5 rfl rfl (by kernel_rfl) rfl (by kernel_rfl) ?_; intro wz kz oz))
          rw [HE.out]
          exact ri_bad kz (oz.below hb5 (by omega) hb5.size) rfl rfl rfl rfl
        | some os =>
          rw [hor] at hop
          go_wp2_with fail
          refine hop.mono ?_
          rintro e w5 ⟨⟨v5, rfl, o5⟩, b5⟩
          have kE5 := blk_below kEr b5
          have kM5 := blk_below kMr b5
          have hb5 := Nm.below_two hbr b5
          have kr5 := blk_below kr b5
          have r5 := fun i => blk_cell kr5 i
          obtain ⟨x5, y5, rfl⟩ := own_sl o5
          have ho5 := own_base o5 (by have := hbr.size; omega : w.heap.size ≤ _)
          clear hop b5 c0 c1 c2 c3 c4 kEr kMr hbr kr o5
          by_cases ho0 : o.data.toList = [0]
          · have q1 : (o.toList == [0]) = true := by rw [ByteArray.toList_eq, ho0]; rfl
            have q2 : (o.toList != [0]) = false := by rw [ByteArray.toList_eq, ho0]; rfl
            have cM5 := (blk_cell kM5 14).trans rfl
            have hcd5 := hcd w5
            have hrA := hdp _ hb5
            have hrB : yx ≤ k + 1 → CRow w5 (.slice (some ⟨b, off, none⟩) (m.ex.drop (k + 1)).length 0) (m.ex.drop (k + 1)).length 5 (rvVs (m.ex.drop (k + 1))) := fun hy => by
              have h0 : (m.ex.drop (k + 1)).length = 0 := by rw [List.length_drop]; omega
              exact ⟨by rw [rvVs_len], _, _, rfl, by omega, by decide, fun hp => by omega⟩
            have HO := Nm.hide ho5
            have i4 : (0 : Int) ≤ (k : Int) + 1 := by omega
            have i5 : (k : Int) + 1 ≤ (m.ex.length : Int) := by omega
            have i6 : (m.ex.length : Int) ≤ (yx : Int) := by omega
            have hln : (m.ex.drop (k + 1)).length = m.ex.length - (k + 1) := List.length_drop
            rw [hln] at hcd5 hrA hrB
            have HH : Hid (EDR = if 0 < cntR (m.ex.drop (k + 1)) 41 then none else some ⟨true, cl, verI tt, flgI tt, os⟩) := by
              show _ = _
              have e2 := HC.out
              by_cases hD : 0 < cntR (m.ex.drop (k + 1)) 41
              · rw [if_pos hD, HED.out, if_pos (.inr (by omega))]
              · rw [if_neg hD, HED.out, if_neg (by omega), HF.out]
                simp only [hor]
                rw [if_pos ho0]
            generalize cntR (m.ex.drop (k + 1)) 41 = DC at *
            clear HED HC HF hor ho0 hln hcd ho5 hdp
            have HrA := Nm.hide hrA
            have HrB := Nm.hide hrB
            clear hrA hrB
            by_cases hD : 0 < DC
            · rw [if_pos hD] at HH
              rw [decide_eq_true hD] at hcd5
              go_wp2_with fail
              all_goals (
                refine (hcd5 _ (by first | exact HrA.out | exact HrB.out (by omega))).mono ?_
                rintro e w6 ⟨rfl, b6⟩
                have kE6 := blk_below kE5 b6
                have hb6 := Nm.below_two hb5 b6
                clear hcd5 b6 r5 cM5
                go_wp2_with ((refine wpList_store_blk (.tmp 2) (.tmp 49) 41 rfl rfl rfl (w.heap.size + 1) _ _ kE6 rfl rfl (by kernel_rfl) rfl (by kernel_rfl) ?_; intro wz kz oz))
                rw [HH.out]
                exact ri_bad kz (oz.below hb6 (by omega) hb6.size) rfl rfl rfl rfl)
            · rw [if_neg hD] at HH
              rw [decide_eq_false hD] at hcd5
              go_wp2_with fail
              all_goals (
                refine (hcd5 _ (by first | exact HrA.out | exact HrB.out (by omega))).mono ?_
                rintro e w6 ⟨rfl, b6⟩
                have kE6 := blk_below kE5 b6
                have hb6 := Nm.below_two hb5 b6
                have r6 := fun i => blk_cell (blk_below kr5 b6) i
                have HO6 := Nm.hide (own_below HO.out b6)
                clear hcd5 b6 r5 cM5 HO
                go_wp2_with ((refine wpList_store_blk (.tmp 2) (.tmp 60) 41 rfl rfl rfl (w.heap.size + 1) _ _ kE6 rfl rfl (by kernel_rfl) rfl (by kernel_rfl) ?_; intro wz kz oz))
                rw [HH.out]
                exact ri_back kz (oz.below hb6 (by omega) hb6.size) rfl rfl rfl rfl (own_only2 HO6.out oz kE6))
          · have q1 : (o.toList == [0]) = false := by rw [ByteArray.toList_eq]; simpa using ho0
            have q2 : (o.toList != [0]) = true := by rw [ByteArray.toList_eq]; simpa using ho0
            have HE : Hid (EDR = none) := by
              show _ = _
              rw [HED.out, HF.out]
              split
              · rfl
              · simp only [hor]
                rw [if_neg ho0]
            clear hcd hor ho0 ho5 hdp
            go_wp2_with ((refine wpList_store_blk (.tmp 2) (.tmp 49) 41 rfl rfl rfl (w.heap.size + 1) _ _ kE5 rfl rfl (by kernel_rfl) rfl (by kernel_rfl) ?_; intro wz kz oz))
            rw [HE.out]
            exact ri_bad kz (oz.below hb5 (by omega) hb5.size) rfl rfl rfl rfl
end Go.Proofs.Ythhagapmcbkeiaa
