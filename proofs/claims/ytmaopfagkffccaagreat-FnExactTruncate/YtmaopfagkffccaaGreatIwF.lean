import Derived.Test.YtmaopfagkffccaaGreatJICheck
/- (impl.Message).fits by its contract. -/
namespace Go.Proofs.YtmaopfagkffccaaGreat
open Go.RowKit
set_option linter.unusedVariables false

theorem rrWs_ge : ∀ (l : List Rr) (s : Wst), l.all rcOK = true → s.1.length ≤ (rrWs l s).1.length := by
  intro l
  induction l with
  | nil => intro s h; simp [rrWs]
  | cons r l ih =>
    intro s h
    simp only [List.all_cons, Bool.and_eq_true] at h
    rw [rrWs_cons]
    have a := ih (rrW r s) h.2
    have b := (rrW_len h.1 s).1
    omega
theorem lsW_ge (m : Mg) (h : ∀ j, j < 3 → (lsOf m j).all rcOK = true) (j : Nat) (hj : j ≤ 3) (s : Wst) : s.1.length ≤ (lsW m j s).1.length := by
  have h0 := h 0 (by decide)
  have h1 := h 1 (by decide)
  have h2 := h 2 (by decide)
  simp only [lsOf] at h0 h1 h2
  rcases j with _ | _ | _ | _ | j
  · have a := rrWs_ge m.an s h0
    have b := rrWs_ge m.au (rrWs m.an s) h1
    have c := rrWs_ge m.ex (rrWs m.au (rrWs m.an s)) h2
    simp only [lsW]; omega
  · have b := rrWs_ge m.au s h1
    have c := rrWs_ge m.ex (rrWs m.au s) h2
    simp only [lsW]; omega
  · have c := rrWs_ge m.ex s h2
    simp only [lsW]; omega
  · simp only [lsW]; omega
  · omega

set_option maxRecDepth 100000 in
set_option maxHeartbeats 3200000 in
theorem fits_any (m : Mg) (q a u x : Value) (w : World) (hrow : MRow w m q a u x) (hm : MSmall m) (hmg : mgOK m = true) (N : Int) :
    Calls Tryz.prog 21 #[.agg (mgV m.hd q a u x), .int .i64 N] w fun e w' => e = .returned (.bool (decide (((msgW m).1.length : Int) ≤ N))) ∧ Below w.heap.size w w' := by
  have hmg' := hmg
  simp only [mgOK, Bool.and_eq_true, decide_eq_true_eq] at hmg
  obtain ⟨⟨⟨⟨⟨hsm, hhd⟩, hqs⟩, han⟩, hau⟩, hex⟩ := hmg
  have hall : ∀ j, j < 3 → (lsOf m j).all rcOK = true := by
    intro j hj
    rcases j with _ | _ | _ | j <;> simp only [lsOf] <;> first | assumption | omega
  have hla := fun j hj => list_at hrow hm j hj
  have hli := fun W => lists_any (n1 := m.qs.length) (n2 := m.an.length) (n3 := m.au.length) (n4 := m.ex.length) m.hd q a u x W (by obtain ⟨_, b, c, e, _⟩ := hrow.rq; exact ⟨b, c, e⟩) (by obtain ⟨_, b, c, e, _⟩ := hrow.ra; exact ⟨b, c, e⟩) (by obtain ⟨_, b, c, e, _⟩ := hrow.ru; exact ⟨b, c, e⟩) (by obtain ⟨_, b, c, e, _⟩ := hrow.rx; exact ⟨b, c, e⟩)
  have HRES : Hid (lsW m 0 (qqWs m.qs (hdW m, [])) = msgW m) := rfl
  have hlw := lsW_step m
  have hlw3 : ∀ s, lsW m 3 s = s := fun s => rfl
  have hln := lsN_step m
  have hge := lsW_ge m hall
  have hl0 : lsN m 0 + m.qs.length ≤ 400 := by simp only [lsN]; omega
  have hbg := fun (W : World) (hb : Below w.heap.size w W) => beginMessage_any m q a u x W ⟨hrow.rq.below hb, hrow.ra.below hb, hrow.ru.below hb, hrow.rx.below hb⟩ hm hmg'
  generalize msgW m = RES at *
  generalize qqWs m.qs (hdW m, []) = ST at *
  generalize lsOf m = LS at *
  generalize lsW m = LW at *
  generalize lsN m = LN at *
  obtain ⟨_, qa, qc, rfl, hqcap, hqmx, hqc⟩ := hrow.rq
  obtain ⟨_, aa', ac, rfl, _⟩ := hrow.ra
  obtain ⟨_, ua, uc, rfl, _⟩ := hrow.ru
  obtain ⟨_, xa, xc, rfl, _⟩ := hrow.rx
  unfold maxLen at hqmx
  clear hrow hhd hm han hau hex
  obtain ⟨⟨i0, b1, i2, b3, b4, b5, b6, b7, b8, b9, i10⟩, qs, an, au, ex⟩ := m
  simp only [mgV] at *
  go_enter Tryz.func21, Tryz.ntmps21
  have kM := blk_new w #[.int .i64 i0, .bool b1, .int .i64 i2, .bool b3, .bool b4, .bool b5, .bool b6, .bool b7, .bool b8, .bool b9, .int .i64 i10, .slice qa qs.length qc, .slice aa' an.length ac, .slice ua au.length uc, .slice xa ex.length xc] 33
  have bM := (Below.refl w.heap.size w).alloc (Nat.le_refl _) (.cells #[.int .i64 i0, .bool b1, .int .i64 i2, .bool b3, .bool b4, .bool b5, .bool b6, .bool b7, .bool b8, .bool b9, .int .i64 i10, .slice qa qs.length qc, .slice aa' an.length ac, .slice ua au.length uc, .slice xa ex.length xc] 33)
  have hb0 := hbg _ bM
  rw [World.size_alloc] at hb0
  have rr := fun i => blk_cell kM i
  have hqc' := hqc
  clear hqc hqc' hbg
  go_wp2_with (
    go_at_call 47
    refine hb0.mono ?_
    rintro e w1 ⟨rfl, vb1, hM1, k1, hok1, hbd1⟩
    have kM1 := k1.kp _ _ _ kM (by decide) (by decide)
    have hB1 : w.heap.size + 1 ≤ w1.heap.size := by (have := k1.be.size; rw [World.size_alloc] at this; exact this)
    have rr1 := fun i => blk_cell kM1 i)
  all_goals skip
  refine (hli _).mono ?_
  rintro e w2 ⟨rfl, hb2⟩
  have hM2 := hM1.below hb2
  have hB2 := Nat.le_trans hB1 hb2.size
  have k2 : Bp w.heap.size w w2 := (Bp.of bM (Nat.le_refl _)).trans (((⟨k1.be.mono (Nat.le_succ _), k1.kp⟩ : Bp w.heap.size _ _)).trans (Bp.of hb2 (by omega)))
  have hbd2 : ST.1.length + 65800 * LN 0 ≤ 50000000 - 80000 := by omega
  clear rr rr1 kM kM1 hb2 hli hM1 hB1 hb0 bM hbd1 hl0
  go_wp2_with fail
  go_loopw [14] (fun i wr => ∃ (j : Nat) (st : Wst) (vb' : Value), j ≤ 3 ∧ i = .int .i64 j ∧ PM wr (w.heap.size + 1 + 1 + 1) (w.heap.size + 1) (w.heap.size + 1 + 1) st.1 st.2 vb' ∧ w.heap.size + 1 ≤ wr.heap.size ∧ Bp w.heap.size w wr ∧ PlOK st.2 st.1.length ∧ st.1.length + 65800 * LN j ≤ 50000000 - 80000 ∧ Hid (LW j st = RES)) (fun i _ => 3 - (intOf i).toNat)
  case atStart => exact ⟨0, ST, vb1, by omega, rfl, hM2, hB2, k2, hok1, hbd2, HRES⟩
  case round =>
    obtain ⟨j, st, vb', hj, rfl, hM, hBr, hbel, hok, hbd, HR⟩ := hrel
    clear hM2 hB2 k2 hbd2 HRES
    by_cases hlt : j < 3
    · obtain ⟨la, lc, hrow, hsz, hlen, hidx⟩ := hla j hlt
      obtain ⟨_, _, _, hv, hcap, hmx, hc⟩ := hrow
      simp only [Value.slice.injEq] at hv
      obtain ⟨rfl, _, rfl⟩ := hv
      unfold maxLen at hmx
      have i1 : (0 : Int) ≤ (j : Int) := by omega
      have i2 : (j : Int) < 3 := by omega
      have hal := hall j hlt
      have HR1 : Hid (LW (j + 1) (rrWs ((LS j).drop 0) st) = RES) := by
        show _ = _
        rw [List.drop_zero, ← hlw j hlt]
        exact HR.out
      have hn := hln j hlt
      clear hsz HR
      generalize LS j = xs at *
      have hbd1 : st.1.length + 65800 * (xs.length + LN (j + 1)) ≤ 50000000 - 80000 := by omega
      clear hbd
      go_wp2
      obtain ⟨wb, hwb⟩ : ∃ wb, wb = wr := ⟨wr, rfl⟩
      subst hwb
      go_loopw [19] (fun i wr => ∃ (k : Nat) (st : Wst) (vb' : Value), k ≤ xs.length ∧ i = .int .i64 k ∧ PM wr (w.heap.size + 1 + 1 + 1) (w.heap.size + 1) (w.heap.size + 1 + 1) st.1 st.2 vb' ∧ w.heap.size + 1 ≤ wr.heap.size ∧ Bp w.heap.size w wr ∧ PlOK st.2 st.1.length ∧ st.1.length + 65800 * (xs.length - k + LN (j + 1)) ≤ 50000000 - 80000 ∧ Hid (LW (j + 1) (rrWs (xs.drop k) st) = RES)) (fun i _ => xs.length - (intOf i).toNat)
      case atStart => exact ⟨0, st, vb', Nat.zero_le _, rfl, hM, hBr, hbel, hok, by omega, HR1⟩
      case round =>
        obtain ⟨k, st, vb', hk, rfl, hM, hBr, hbel, hok, hbd, HR⟩ := hrel
        clear HR1
        by_cases hlk : k < xs.length
        · obtain ⟨r, hrk⟩ : ∃ r, xs[k]? = some r := ⟨_, List.getElem?_eq_getElem hlk⟩
          obtain ⟨b, off, rfl, hcell⟩ := hc (by omega)
          obtain ⟨c0, c1, c2, c3, c4⟩ := rv_cells hcell hrk
          have put : ∀ {O : Nat} {z : Value}, w.cell? ⟨b, O, none⟩ = some z → wr.cell? ⟨b, O, none⟩ = some z := fun h => (hbel.be.cell (World.block_lt_of_cell? w _ h)).trans h
          replace c0 := put c0
          replace c1 := put c1
          replace c2 := put c2
          replace c3 := put c3
          replace c4 := put c4
          have hro := all_at hal hrk
          have hrl := rrW_len hro st
          have hrk' := rrW_ok r st hok
          obtain ⟨_, ⟨t, pt, ptl⟩, ⟨c, pc, pcl⟩, _⟩ := rc_parts hro
          have HR2 : Hid (LW (j + 1) (rrWs (xs.drop (k + 1)) (rrW r st)) = RES) := by
            show _ = _
            rw [← HR.out, drop_at hrk, rrWs_cons]
          obtain ⟨o, ty, cl, tt, da⟩ := r
          simp only at c0 c1 c2 c3 c4 pt pc
          subst pt pc
          have hbA := (Below.refl wr.heap.size wr).alloc (Nat.le_refl _) (.cells #[.string o, .int .i64 (t : Int), .int .i64 (c : Int), .int .i64 tt, .string da] 72)
          have hM2 := hM.below hbA
          have hB2 := Nat.le_trans hBr hbA.size
          have k2 := hbel.trans (Bp.of hbA (Nat.le_of_succ_le hBr))
          have hrec := record_w_any o t c tt da hro _ _ _ st.1 st.2 vb' _ hM2 hB2 (by omega) hok
          have j1 : (0 : Int) ≤ (k : Int) := by omega
          have j3 : (k : Int) < (xs.length : Int) := by omega
          obtain ⟨xb, yb, hv⟩ := own_sl hM.pw.rb
          subst hv
          have cW := (blk_cell hM2.pw.blk 0).trans rfl
          by_cases hN : N < (st.1.length : Int)
          · have HE : Hid (decide ((RES.1.length : Int) ≤ N) = false) := by
              show _ = _
              have g1 := rrWs_ge (xs.drop k) st (by rw [List.all_eq_true] at hal ⊢; exact fun y hy => hal y (List.mem_of_mem_drop hy))
              have g2 := hge (j + 1) (by omega) (rrWs (xs.drop k) st)
              rw [HR.out] at g2
              rw [decide_eq_false_iff_not]
              omega
            clear hcell hc hrk HR hla hall hlw hln hM hbel hal hidx hge hrec
            go_wp2
            go_ret
            rw [HE.out]
            exact ⟨rfl, k2.be⟩
          have hN2 : ¬ N < (st.1.length : Int) := hN
          clear hcell hc hrk HR hla hall hlw hln hM hbel hal hidx hge
          go_wp2_with (
            go_at_call 48
            refine hrec.mono ?_
            rintro e w3 ⟨rfl, vb3, hM3, k3⟩)
          go_roundw
          case rel => exact ⟨k + 1, rrW ⟨o, t, c, tt, da⟩ st, vb3, by omega, by go_num, hM3, Nat.le_trans hB2 k3.be.size, k2.trans ⟨k3.be.mono (Nat.le_succ _), k3.kp⟩, hrk', by have := hrl.2; omega, HR2⟩
          case measure => simp [intOf]; omega
        · obtain rfl : k = xs.length := by omega
          have j3 : (xs.length : Int) ≤ (xs.length : Int) := by omega
          have HR2 : Hid (LW (j + 1) st = RES) := by
            have := HR.out
            rwa [List.drop_length] at this
          clear HR hc hal hidx hla hall hlw hln hge
          go_wp2
          go_roundw
          case rel => exact ⟨j + 1, st, vb', by omega, by go_num, hM, hBr, hbel, hok, by omega, HR2⟩
          case measure => simp [intOf]; omega
    · obtain rfl : j = 3 := by omega
      obtain rfl : RES = st := by rw [← HR.out]; exact hlw3 st
      clear HR hla hall hlw hln hge
      obtain ⟨xb, yb, hv⟩ := own_sl hM.pw.rb
      subst hv
      have c0 : wr.cell? ⟨w.heap.size + 1 + 1 + 1, 0, none⟩ = some (.slice xb RES.1.length yb) := (blk_cell hM.pw.blk 0).trans rfl
      by_cases hN : (RES.1.length : Int) ≤ N
      · go_wp2
        go_ret
        rw [decide_eq_true hN]
        exact ⟨rfl, hbel.be⟩
      · go_wp2
        go_ret
        rw [decide_eq_false (by omega)]
        exact ⟨rfl, hbel.be⟩
end Go.Proofs.YtmaopfagkffccaaGreat
