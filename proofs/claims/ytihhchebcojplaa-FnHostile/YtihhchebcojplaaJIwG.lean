import Derived.Test.YtihhchebcojplaaJCpS
/- impl.beginMessage by its contract. -/
namespace Go.Proofs.Ytihhchebcojplaa
open Go.RowKit
set_option linter.unusedVariables false

theorem PlOK_nil (n : Nat) : PlOK [] n := ⟨Nat.zero_le _, fun p hp => by cases hp⟩
theorem hdW_len (m : Mg) : (hdW m).length = 12 := by rw [hdW, headL_len]; rfl
theorem qqWs_len : ∀ (l : List Qr) (s : Wst), l.all quOK = true → s.1.length ≤ (qqWs l s).1.length ∧ (qqWs l s).1.length ≤ s.1.length + 65800 * l.length := by
  intro l
  induction l with
  | nil => intro s h; simp [qqWs]
  | cons r l ih =>
    intro s h
    simp only [List.all_cons, Bool.and_eq_true] at h
    rw [qqWs_cons]
    have a := ih (qqW r s) h.2
    have b := qqW_len h.1 s
    simp only [List.length_cons]
    omega
theorem all_at {α : Type} {f : α → Bool} {l : List α} {k : Nat} {x : α} (h : l.all f = true) (hx : l[k]? = some x) : f x = true := List.all_eq_true.1 h x (List.mem_of_getElem? hx)
theorem drop_at {α : Type} {l : List α} {k : Nat} {x : α} (hx : l[k]? = some x) : l.drop k = x :: l.drop (k + 1) := by
  obtain ⟨h1, h2⟩ := List.getElem?_eq_some_iff.1 hx
  rw [List.drop_eq_getElem_cons h1, h2]
/-- The lists of records from the j-th on. -/
def lsW (m : Mg) : Nat → Wst → Wst
  | 0, s => rrWs m.ex (rrWs m.au (rrWs m.an s))
  | 1, s => rrWs m.ex (rrWs m.au s)
  | 2, s => rrWs m.ex s
  | _, s => s
theorem lsW_step (m : Mg) (j : Nat) (hj : j < 3) (s : Wst) : lsW m j s = lsW m (j + 1) (rrWs (lsOf m j) s) := by
  rcases j with _ | _ | _ | j
  · rfl
  · rfl
  · rfl
  · omega
/-- How many records there are from the j-th list on. -/
def lsN (m : Mg) : Nat → Nat
  | 0 => m.an.length + m.au.length + m.ex.length
  | 1 => m.au.length + m.ex.length
  | 2 => m.ex.length
  | _ => 0
theorem lsN_step (m : Mg) (j : Nat) (hj : j < 3) : lsN m j = (lsOf m j).length + lsN m (j + 1) := by
  rcases j with _ | _ | _ | j
  · simp [lsN, lsOf]; omega
  · simp [lsN, lsOf]
  · simp [lsN, lsOf]
  · omega
theorem one_new (w : World) (c1 c3 : Array Value) (T1 T3 : TypeId) : Blk (((w.alloc (.cells c1 T1)).alloc (.map #[] 0)).alloc (.cells c3 T3)) w.heap.size c1 T1 ∧ SMap (((w.alloc (.cells c1 T1)).alloc (.map #[] 0)).alloc (.cells c3 T3)) (w.heap.size + 1) [] ∧ Blk (((w.alloc (.cells c1 T1)).alloc (.map #[] 0)).alloc (.cells c3 T3)) (w.heap.size + 1 + 1) c3 T3 ∧ Below w.heap.size w (((w.alloc (.cells c1 T1)).alloc (.map #[] 0)).alloc (.cells c3 T3)) := by
  have h1 := blk_new w c1 T1
  have h2 := smap_made (w.alloc (.cells c1 T1))
  have h3 := blk_new ((w.alloc (.cells c1 T1)).alloc (.map #[] 0)) c3 T3
  have e1 : (w.alloc (.cells c1 T1)).heap.size = w.heap.size + 1 := by simp
  have e2 : ((w.alloc (.cells c1 T1)).alloc (.map #[] 0)).heap.size = w.heap.size + 1 + 1 := by simp
  rw [e1] at h2
  rw [e2] at h3
  refine ⟨blk_alloc (blk_alloc h1 _) _, h2.kept ?_, h3, (((Below.refl _ _).alloc (Nat.le_refl _) _).alloc (by simp) _).alloc (by simp; omega) _⟩
  exact ((Below.refl _ _).alloc (Nat.le_refl _) _).block _ h2.lt

set_option maxRecDepth 100000 in
set_option maxHeartbeats 3200000 in
theorem beginMessage_any (m : Mg) (q a u x : Value) (w : World) (hrow : MRow w m q a u x) (hm : MSmall m) (hmg : mgOK m = true) :
    Calls Try.prog 41 #[.agg (mgV m.hd q a u x)] w fun e w' => e = .returned (.pointer (some ⟨w.heap.size + 1 + 1, 0, none⟩)) ∧ ∃ vb, PM w' (w.heap.size + 1 + 1) w.heap.size (w.heap.size + 1) (qqWs m.qs (hdW m, [])).1 (qqWs m.qs (hdW m, [])).2 vb ∧ Bp w.heap.size w w' ∧ PlOK (qqWs m.qs (hdW m, [])).2 (qqWs m.qs (hdW m, [])).1.length ∧ (qqWs m.qs (hdW m, [])).1.length ≤ 12 + 65800 * m.qs.length := by
  simp only [mgOK, Bool.and_eq_true, decide_eq_true_eq] at hmg
  obtain ⟨⟨⟨⟨⟨hsm, hhd⟩, hqs⟩, han⟩, hau⟩, hex⟩ := hmg
  have HRES : Hid (qqWs m.qs (hdW m, []) = qqWs m.qs (hdW m, [])) := rfl
  have hhw := fun (W : World) (hb : Below w.heap.size w W) g r vb (h : PM W g w.heap.size r [] [] vb) (hB : w.heap.size ≤ W.heap.size) => head_w_any m q a u x W ⟨hrow.rq.below hb, hrow.ra.below hb, hrow.ru.below hb, hrow.rx.below hb⟩ hm hhd hsm g w.heap.size r vb h hB
  have hhl := hdW_len m
  generalize hdW m = HW at *
  obtain ⟨RES, eRES⟩ : ∃ R, R = qqWs m.qs (HW, []) := ⟨_, rfl⟩
  rw [← eRES] at HRES ⊢
  have HRS := Nm.hide eRES
  clear HRES eRES
  obtain ⟨_, qa, qc, rfl, hqcap, hqmx, hqc⟩ := hrow.rq
  obtain ⟨_, aa', ac, rfl, _⟩ := hrow.ra
  obtain ⟨_, ua, uc, rfl, _⟩ := hrow.ru
  obtain ⟨_, xa, xc, rfl, _⟩ := hrow.rx
  unfold maxLen at hqmx
  clear hrow hhd hm han hau hex
  obtain ⟨⟨i0, b1, i2, b3, b4, b5, b6, b7, b8, b9, i10⟩, qs, an, au, ex⟩ := m
  simp only [mgV] at *
  go_enter Try.func41, Try.ntmps41
  have hmk : ∀ W : World, (Instr.makeMap 94 none).run Try.prog W = .ok (.map (some W.heap.size)) (W.alloc (.map #[] 0)) := fun W => rfl
  have hone := one_new w #[.int .i64 i0, .bool b1, .int .i64 i2, .bool b3, .bool b4, .bool b5, .bool b6, .bool b7, .bool b8, .bool b9, .int .i64 i10, .slice qa qs.length qc, .slice aa' an.length ac, .slice ua au.length uc, .slice xa ex.length xc] #[.slice none 0 0, .map (some (w.heap.size + 1))] 29 96
  obtain ⟨kM0, sm0, kw0, bW0⟩ := hone
  have hM0 : PM (((w.alloc (.cells #[.int .i64 i0, .bool b1, .int .i64 i2, .bool b3, .bool b4, .bool b5, .bool b6, .bool b7, .bool b8, .bool b9, .int .i64 i10, .slice qa qs.length qc, .slice aa' an.length ac, .slice ua au.length uc, .slice xa ex.length xc] 29)).alloc (.map #[] 0)).alloc (.cells #[.slice none 0 0, .map (some (w.heap.size + 1))] 96)) (w.heap.size + 1 + 1) w.heap.size (w.heap.size + 1) [] [] (.slice none 0 0) := ⟨⟨kw0, World.ownsRow_nil _ _ _ _, by omega⟩, sm0, by omega⟩
  have hh0 := hhw _ bW0 _ _ _ hM0 bW0.size
  have z0 := (blk_cell kM0 0).trans rfl
  have z1 := (blk_cell kM0 1).trans rfl
  have z2 := (blk_cell kM0 2).trans rfl
  have z3 := (blk_cell kM0 3).trans rfl
  have z4 := (blk_cell kM0 4).trans rfl
  have z5 := (blk_cell kM0 5).trans rfl
  have z6 := (blk_cell kM0 6).trans rfl
  have z7 := (blk_cell kM0 7).trans rfl
  have z8 := (blk_cell kM0 8).trans rfl
  have z9 := (blk_cell kM0 9).trans rfl
  have z10 := (blk_cell kM0 10).trans rfl
  have z11 := (blk_cell kM0 11).trans rfl
  have z12 := (blk_cell kM0 12).trans rfl
  have z13 := (blk_cell kM0 13).trans rfl
  have z14 := (blk_cell kM0 14).trans rfl
  clear hhw
  go_wp2_with (
    go_at_call 63
    refine hh0.mono ?_
    rintro e w1 ⟨rfl, vb1, hM1, k1⟩
    have kM1 := k1.kp _ _ _ kM0 (by decide) (by decide)
    have y11 := (blk_cell kM1 11).trans rfl)
  have hB1 : w.heap.size ≤ w1.heap.size := Nat.le_trans bW0.size k1.be.size
  have k01 : Bp w.heap.size w w1 := ⟨bW0.trans k1.be, fun i cs T hb h1 h2 => k1.kp i cs T (blk_below hb bW0) h1 h2⟩
  have HR1 : Hid (qqWs (qs.drop 0) (HW, []) = RES) := HRS.out.symm
  clear hmk hh0 hM0 kw0 sm0 kM0 bW0 k1 HRS z0 z1 z2 z3 z4 z5 z6 z7 z8 z9 z10 z11 z12 z13 z14 y11
  go_loopw [15] (fun i wr => ∃ (j : Nat) (st : Wst) (vb' : Value), j ≤ qs.length ∧ i = .int .i64 j ∧ PM wr (w.heap.size + 1 + 1) w.heap.size (w.heap.size + 1) st.1 st.2 vb' ∧ w.heap.size ≤ wr.heap.size ∧ Bp w.heap.size w wr ∧ Blk wr w.heap.size #[.int .i64 i0, .bool b1, .int .i64 i2, .bool b3, .bool b4, .bool b5, .bool b6, .bool b7, .bool b8, .bool b9, .int .i64 i10, .slice qa qs.length qc, .slice aa' an.length ac, .slice ua au.length uc, .slice xa ex.length xc] 29 ∧ PlOK st.2 st.1.length ∧ st.1.length ≤ 12 + 65800 * j ∧ Hid (qqWs (qs.drop j) st = RES)) (fun i _ => qs.length - (intOf i).toNat)
  case atStart => exact ⟨0, (HW, []), vb1, Nat.zero_le _, rfl, hM1, hB1, k01, kM1, PlOK_nil _, by show HW.length ≤ _; omega, HR1⟩
  case round =>
    obtain ⟨j, st, vb', hj, rfl, hM, hBr, hbel, kM, hok, hbd, HR⟩ := hrel
    clear hM1 hB1 k01 kM1 HR1
    by_cases hlt : j < qs.length
    · obtain ⟨rq, hrk⟩ : ∃ r, qs[j]? = some r := ⟨_, List.getElem?_eq_getElem hlt⟩
      obtain ⟨b, off, rfl, hcell⟩ := hqc (by omega)
      obtain ⟨c0, c1, c2⟩ := qv_cells hcell hrk
      have put : ∀ {O : Nat} {z : Value}, w.cell? ⟨b, O, none⟩ = some z → wr.cell? ⟨b, O, none⟩ = some z := fun h => (hbel.be.cell (World.block_lt_of_cell? w _ h)).trans h
      replace c0 := put c0
      replace c1 := put c1
      replace c2 := put c2
      have hqo := all_at hqs hrk
      obtain ⟨p1, ⟨t, pt, ptl⟩, ⟨c, pc, pcl⟩⟩ := qu_parts hqo
      obtain ⟨ls, hls⟩ := Option.isSome_iff_exists.1 p1
      have hql := qqW_len hqo st
      have hqk := qqW_ok rq st hok
      have HR2 : Hid (qqWs (qs.drop (j + 1)) (qqW rq st) = RES) := by
        show _ = _
        rw [← HR.out, drop_at hrk, qqWs_cons]
      obtain ⟨o, ty, cl⟩ := rq
      simp only at c0 c1 c2 pt pc p1 hls
      subst pt pc
      have HQ1 : Hid ((qqW ⟨o, t, c⟩ st).1 = ((nmX o st).1 ++ put2 t) ++ put2 c) := by show _ = _; simp [qqW]
      have HQ2 : Hid ((qqW ⟨o, t, c⟩ st).2 = (nmX o st).2) := by rfl
      have hnl := nmX_len p1 st
      have hns := name_short p1
      have hkb := blk_new wr #[.string o, .int .i64 (t : Int), .int .i64 (c : Int)] 53
      have hbA := (Below.refl wr.heap.size wr).alloc (Nat.le_refl _) (.cells #[.string o, .int .i64 (t : Int), .int .i64 (c : Int)] 53)
      have hM2 := hM.below hbA
      have hB2 := Nat.le_trans hBr hbA.size
      have k2 := hbel.trans (Bp.of hbA hBr)
      have kM2 := blk_below kM hbA
      have hn1 := name_w_any o ls hls _ _ _ st.1 st.2 vb' _ hM2 hB2 (by omega) hok
      rw [← nmX_of hls st] at hn1
      have hn2 := fun vb W (h : PM W (w.heap.size + 1 + 1) w.heap.size (w.heap.size + 1) (nmX o st).1 (nmX o st).2 vb) (hB : w.heap.size ≤ W.heap.size) => number2_pm t ptl _ _ _ _ _ vb W h hB (by omega)
      have hn3 := fun vb W (h : PM W (w.heap.size + 1 + 1) w.heap.size (w.heap.size + 1) ((nmX o st).1 ++ put2 t) (nmX o st).2 vb) (hB : w.heap.size ≤ W.heap.size) => number2_pm c pcl _ _ _ _ _ vb W h hB (by simp [put2]; omega)
      rw [← HQ1.out] at hn3
      have i1 : (0 : Int) ≤ (j : Int) := by omega
      have i3 : (j : Int) < (qs.length : Int) := by omega
      clear hcell hqc hrk hqs HR hM kM hbel HQ1
      go_wp2_with first
        | (
          go_at_call 64
          refine hn1.mono ?_
          rintro e w3 ⟨rfl, vb3, hM3, k3⟩
          have hB3 := Nat.le_trans hB2 k3.be.size
          have kM3 := k3.kp _ _ _ kM2 (by decide) (by decide)
          have kb3 := k3.kp _ _ _ hkb (by decide) (by decide)
          have x1 := (blk_cell kb3 1).trans rfl)
        | (
          go_at_call 65
          with_reducible refine (hn2 _ _ hM3 hB3).mono ?_
          rintro e w4 ⟨rfl, vb4, hM4, k4⟩
          have hB4 := Nat.le_trans hB3 k4.be.size
          have kM4 := k4.kp _ _ _ kM3 (by decide) (by decide)
          have kb4 := k4.kp _ _ _ kb3 (by decide) (by decide)
          have x2 := (blk_cell kb4 2).trans rfl)
        | (
          go_at_call 65
          with_reducible refine (hn3 _ _ hM4 hB4).mono ?_
          rintro e w5 ⟨rfl, vb5, hM5, k5⟩
          rw [← HQ2.out] at hM5
          have hB5 := Nat.le_trans hB4 k5.be.size
          have kM5 := k5.kp _ _ _ kM4 (by decide) (by decide))
      go_roundw
      case rel => exact ⟨j + 1, _, vb5, by omega, by go_num, hM5, hB5, k2.trans (k3.trans (k4.trans k5)), kM5, hqk, by omega, HR2⟩
      case measure => simp [intOf]; omega
    · obtain rfl : j = qs.length := by omega
      have i3 : (qs.length : Int) ≤ (qs.length : Int) := by omega
      have HR1 : Hid (st = RES) := by
        have := HR.out
        rw [List.drop_length] at this
        exact this
      clear HR hqc hqs
      go_wp2
      go_ret
      rw [← HR1.out]
      exact ⟨rfl, vb', hM, hbel, hok, hbd⟩
end Go.Proofs.Ytihhchebcojplaa
/- impl.messageBytes by its contract. -/
namespace Go.Proofs.Ytihhchebcojplaa
open Go.RowKit
set_option linter.unusedVariables false

set_option maxRecDepth 100000 in
set_option maxHeartbeats 3200000 in
theorem messageBytes_any (m : Mg) (q a u x : Value) (w : World) (hrow : MRow w m q a u x) (hm : MSmall m) (hmg : mgOK m = true) :
    Calls Try.prog 20 #[.agg (mgV m.hd q a u x)] w fun e w' => ∃ v, e = .returned v ∧ w'.ownsRow w.heap.size 5 1 v (msgW m).1.length (Nm.bys (msgW m).1) ∧ Below w.heap.size w w' := by
  have hmg' := hmg
  simp only [mgOK, Bool.and_eq_true, decide_eq_true_eq] at hmg
  obtain ⟨⟨⟨⟨⟨hsm, hhd⟩, hqs⟩, han⟩, hau⟩, hex⟩ := hmg
  have hall : ∀ j, j < 3 → (lsOf m j).all rcOK = true := by
    intro j hj
    rcases j with _ | _ | _ | j <;> simp only [lsOf] <;> first | assumption | omega
  have hla := fun j hj => list_at hrow hm j hj
  have hli := fun W => lists_any (n1 := m.qs.length) (n2 := m.an.length) (n3 := m.au.length) (n4 := m.ex.length) m.hd q a u x W (by obtain ⟨_, b, c, e, _⟩ := hrow.rq; exact ⟨b, c, e⟩) (by obtain ⟨_, b, c, e, _⟩ := hrow.ra; exact ⟨b, c, e⟩) (by obtain ⟨_, b, c, e, _⟩ := hrow.ru; exact ⟨b, c, e⟩) (by obtain ⟨_, b, c, e, _⟩ := hrow.rx; exact ⟨b, c, e⟩)
  have HRES : Hid (lsW m 0 (qqWs m.qs (hdW m, [])) = msgW m) := rfl
  have hlw := lsW_step m
  have hlw3 : ∀ s, lsW m 3 s = s := fun s => rfl
  have hln := lsN_step m
  have hl0 : lsN m 0 + m.qs.length ≤ 400 := by simp only [lsN]; omega
  have hbg := fun (W : World) (hb : Below w.heap.size w W) => beginMessage_any m q a u x W ⟨hrow.rq.below hb, hrow.ra.below hb, hrow.ru.below hb, hrow.rx.below hb⟩ hm hmg'
  generalize msgW m = RES at *
  generalize qqWs m.qs (hdW m, []) = ST at *
  generalize lsOf m = LS at *
  generalize lsW m = LW at *
  generalize lsN m = LN at *
  obtain ⟨_, qa, qc, rfl, hqcap, hqmx, hqc⟩ := hrow.rq
  obtain ⟨_, aa', ac, rfl, _⟩ := hrow.ra
  obtain ⟨_, ua, uc, rfl, _⟩ := hrow.ru
  obtain ⟨_, xa, xc, rfl, _⟩ := hrow.rx
  unfold maxLen at hqmx
  clear hrow hhd hm han hau hex
  obtain ⟨⟨i0, b1, i2, b3, b4, b5, b6, b7, b8, b9, i10⟩, qs, an, au, ex⟩ := m
  simp only [mgV] at *
  go_enter Try.func20, Try.ntmps20
  have kM := blk_new w #[.int .i64 i0, .bool b1, .int .i64 i2, .bool b3, .bool b4, .bool b5, .bool b6, .bool b7, .bool b8, .bool b9, .int .i64 i10, .slice qa qs.length qc, .slice aa' an.length ac, .slice ua au.length uc, .slice xa ex.length xc] 29
  have bM := (Below.refl w.heap.size w).alloc (Nat.le_refl _) (.cells #[.int .i64 i0, .bool b1, .int .i64 i2, .bool b3, .bool b4, .bool b5, .bool b6, .bool b7, .bool b8, .bool b9, .int .i64 i10, .slice qa qs.length qc, .slice aa' an.length ac, .slice ua au.length uc, .slice xa ex.length xc] 29)
  have hb0 := hbg _ bM
  rw [World.size_alloc] at hb0
  have rr := fun i => blk_cell kM i
  have hqc' := hqc
  clear hqc hqc' hbg
  go_wp2_with (
    go_at_call 41
    refine hb0.mono ?_
    rintro e w1 ⟨rfl, vb1, hM1, k1, hok1, hbd1⟩
    have kM1 := k1.kp _ _ _ kM (by decide) (by decide)
    have hB1 : w.heap.size + 1 ≤ w1.heap.size := by (have := k1.be.size; rw [World.size_alloc] at this; exact this)
    have rr1 := fun i => blk_cell kM1 i)
  all_goals skip
  refine (hli _).mono ?_
  rintro e w2 ⟨rfl, hb2⟩
  have hM2 := hM1.below hb2
  have hB2 := Nat.le_trans hB1 hb2.size
  have k2 : Bp w.heap.size w w2 := (Bp.of bM (Nat.le_refl _)).trans (((⟨k1.be.mono (Nat.le_succ _), k1.kp⟩ : Bp w.heap.size _ _)).trans (Bp.of hb2 (by omega)))
  have hbd2 : ST.1.length + 65800 * LN 0 ≤ 50000000 - 80000 := by omega
  clear rr rr1 kM kM1 hb2 hli hM1 hB1 hb0 bM hbd1 hl0
  go_wp2_with fail
  go_loopw [12] (fun i wr => ∃ (j : Nat) (st : Wst) (vb' : Value), j ≤ 3 ∧ i = .int .i64 j ∧ PM wr (w.heap.size + 1 + 1 + 1) (w.heap.size + 1) (w.heap.size + 1 + 1) st.1 st.2 vb' ∧ w.heap.size + 1 ≤ wr.heap.size ∧ Bp w.heap.size w wr ∧ PlOK st.2 st.1.length ∧ st.1.length + 65800 * LN j ≤ 50000000 - 80000 ∧ Hid (LW j st = RES)) (fun i _ => 3 - (intOf i).toNat)
  case atStart => exact ⟨0, ST, vb1, by omega, rfl, hM2, hB2, k2, hok1, hbd2, HRES⟩
  case round =>
    obtain ⟨j, st, vb', hj, rfl, hM, hBr, hbel, hok, hbd, HR⟩ := hrel
    clear hM2 hB2 k2 hbd2 HRES
    by_cases hlt : j < 3
    · obtain ⟨la, lc, hrow, hsz, hlen, hidx⟩ := hla j hlt
      obtain ⟨_, _, _, hv, hcap, hmx, hc⟩ := hrow
      simp only [Value.slice.injEq] at hv
      obtain ⟨rfl, _, rfl⟩ := hv
      unfold maxLen at hmx
      have i1 : (0 : Int) ≤ (j : Int) := by omega
      have i2 : (j : Int) < 3 := by omega
      have hal := hall j hlt
      have HR1 : Hid (LW (j + 1) (rrWs ((LS j).drop 0) st) = RES) := by
        show _ = _
        rw [List.drop_zero, ← hlw j hlt]
        exact HR.out
      have hn := hln j hlt
      clear hsz HR
      generalize LS j = xs at *
      have hbd1 : st.1.length + 65800 * (xs.length + LN (j + 1)) ≤ 50000000 - 80000 := by omega
      clear hbd
      go_wp2
      obtain ⟨wb, hwb⟩ : ∃ wb, wb = wr := ⟨wr, rfl⟩
      subst hwb
      go_loopw [17] (fun i wr => ∃ (k : Nat) (st : Wst) (vb' : Value), k ≤ xs.length ∧ i = .int .i64 k ∧ PM wr (w.heap.size + 1 + 1 + 1) (w.heap.size + 1) (w.heap.size + 1 + 1) st.1 st.2 vb' ∧ w.heap.size + 1 ≤ wr.heap.size ∧ Bp w.heap.size w wr ∧ PlOK st.2 st.1.length ∧ st.1.length + 65800 * (xs.length - k + LN (j + 1)) ≤ 50000000 - 80000 ∧ Hid (LW (j + 1) (rrWs (xs.drop k) st) = RES)) (fun i _ => xs.length - (intOf i).toNat)
      case atStart => exact ⟨0, st, vb', Nat.zero_le _, rfl, hM, hBr, hbel, hok, by omega, HR1⟩
      case round =>
        obtain ⟨k, st, vb', hk, rfl, hM, hBr, hbel, hok, hbd, HR⟩ := hrel
        clear HR1
        by_cases hlk : k < xs.length
        · obtain ⟨r, hrk⟩ : ∃ r, xs[k]? = some r := ⟨_, List.getElem?_eq_getElem hlk⟩
          obtain ⟨b, off, rfl, hcell⟩ := hc (by omega)
          obtain ⟨c0, c1, c2, c3, c4⟩ := rv_cells hcell hrk
          have put : ∀ {O : Nat} {z : Value}, w.cell? ⟨b, O, none⟩ = some z → wr.cell? ⟨b, O, none⟩ = some z := fun h => (hbel.be.cell (World.block_lt_of_cell? w _ h)).trans h
          replace c0 := put c0
          replace c1 := put c1
          replace c2 := put c2
          replace c3 := put c3
          replace c4 := put c4
          have hro := all_at hal hrk
          have hrl := rrW_len hro st
          have hrk' := rrW_ok r st hok
          obtain ⟨_, ⟨t, pt, ptl⟩, ⟨c, pc, pcl⟩, _⟩ := rc_parts hro
          have HR2 : Hid (LW (j + 1) (rrWs (xs.drop (k + 1)) (rrW r st)) = RES) := by
            show _ = _
            rw [← HR.out, drop_at hrk, rrWs_cons]
          obtain ⟨o, ty, cl, tt, da⟩ := r
          simp only at c0 c1 c2 c3 c4 pt pc
          subst pt pc
          have hbA := (Below.refl wr.heap.size wr).alloc (Nat.le_refl _) (.cells #[.string o, .int .i64 (t : Int), .int .i64 (c : Int), .int .i64 tt, .string da] 66)
          have hM2 := hM.below hbA
          have hB2 := Nat.le_trans hBr hbA.size
          have k2 := hbel.trans (Bp.of hbA (Nat.le_of_succ_le hBr))
          have hrec := record_w_any o t c tt da hro _ _ _ st.1 st.2 vb' _ hM2 hB2 (by omega) hok
          have j1 : (0 : Int) ≤ (k : Int) := by omega
          have j3 : (k : Int) < (xs.length : Int) := by omega
          clear hcell hc hrk HR hla hall hlw hln hM hbel hal hidx
          go_wp2_with (
            go_at_call 42
            refine hrec.mono ?_
            rintro e w3 ⟨rfl, vb3, hM3, k3⟩)
          go_roundw
          case rel => exact ⟨k + 1, rrW ⟨o, t, c, tt, da⟩ st, vb3, by omega, by go_num, hM3, Nat.le_trans hB2 k3.be.size, k2.trans ⟨k3.be.mono (Nat.le_succ _), k3.kp⟩, hrk', by have := hrl.2; omega, HR2⟩
          case measure => simp [intOf]; omega
        · obtain rfl : k = xs.length := by omega
          have j3 : (xs.length : Int) ≤ (xs.length : Int) := by omega
          have HR2 : Hid (LW (j + 1) st = RES) := by
            have := HR.out
            rwa [List.drop_length] at this
          clear HR hc hal hidx hla hall hlw hln
          go_wp2
          go_roundw
          case rel => exact ⟨j + 1, st, vb', by omega, by go_num, hM, hBr, hbel, hok, by omega, HR2⟩
          case measure => simp [intOf]; omega
    · obtain rfl : j = 3 := by omega
      obtain rfl : RES = st := by rw [← HR.out]; exact hlw3 st
      clear HR hla hall hlw hln
      obtain ⟨xb, yb, hv⟩ := own_sl hM.pw.rb
      subst hv
      have c0 : wr.cell? ⟨w.heap.size + 1 + 1 + 1, 0, none⟩ = some (.slice xb RES.1.length yb) := (blk_cell hM.pw.blk 0).trans rfl
      go_wp2
      go_ret
      exact ⟨_, rfl, own_base hM.pw.rb (Nat.le_succ _), hbel.be⟩
end Go.Proofs.Ytihhchebcojplaa
