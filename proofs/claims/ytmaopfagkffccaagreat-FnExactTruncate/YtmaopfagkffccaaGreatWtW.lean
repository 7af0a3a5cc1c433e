import Derived.Test.YtmaopfagkffccaaGreatWrT
import Derived.Test.YtmaopfagkffccaaGreatJBytesRow
import Derived.Test.YtmaopfagkffccaaGreatJPtM
import Derived.Test.YtmaopfagkffccaaGreatJICheck
import Derived.Test.YtmaopfagkffccaaGreatIwB
/- spec.l04Write by its contract. -/
namespace Go.Proofs.YtmaopfagkffccaaGreat
open Go.RowKit
set_option linter.unusedVariables false

theorem l04WriteRecord_any (o : ByteArray) (t c : Nat) (tt : Int) (d : ByteArray) (hr : rcW ⟨o, t, c, tt, d⟩) (g B : Nat) (bs : List UInt8) (pls : List (ByteArray × Nat)) (vb vp : Value) (w : World) (h : SW w g B bs pls vb vp) (hB : B ≤ w.heap.size) (hl : bs.length + 70000 ≤ 50000000) (hok : PlOK pls bs.length) :
    Calls Tryz.prog 60 #[.pointer (some ⟨g, 0, none⟩), .agg #[.string o, .int .i64 t, .int .i64 c, .int .i64 tt, .string d]] w fun e w' => e = .returned (.tuple #[]) ∧ ∃ vb' vp', SW w' g B (rrW ⟨o, t, c, tt, d⟩ (bs, pls)).1 (rrW ⟨o, t, c, tt, d⟩ (bs, pls)).2 vb' vp' ∧ Bk B w w' := by
  by_cases hp : d.size = 0 ∨ ¬ pointed t
  · exact l04WriteRecord_plain o t c tt d hr hp g B bs pls vb vp w h hB hl hok
  · have h1 : d.size ≠ 0 := fun e => hp (.inl e)
    have h2 : pointed t := Classical.byContradiction fun e => hp (.inr e)
    exact l04WriteRecord_names o t c tt d hr h1 h2 g B bs pls vb vp w h hB hl hok

theorem three_new' (w : World) (c1 c2 c3 : Array Value) (T1 T2 T3 : TypeId) : Blk (((w.alloc (.cells c1 T1)).alloc (.cells c2 T2)).alloc (.cells c3 T3)) w.heap.size c1 T1 ∧ Blk (((w.alloc (.cells c1 T1)).alloc (.cells c2 T2)).alloc (.cells c3 T3)) (w.heap.size + 1) c2 T2 ∧ Below w.heap.size w (((w.alloc (.cells c1 T1)).alloc (.cells c2 T2)).alloc (.cells c3 T3)) := ⟨(three_new w c1 c2 c3 T1 T2 T3).1, (three_new w c1 c2 c3 T1 T2 T3).2.1, (three_new w c1 c2 c3 T1 T2 T3).2.2.2⟩

/-- A message that the model's writer takes. -/
def mgW (m : Mg) : Prop := m.qs.length + m.an.length + m.au.length + m.ex.length ≤ 400 ∧ hdOK m.hd = true ∧ m.qs.all quOK = true ∧ (∀ r ∈ m.an, rcW r) ∧ (∀ r ∈ m.au, rcW r) ∧ (∀ r ∈ m.ex, rcW r)
theorem mg_w {m : Mg} (h : mgOK m = true) : mgW m := by
  simp only [mgOK, Bool.and_eq_true, decide_eq_true_eq] at h
  obtain ⟨⟨⟨⟨⟨hsm, hhd⟩, hqs⟩, han⟩, hau⟩, hex⟩ := h
  exact ⟨hsm, hhd, hqs, fun r hr => rc_w (List.all_eq_true.1 han r hr), fun r hr => rc_w (List.all_eq_true.1 hau r hr), fun r hr => rc_w (List.all_eq_true.1 hex r hr)⟩

set_option maxRecDepth 100000 in
set_option maxHeartbeats 3200000 in
theorem l04Write_w (m : Mg) (q a u x : Value) (w : World) (hrow : MRow w m q a u x) (hm : MSmall m) (hmg : mgW m) :
    Calls Tryz.prog 35 #[.agg (mgV m.hd q a u x)] w fun e w' => ∃ v, e = .returned v ∧ w'.ownsRow w.heap.size 5 1 v (msgW m).1.length (Nm.bys (msgW m).1) ∧ Below w.heap.size w w' := by
  obtain ⟨hsm, hhd, hqs, han, hau, hex⟩ := hmg
  have hall : ∀ j, j < 3 → ∀ r ∈ lsOf m j, rcW r := by
    intro j hj
    rcases j with _ | _ | _ | j <;> simp only [lsOf] <;> first | assumption | omega
  have hlen : ∀ j, j < 3 → (lsOf m j).length ≤ 400 := by
    intro j hj
    rcases j with _ | _ | _ | j <;> simp only [lsOf] <;> omega
  have HRES : Hid (lsW m 0 (qqWs m.qs (hdW m, [])) = msgW m) := rfl
  have hlw := lsW_step m
  have hlw3 : ∀ s, lsW m 3 s = s := fun s => rfl
  have hln := lsN_step m
  have hl0 : lsN m 0 + m.qs.length ≤ 400 := by simp only [lsN]; omega
  have hhl := hdW_len m
  obtain ⟨⟨id, hid, hidl⟩, ⟨op, hop, hopl⟩, ⟨code, hco, hcol⟩⟩ := hd_parts hhd
  have hhe := fun W => l04Head_any id op code m.qs.length m.an.length m.au.length m.ex.length m.hd.qr m.hd.aa m.hd.tc m.hd.rd m.hd.ra m.hd.z m.hd.ad m.hd.cd W hidl hopl hcol (by omega) (by omega) (by omega) (by omega)
  have HH : Hid (headL id (flagsS m.hd.qr op m.hd.aa m.hd.tc m.hd.rd m.hd.ra m.hd.z m.hd.ad m.hd.cd code) [m.qs.length, m.an.length, m.au.length, m.ex.length] = hdW m) := by
    show _ = _
    rw [hdW, hid, hop, hco]
    rfl
  rw [HH.out] at hhe
  have ha0 : lsOf m 0 = m.an := rfl
  have ha1 : lsOf m 1 = m.au := rfl
  have ha2 : lsOf m 2 = m.ex := rfl
  have hcr0 := hrow.ra
  have hcr1 := hrow.ru
  have hcr2 := hrow.rx
  generalize msgW m = RES at *
  generalize hdW m = HW at *
  generalize lsOf m = LS at *
  generalize lsW m = LW at *
  generalize lsN m = LN at *
  obtain ⟨_, qa, qc, rfl, hqcap, hqmx, hqc⟩ := hrow.rq
  obtain ⟨_, aa', ac, rfl, _⟩ := hrow.ra
  obtain ⟨_, ua, uc, rfl, _⟩ := hrow.ru
  obtain ⟨_, xa, xc, rfl, _⟩ := hrow.rx
  unfold maxLen at hqmx
  clear hrow hhd hm han hau hex HH
  obtain ⟨⟨i0, b1, i2, b3, b4, b5, b6, b7, b8, b9, i10⟩, qs, an, au, ex⟩ := m
  simp only [mgV] at *
  subst hid hop hco
  go_enter Tryz.func35, Tryz.ntmps35
  have hthree := three_new' w #[.int .i64 (id : Int), .bool b1, .int .i64 (op : Int), .bool b3, .bool b4, .bool b5, .bool b6, .bool b7, .bool b8, .bool b9, .int .i64 (code : Int), .slice qa qs.length qc, .slice aa' an.length ac, .slice ua au.length uc, .slice xa ex.length xc] #[.slice none 0 0, .slice none 0 0] #[.int .i64 (qs.length : Int), .int .i64 (an.length : Int), .int .i64 (au.length : Int), .int .i64 (ex.length : Int)] 33 98 99
  obtain ⟨kM0, kw0, bW0⟩ := hthree
  have hS0 := (⟨kw0, World.ownsRow_nil _ _ _ _, World.ownsRow_nil _ _ _ _, by omega⟩ : SW _ (w.heap.size + 1) w.heap.size [] [] (.slice none 0 0) (.slice none 0 0))
  have htx := fun W (h : SW W (w.heap.size + 1) w.heap.size [] [] (.slice none 0 0) (.slice none 0 0)) (hB : w.heap.size ≤ W.heap.size) => l04Text_any ⟨HW.toArray⟩ _ _ [] [] _ _ W h hB (by show 0 + HW.toArray.size ≤ _; simp [hhl])
  have hHW : (⟨HW.toArray⟩ : ByteArray).data.toList = HW := by simp
  try simp only [List.nil_append] at htx
  try simp only [hHW] at htx
  clear hHW
  generalize (⟨HW.toArray⟩ : ByteArray) = HB at *
  go_wp2_with first
    | (go_at_call 58; refine (hhe _).mono ?_; rintro e w1 ⟨rfl, hb1⟩)
    | (go_at_call 57; refine (htx _ (hS0.below hb1) (Nat.le_trans bW0.size hb1.size)).mono ?_; rintro e w2 ⟨rfl, vb2, hS2, k2⟩)
  have kM2 := k2.kp _ _ _ (blk_below kM0 hb1) (by decide) (by decide) (by decide)
  have hB2 : w.heap.size ≤ w2.heap.size := Nat.le_trans (Nat.le_trans bW0.size hb1.size) k2.be.size
  have k02 : Bk w.heap.size w w2 := (Bk.of bW0 (Nat.le_refl _)).trans ((Bk.of hb1 bW0.size).trans k2)
  have HR1 : Hid (LW 0 (qqWs (qs.drop 0) (HW, [])) = RES) := HRES
  clear hhe htx hS0 kw0 kM0 hb1 k2 HRES bW0
  go_loopw [5] (fun i wr => ∃ (j : Nat) (st : Wst) (vb' vp' : Value), j ≤ qs.length ∧ i = .int .i64 j ∧ SW wr (w.heap.size + 1) w.heap.size st.1 st.2 vb' vp' ∧ w.heap.size ≤ wr.heap.size ∧ Bk w.heap.size w wr ∧ Blk wr w.heap.size #[.int .i64 (id : Int), .bool b1, .int .i64 (op : Int), .bool b3, .bool b4, .bool b5, .bool b6, .bool b7, .bool b8, .bool b9, .int .i64 (code : Int), .slice qa qs.length qc, .slice aa' an.length ac, .slice ua au.length uc, .slice xa ex.length xc] 33 ∧ PlOK st.2 st.1.length ∧ st.1.length ≤ 12 + 65800 * j ∧ Hid (LW 0 (qqWs (qs.drop j) st) = RES)) (fun i _ => qs.length - (intOf i).toNat)
  case atStart => exact ⟨0, (HW, []), vb2, _, Nat.zero_le _, rfl, hS2, hB2, k02, kM2, PlOK_nil _, by show HW.length ≤ _; omega, HR1⟩
  case round =>
    obtain ⟨j, st, vb', vp', hj, rfl, hM, hBr, hbel, kM, hok, hbd, HR⟩ := hrel
    clear hS2 hB2 k02 kM2 HR1
    have y11 := (blk_cell kM 11).trans rfl
    by_cases hlt : j < qs.length
    · obtain ⟨rq, hrk⟩ : ∃ r, qs[j]? = some r := ⟨_, List.getElem?_eq_getElem hlt⟩
      obtain ⟨b, off, rfl, hcell⟩ := hqc (by omega)
      obtain ⟨c0, c1, c2⟩ := qv_cells hcell hrk
      have put : ∀ {O : Nat} {z : Value}, w.cell? ⟨b, O, none⟩ = some z → wr.cell? ⟨b, O, none⟩ = some z := fun h => (hbel.be.cell (World.block_lt_of_cell? w _ h)).trans h
      replace c0 := put c0
      replace c1 := put c1
      replace c2 := put c2
      have hqo := all_at hqs hrk
      obtain ⟨p1, ⟨t, pt, ptl⟩, ⟨c, pc, pcl⟩⟩ := qu_parts hqo
      obtain ⟨ls, hls⟩ := Option.isSome_iff_exists.1 p1
      have hql := qqW_len hqo st
      have hqk := qqW_ok rq st hok
      have HR2 : Hid (LW 0 (qqWs (qs.drop (j + 1)) (qqW rq st)) = RES) := by
        show _ = _
        rw [← HR.out, drop_at hrk, qqWs_cons]
      obtain ⟨o, ty, cl⟩ := rq
      simp only at c0 c1 c2 pt pc p1 hls
      subst pt pc
      have HQ : quW ls t c st.1 st.2 = qqW ⟨o, t, c⟩ st := by
        rw [quW, qqW]
        simp only [Int.toNat_natCast]
        rw [nmX_of hls st]
      have hcall := l04Question_any o ls hls t c ptl pcl _ _ st.1 st.2 vb' vp' wr hM hBr (by omega) hok
      rw [HQ] at hcall
      have i1 : (0 : Int) ≤ (j : Int) := by omega
      have i3 : (j : Int) < (qs.length : Int) := by omega
      clear hcell hqc hrk hqs HR hall hlw hln HQ hcr0 hcr1 hcr2
      go_wp2_with (
        go_at_call 59
        refine hcall.mono ?_
        rintro e w3 ⟨rfl, vb3, vp3, hM3, k3⟩)
      go_roundw
      case rel => exact ⟨j + 1, qqW ⟨o, t, c⟩ st, vb3, vp3, by omega, by go_num, hM3, Nat.le_trans hBr k3.be.size, hbel.trans k3, k3.kp _ _ _ kM (by decide) (by decide) (by decide), hqk, by omega, HR2⟩
      case measure => simp [intOf]; omega
    · obtain rfl : j = qs.length := by omega
      have i3 : (qs.length : Int) ≤ (qs.length : Int) := by omega
      have HR1 : Hid (LW 0 st = RES) := by
        have := HR.out
        rwa [List.drop_length] at this
      have hbd2 : st.1.length + 65800 * LN 0 ≤ 50000000 - 80000 := by omega
      clear HR hqc hqs hbd hl0
      go_wp2
      obtain ⟨wz, hwz⟩ : ∃ wz, wz = wr := ⟨wr, rfl⟩
      subst hwz
      go_loopw [6] (fun i wr => ∃ (j : Nat) (st : Wst) (vb' vp' : Value), j ≤ 3 ∧ i = .int .i64 j ∧ SW wr (w.heap.size + 1) w.heap.size st.1 st.2 vb' vp' ∧ w.heap.size ≤ wr.heap.size ∧ Bk w.heap.size w wr ∧ Blk wr w.heap.size #[.int .i64 (id : Int), .bool b1, .int .i64 (op : Int), .bool b3, .bool b4, .bool b5, .bool b6, .bool b7, .bool b8, .bool b9, .int .i64 (code : Int), .slice qa qs.length qc, .slice aa' an.length ac, .slice ua au.length uc, .slice xa ex.length xc] 33 ∧ PlOK st.2 st.1.length ∧ st.1.length + 65800 * LN j ≤ 50000000 - 80000 ∧ Hid (LW j st = RES)) (fun i _ => 3 - (intOf i).toNat)
      case atStart => exact ⟨0, st, vb', vp', by omega, rfl, hM, hBr, hbel, kM, hok, hbd2, HR1⟩
      case round =>
        obtain ⟨j, st, vb', vp', hj, rfl, hM, hBr, hbel, kM, hok, hbd, HR⟩ := hrel
        clear hbd2 HR1
        obtain rfl | rfl | rfl | rfl : j = 0 ∨ j = 1 ∨ j = 2 ∨ j = 3 := by omega
        · simp only [Int.cast_ofNat_Int]
          have hal : ∀ r ∈ an, rcW r := by rw [← ha0]; exact hall 0 (by decide)
          have HR1 : Hid (LW 1 (rrWs ((an).drop 0) st) = RES) := by
            show _ = _
            rw [List.drop_zero, ← ha0, ← hlw 0 (by decide)]
            exact HR.out
          have hn : LN 0 = (an).length + LN 1 := by rw [← ha0]; exact hln 0 (by decide)
          obtain ⟨_, _, _, hv, hcap, hmx, hc⟩ := hcr0
          simp only [Value.slice.injEq] at hv
          obtain ⟨rfl, _, rfl⟩ := hv
          unfold maxLen at hmx
          have hbd1 : st.1.length + 65800 * ((an).length + LN 1) ≤ 50000000 - 80000 := by omega
          have rr := fun i => blk_cell kM i
          clear hbd HR
          go_wp2
          clear rr
          obtain ⟨wb, hwb⟩ : ∃ wb, wb = wr := ⟨wr, rfl⟩
          subst hwb
          go_loopw [8] (fun i wr => ∃ (k : Nat) (st : Wst) (vb' vp' : Value), k ≤ (an).length ∧ i = .int .i64 k ∧ SW wr (w.heap.size + 1) w.heap.size st.1 st.2 vb' vp' ∧ w.heap.size ≤ wr.heap.size ∧ Bk w.heap.size w wr ∧ Blk wr w.heap.size #[.int .i64 (id : Int), .bool b1, .int .i64 (op : Int), .bool b3, .bool b4, .bool b5, .bool b6, .bool b7, .bool b8, .bool b9, .int .i64 (code : Int), .slice qa qs.length qc, .slice aa' an.length ac, .slice ua au.length uc, .slice xa ex.length xc] 33 ∧ PlOK st.2 st.1.length ∧ st.1.length + 65800 * ((an).length - k + LN 1) ≤ 50000000 - 80000 ∧ Hid (LW 1 (rrWs ((an).drop k) st) = RES)) (fun i _ => (an).length - (intOf i).toNat)
          case atStart => exact ⟨0, st, vb', vp', Nat.zero_le _, rfl, hM, hBr, hbel, kM, hok, by omega, HR1⟩
          case round =>
            obtain ⟨k, st, vb', vp', hk, rfl, hM, hBr, hbel, kM, hok, hbd, HR⟩ := hrel
            clear HR1
            by_cases hlk : k < (an).length
            · obtain ⟨r, hrk⟩ : ∃ r, (an)[k]? = some r := ⟨_, List.getElem?_eq_getElem hlk⟩
              obtain ⟨b, off, rfl, hcell⟩ := hc (by omega)
              obtain ⟨c0, c1, c2, c3, c4⟩ := rv_cells hcell hrk
              have put : ∀ {O : Nat} {z : Value}, w.cell? ⟨b, O, none⟩ = some z → wr.cell? ⟨b, O, none⟩ = some z := fun h => (hbel.be.cell (World.block_lt_of_cell? w _ h)).trans h
              replace c0 := put c0
              replace c1 := put c1
              replace c2 := put c2
              replace c3 := put c3
              replace c4 := put c4
              have hro := hal r (List.mem_of_getElem? hrk)
              have hrl := rrW_lenW hro st
              have hrk' := rrW_ok r st hok
              have hro2 := hro
              obtain ⟨_, ⟨t, pt, ptl⟩, ⟨c, pc, pcl⟩, _⟩ := hro2
              have HR2 : Hid (LW 1 (rrWs ((an).drop (k + 1)) (rrW r st)) = RES) := by
                show _ = _
                rw [← HR.out, drop_at hrk, rrWs_cons]
              obtain ⟨o, ty, cl, tt, da⟩ := r
              simp only at c0 c1 c2 c3 c4 pt pc
              subst pt pc
              have hrec := l04WriteRecord_any o t c tt da hro _ _ st.1 st.2 vb' vp' wr hM hBr (by omega) hok
              have j1 : (0 : Int) ≤ (k : Int) := by omega
              have j3 : (k : Int) < ((an).length : Int) := by omega
              clear hcell hc hrk HR hall hlw hln hal
              go_wp2_with (
                go_at_call 60
                refine hrec.mono ?_
                rintro e w3 ⟨rfl, vb3, vp3, hM3, k3⟩)
              go_roundw
              case rel => exact ⟨k + 1, rrW ⟨o, t, c, tt, da⟩ st, vb3, vp3, by omega, by go_num, hM3, Nat.le_trans hBr k3.be.size, hbel.trans k3, k3.kp _ _ _ kM (by decide) (by decide) (by decide), hrk', by have := hrl.2; omega, HR2⟩
              case measure => simp [intOf]; omega
            · obtain rfl : k = (an).length := by omega
              have j3 : ((an).length : Int) ≤ ((an).length : Int) := by omega
              have HR2 : Hid (LW 1 st = RES) := by
                have := HR.out
                rwa [List.drop_length] at this
              clear HR hc hal hall hlw hln
              go_wp2
              go_roundw
              case rel => exact ⟨1, st, vb', vp', by omega, by go_num, hM, hBr, hbel, kM, hok, by omega, HR2⟩
              case measure => simp [intOf]
        · simp only [Int.cast_ofNat_Int]
          have hal : ∀ r ∈ au, rcW r := by rw [← ha1]; exact hall 1 (by decide)
          have HR1 : Hid (LW 2 (rrWs ((au).drop 0) st) = RES) := by
            show _ = _
            rw [List.drop_zero, ← ha1, ← hlw 1 (by decide)]
            exact HR.out
          have hn : LN 1 = (au).length + LN 2 := by rw [← ha1]; exact hln 1 (by decide)
          obtain ⟨_, _, _, hv, hcap, hmx, hc⟩ := hcr1
          simp only [Value.slice.injEq] at hv
          obtain ⟨rfl, _, rfl⟩ := hv
          unfold maxLen at hmx
          have hbd1 : st.1.length + 65800 * ((au).length + LN 2) ≤ 50000000 - 80000 := by omega
          have rr := fun i => blk_cell kM i
          clear hbd HR
          go_wp2
          clear rr
          obtain ⟨wb, hwb⟩ : ∃ wb, wb = wr := ⟨wr, rfl⟩
          subst hwb
          go_loopw [8] (fun i wr => ∃ (k : Nat) (st : Wst) (vb' vp' : Value), k ≤ (au).length ∧ i = .int .i64 k ∧ SW wr (w.heap.size + 1) w.heap.size st.1 st.2 vb' vp' ∧ w.heap.size ≤ wr.heap.size ∧ Bk w.heap.size w wr ∧ Blk wr w.heap.size #[.int .i64 (id : Int), .bool b1, .int .i64 (op : Int), .bool b3, .bool b4, .bool b5, .bool b6, .bool b7, .bool b8, .bool b9, .int .i64 (code : Int), .slice qa qs.length qc, .slice aa' an.length ac, .slice ua au.length uc, .slice xa ex.length xc] 33 ∧ PlOK st.2 st.1.length ∧ st.1.length + 65800 * ((au).length - k + LN 2) ≤ 50000000 - 80000 ∧ Hid (LW 2 (rrWs ((au).drop k) st) = RES)) (fun i _ => (au).length - (intOf i).toNat)
          case atStart => exact ⟨0, st, vb', vp', Nat.zero_le _, rfl, hM, hBr, hbel, kM, hok, by omega, HR1⟩
          case round =>
            obtain ⟨k, st, vb', vp', hk, rfl, hM, hBr, hbel, kM, hok, hbd, HR⟩ := hrel
            clear HR1
            by_cases hlk : k < (au).length
            · obtain ⟨r, hrk⟩ : ∃ r, (au)[k]? = some r := ⟨_, List.getElem?_eq_getElem hlk⟩
              obtain ⟨b, off, rfl, hcell⟩ := hc (by omega)
              obtain ⟨c0, c1, c2, c3, c4⟩ := rv_cells hcell hrk
              have put : ∀ {O : Nat} {z : Value}, w.cell? ⟨b, O, none⟩ = some z → wr.cell? ⟨b, O, none⟩ = some z := fun h => (hbel.be.cell (World.block_lt_of_cell? w _ h)).trans h
              replace c0 := put c0
              replace c1 := put c1
              replace c2 := put c2
              replace c3 := put c3
              replace c4 := put c4
              have hro := hal r (List.mem_of_getElem? hrk)
              have hrl := rrW_lenW hro st
              have hrk' := rrW_ok r st hok
              have hro2 := hro
              obtain ⟨_, ⟨t, pt, ptl⟩, ⟨c, pc, pcl⟩, _⟩ := hro2
              have HR2 : Hid (LW 2 (rrWs ((au).drop (k + 1)) (rrW r st)) = RES) := by
                show _ = _
                rw [← HR.out, drop_at hrk, rrWs_cons]
              obtain ⟨o, ty, cl, tt, da⟩ := r
              simp only at c0 c1 c2 c3 c4 pt pc
              subst pt pc
              have hrec := l04WriteRecord_any o t c tt da hro _ _ st.1 st.2 vb' vp' wr hM hBr (by omega) hok
              have j1 : (0 : Int) ≤ (k : Int) := by omega
              have j3 : (k : Int) < ((au).length : Int) := by omega
              clear hcell hc hrk HR hall hlw hln hal
              go_wp2_with (
                go_at_call 60
                refine hrec.mono ?_
                rintro e w3 ⟨rfl, vb3, vp3, hM3, k3⟩)
              go_roundw
              case rel => exact ⟨k + 1, rrW ⟨o, t, c, tt, da⟩ st, vb3, vp3, by omega, by go_num, hM3, Nat.le_trans hBr k3.be.size, hbel.trans k3, k3.kp _ _ _ kM (by decide) (by decide) (by decide), hrk', by have := hrl.2; omega, HR2⟩
              case measure => simp [intOf]; omega
            · obtain rfl : k = (au).length := by omega
              have j3 : ((au).length : Int) ≤ ((au).length : Int) := by omega
              have HR2 : Hid (LW 2 st = RES) := by
                have := HR.out
                rwa [List.drop_length] at this
              clear HR hc hal hall hlw hln
              go_wp2
              go_roundw
              case rel => exact ⟨2, st, vb', vp', by omega, by go_num, hM, hBr, hbel, kM, hok, by omega, HR2⟩
              case measure => simp [intOf]
        · simp only [Int.cast_ofNat_Int]
          have hal : ∀ r ∈ ex, rcW r := by rw [← ha2]; exact hall 2 (by decide)
          have HR1 : Hid (LW 3 (rrWs ((ex).drop 0) st) = RES) := by
            show _ = _
            rw [List.drop_zero, ← ha2, ← hlw 2 (by decide)]
            exact HR.out
          have hn : LN 2 = (ex).length + LN 3 := by rw [← ha2]; exact hln 2 (by decide)
          obtain ⟨_, _, _, hv, hcap, hmx, hc⟩ := hcr2
          simp only [Value.slice.injEq] at hv
          obtain ⟨rfl, _, rfl⟩ := hv
          unfold maxLen at hmx
          have hbd1 : st.1.length + 65800 * ((ex).length + LN 3) ≤ 50000000 - 80000 := by omega
          have rr := fun i => blk_cell kM i
          clear hbd HR
          go_wp2
          clear rr
          obtain ⟨wb, hwb⟩ : ∃ wb, wb = wr := ⟨wr, rfl⟩
          subst hwb
          go_loopw [8] (fun i wr => ∃ (k : Nat) (st : Wst) (vb' vp' : Value), k ≤ (ex).length ∧ i = .int .i64 k ∧ SW wr (w.heap.size + 1) w.heap.size st.1 st.2 vb' vp' ∧ w.heap.size ≤ wr.heap.size ∧ Bk w.heap.size w wr ∧ Blk wr w.heap.size #[.int .i64 (id : Int), .bool b1, .int .i64 (op : Int), .bool b3, .bool b4, .bool b5, .bool b6, .bool b7, .bool b8, .bool b9, .int .i64 (code : Int), .slice qa qs.length qc, .slice aa' an.length ac, .slice ua au.length uc, .slice xa ex.length xc] 33 ∧ PlOK st.2 st.1.length ∧ st.1.length + 65800 * ((ex).length - k + LN 3) ≤ 50000000 - 80000 ∧ Hid (LW 3 (rrWs ((ex).drop k) st) = RES)) (fun i _ => (ex).length - (intOf i).toNat)
          case atStart => exact ⟨0, st, vb', vp', Nat.zero_le _, rfl, hM, hBr, hbel, kM, hok, by omega, HR1⟩
          case round =>
            obtain ⟨k, st, vb', vp', hk, rfl, hM, hBr, hbel, kM, hok, hbd, HR⟩ := hrel
            clear HR1
            by_cases hlk : k < (ex).length
            · obtain ⟨r, hrk⟩ : ∃ r, (ex)[k]? = some r := ⟨_, List.getElem?_eq_getElem hlk⟩
              obtain ⟨b, off, rfl, hcell⟩ := hc (by omega)
              obtain ⟨c0, c1, c2, c3, c4⟩ := rv_cells hcell hrk
              have put : ∀ {O : Nat} {z : Value}, w.cell? ⟨b, O, none⟩ = some z → wr.cell? ⟨b, O, none⟩ = some z := fun h => (hbel.be.cell (World.block_lt_of_cell? w _ h)).trans h
              replace c0 := put c0
              replace c1 := put c1
              replace c2 := put c2
              replace c3 := put c3
              replace c4 := put c4
              have hro := hal r (List.mem_of_getElem? hrk)
              have hrl := rrW_lenW hro st
              have hrk' := rrW_ok r st hok
              have hro2 := hro
              obtain ⟨_, ⟨t, pt, ptl⟩, ⟨c, pc, pcl⟩, _⟩ := hro2
              have HR2 : Hid (LW 3 (rrWs ((ex).drop (k + 1)) (rrW r st)) = RES) := by
                show _ = _
                rw [← HR.out, drop_at hrk, rrWs_cons]
              obtain ⟨o, ty, cl, tt, da⟩ := r
              simp only at c0 c1 c2 c3 c4 pt pc
              subst pt pc
              have hrec := l04WriteRecord_any o t c tt da hro _ _ st.1 st.2 vb' vp' wr hM hBr (by omega) hok
              have j1 : (0 : Int) ≤ (k : Int) := by omega
              have j3 : (k : Int) < ((ex).length : Int) := by omega
              clear hcell hc hrk HR hall hlw hln hal
              go_wp2_with (
                go_at_call 60
                refine hrec.mono ?_
                rintro e w3 ⟨rfl, vb3, vp3, hM3, k3⟩)
              go_roundw
              case rel => exact ⟨k + 1, rrW ⟨o, t, c, tt, da⟩ st, vb3, vp3, by omega, by go_num, hM3, Nat.le_trans hBr k3.be.size, hbel.trans k3, k3.kp _ _ _ kM (by decide) (by decide) (by decide), hrk', by have := hrl.2; omega, HR2⟩
              case measure => simp [intOf]; omega
            · obtain rfl : k = (ex).length := by omega
              have j3 : ((ex).length : Int) ≤ ((ex).length : Int) := by omega
              have HR2 : Hid (LW 3 st = RES) := by
                have := HR.out
                rwa [List.drop_length] at this
              clear HR hc hal hall hlw hln
              go_wp2
              go_roundw
              case rel => exact ⟨3, st, vb', vp', by omega, by go_num, hM, hBr, hbel, kM, hok, by omega, HR2⟩
              case measure => simp [intOf]
        · obtain rfl : RES = st := by rw [← HR.out]; exact hlw3 st
          clear HR hall hlw hln hcr0 hcr1 hcr2
          obtain ⟨xb, yb, hv⟩ := own_sl hM.rb
          subst hv
          have c0 : wr.cell? ⟨w.heap.size + 1, 0, none⟩ = some (.slice xb RES.1.length yb) := (blk_cell hM.blk 0).trans rfl
          go_wp2
          go_ret
          exact ⟨_, rfl, hM.rb, hbel.be⟩

theorem l04Write_any (m : Mg) (q a u x : Value) (w : World) (hrow : MRow w m q a u x) (hm : MSmall m) (hmg : mgOK m = true) :
    Calls Tryz.prog 35 #[.agg (mgV m.hd q a u x)] w fun e w' => ∃ v, e = .returned v ∧ w'.ownsRow w.heap.size 5 1 v (msgW m).1.length (Nm.bys (msgW m).1) ∧ Below w.heap.size w w' := l04Write_w m q a u x w hrow hm (mg_w hmg)
end Go.Proofs.YtmaopfagkffccaaGreat
