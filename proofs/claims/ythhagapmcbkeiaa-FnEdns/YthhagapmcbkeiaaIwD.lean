import Derived.Test.YthhagapmcbkeiaaJIwN
import Derived.Test.YthhagapmcbkeiaaJIwP
import Derived.Test.YthhagapmcbkeiaaJINames
/- (*writer).data by its contract. -/
namespace Go.Proofs.Ythhagapmcbkeiaa
open Go.RowKit
set_option linter.unusedVariables false

set_option maxRecDepth 100000 in
set_option maxHeartbeats 3200000 in
theorem data_w_any (t : Nat) (d : ByteArray) (hd : d.size = 0 ∨ cutCode t d = 0) (hdz : d.size ≤ 65535) (g B r : Nat) (bs : List UInt8) (pls : List (ByteArray × Nat)) (vb : Value) (w : World) (h : PM w g B r bs pls vb) (hB : B ≤ w.heap.size) (hl : bs.length + 66000 ≤ 50000000) (hok : PlOK pls bs.length) :
    Calls Try.prog 50 #[.pointer (some ⟨g, 0, none⟩), .int .i64 t, .string d] w fun e w' => e = .returned (.tuple #[]) ∧ ∃ vb', PM w' g B r (daW t d (bs, pls)).1 (daW t d (bs, pls)).2 vb' ∧ Bp B w w' := by
  obtain ⟨i0, hi, hz0, hz1, hz2⟩ := info_parts Try.infoU8w
  obtain ⟨hyes, hno⟩ := daS_daW hd (bs, pls)
  have hmp := fun W => mayPoint_any t W
  have hdn := fun W => implDataNames_any t d W (by omega)
  obtain ⟨sp, hsp⟩ : ∃ sp, (cutS t d).getD [] = sp := ⟨_, rfl⟩
  rw [hsp] at hyes hdn
  have hfew : sp.length ≤ 5 := by rw [← hsp]; exact cut_few t d
  generalize hRES : daW t d (bs, pls) = RES at *
  clear hRES hsp hd
  by_cases hp : pointed t
  · obtain ⟨hy1, hy2⟩ := hyes hp
    clear hyes hno
    rw [decide_eq_true hp] at hmp
    go_enter Try.func50, Try.ntmps50
    go_wp2_with first
      | (go_at_call 58; refine (hmp _).mono ?_; rintro e wx ⟨rfl, hwx⟩; obtain rfl := hwx.symm; clear hwx)
      | (go_at_call 59; refine (hdn _).mono ?_; rintro e w1 ⟨v1, rfl, hown1, hb1⟩; obtain ⟨x1, y1, hv1⟩ := own_sl hown1; subst hv1)
    have hS1 := h.below hb1
    have hB1 : B ≤ w1.heap.size := Nat.le_trans hB hb1.size
    have k1 : Bp B w w1 := Bp.of hb1 hB
    have HS0 : Hid (daS (sp.drop 0) 0 d (bs, pls) = RES) := hy1
    clear hmp hdn h hB hb1 hy1
    generalize w.heap.size = b0 at *
    go_loopw [15, 6] (fun i av wr => ∃ (j a : Nat) (st : Wst) (vb' : Value), j ≤ sp.length ∧ i = .int .i64 j ∧ av = .int .i64 a ∧ PM wr g B r st.1 st.2 vb' ∧ B ≤ wr.heap.size ∧ Bp B w wr ∧ wr.ownsRow b0 123 2 (.slice x1 sp.length y1) sp.length (spanCells sp) ∧ PlOK st.2 st.1.length ∧ SpOK d (sp.drop j) a ∧ st.1.length + (d.size - a) ≤ bs.length + d.size ∧ Hid (daS (sp.drop j) a d st = RES)) (fun i _ _ => sp.length - (intOf i).toNat)
    case atStart => exact ⟨0, 0, (bs, pls), vb, Nat.zero_le _, rfl, rfl, hS1, hB1, k1, hown1, hok, hy2, by show bs.length + _ ≤ _; omega, HS0⟩
    case round =>
      obtain ⟨j, a, st, vb', hj, rfl, rfl, hS, hBw, hbel, hown, hok', hsok, hbd, HS⟩ := hrel
      clear hS1 hB1 k1 hown1 hok hy2 HS0
      obtain ⟨xa, ya, hv⟩ := own_sl hS.pw.rb
      subst hv
      by_cases hlt : j < sp.length
      · obtain ⟨⟨f, e⟩, hx⟩ : ∃ x, sp[j]? = some x := ⟨_, List.getElem?_eq_getElem hlt⟩
        have hdr : sp.drop j = (f, e) :: sp.drop (j + 1) := by
          obtain ⟨h1, h2⟩ := List.getElem?_eq_some_iff.1 hx
          rw [List.drop_eq_getElem_cons h1, h2]
        rw [hdr] at hsok HS
        obtain ⟨o1, o2, o3, o4, o5⟩ := hsok
        have HS2 : Hid (daS (sp.drop (j + 1)) e d (nmX (d.extract f e) (st.1 ++ (d.extract a f).data.toList, st.2)) = RES) := HS
        obtain ⟨ls, hls⟩ := Option.isSome_iff_exists.1 o4
        obtain ⟨q1, q2⟩ := span_cells hx
        have hrow := CRow.of_owns hown
        obtain ⟨_, xa8, ya8, hv8, hcap8, hmx8, hc8⟩ := hrow
        cases hv8
        obtain ⟨b8, off8, rfl, hcell⟩ := hc8 (by omega)
        have s0 := hcell (j * 2) _ q1
        have s1 := hcell (j * 2 + 1) _ q2
        simp only at s0 s1
        rw [← Nat.add_assoc] at s1
        have hkb := blk_new wr #[.int .i64 (f : Int), .int .i64 (e : Int)] 123
        have hbA := (Below.refl wr.heap.size wr).alloc (Nat.le_refl _) (.cells #[.int .i64 (f : Int), .int .i64 (e : Int)] 123)
        have hgl : wr.heap.size < (wr.alloc (.cells #[.int .i64 (f : Int), .int .i64 (e : Int)] 123)).heap.size := by simp
        have hS5 := hS.below hbA
        have k5 := hbel.trans (Bp.of hbA hBw)
        have hB5 := Nat.le_trans hBw hbA.size
        have hown5 := own_below hown hbA
        have hpz : (d.extract a f).size = f - a := by simp; omega
        have hnz : (d.extract f e).size = e - f := by simp; omega
        have i1 : (j : Int) < (sp.length : Int) := by omega
        have i2 : (a : Int) ≤ (f : Int) := by omega
        have i3 : (f : Int) ≤ (d.size : Int) := by omega
        have i4 : (f : Int) ≤ (e : Int) := by omega
        have i5 : (e : Int) ≤ (d.size : Int) := by omega
        have c5 := (blk_cell hS5.pw.blk 0).trans rfl
        have d5 := (blk_cell hkb 0).trans rfl
        have d6 := (blk_cell hkb 1).trans rfl
        have hlen : (st.1 ++ (d.extract a f).data.toList).length = st.1.length + (f - a) := by simp; omega
        have hok6 : PlOK st.2 (st.1 ++ (d.extract a f).data.toList).length := hok'.mono (by simp)
        have hnl := nmX_len o4 (st.1 ++ (d.extract a f).data.toList, st.2)
        have hno := nmX_ok (d.extract f e) (st.1 ++ (d.extract a f).data.toList, st.2) hok6
        simp only [hlen, hnz] at hnl
        clear hcell hc8 q1 q2 hx hdr HS hown hbA o4
        go_wp2_with fail
        generalize wr.heap.size = bx at *
        generalize wr.alloc (.cells #[.int .i64 (f : Int), .int .i64 (e : Int)] 123) = w5 at *
        refine wp_region_last (fun W => W.cell? ⟨g, 0, none⟩ = some (.slice xa st.1.length ya) ∧ W.cell? ⟨bx, 0, none⟩ = some (.int .i64 (f : Int)) ∧ W.cell? ⟨bx, 1, none⟩ = some (.int .i64 (e : Int))) 13 (by kernel_rfl) ⟨c5, d5, d6⟩ (fun hHeld => ?_)
        refine wpAnyL_take (i := 0) (v := ?_) rfl (by kernel_rfl) (by kernel_rfl) (by kernel_rfl) (by kernel_rfl) (fun _ _ _ h => h) (Or.inl ⟨by rfl, ?_⟩) (by assumption) ?_
        rotate_left 1
        · (rintro w ⟨hSw1, hSw2, hSw3⟩; go_simp; try (with_reducible rfl))
        refine wpAnyL_take (i := 1) (v := ?_) rfl (by kernel_rfl) (by kernel_rfl) (by kernel_rfl) (by kernel_rfl) (fun _ _ _ h => h) (Or.inl ⟨by rfl, ?_⟩) (by assumption) ?_
        rotate_left 1
        · (rintro w ⟨hSw1, hSw2, hSw3⟩; go_simp; try (with_reducible rfl))
        refine wpAnyL_take (i := 2) (v := ?_) rfl (by kernel_rfl) (by kernel_rfl) (by kernel_rfl) (by kernel_rfl) (fun _ _ _ h => h) (Or.inl ⟨by rfl, ?_⟩) (by assumption) ?_
        rotate_left 1
        · (rintro w ⟨hSw1, hSw2, hSw3⟩; go_simp; try (with_reducible rfl))
        refine wpAnyL_take (i := 3) (v := ?_) rfl (by kernel_rfl) (by kernel_rfl) (by kernel_rfl) (by kernel_rfl) (fun _ _ _ h => h) (Or.inl ⟨by rfl, ?_⟩) (by assumption) ?_
        rotate_left 1
        · (rintro w ⟨hSw1, hSw2, hSw3⟩; go_simp; try (with_reducible rfl))
        refine wpAnyL_take (i := 4) (v := ?_) rfl (by kernel_rfl) (by kernel_rfl) (by kernel_rfl) (by kernel_rfl) (fun _ _ _ h => h) (Or.inl ⟨by rfl, ?_⟩) (by assumption) ?_
        rotate_left 1
        · (rintro w ⟨hSw1, hSw2, hSw3⟩; go_simp; try (with_reducible rfl))
        refine wpAnyL_take (i := 5) (v := ?_) rfl (by kernel_rfl) (by kernel_rfl) (by kernel_rfl) (by kernel_rfl) (fun _ _ _ h => h) (Or.inl ⟨by rfl, ?_⟩) (by assumption) ?_
        rotate_left 1
        · (rintro w ⟨hSw1, hSw2, hSw3⟩; go_simp; try (with_reducible rfl))
        refine wpAnyL_take (i := 6) (v := ?_) rfl (by kernel_rfl) (by kernel_rfl) (by kernel_rfl) (by kernel_rfl) (fun _ _ _ h => h) (Or.inl ⟨by rfl, ?_⟩) (by assumption) ?_
        rotate_left 1
        · (rintro w ⟨hSw1, hSw2, hSw3⟩; go_simp; try (with_reducible rfl))
        refine wpAnyL_take (i := 7) (v := ?_) rfl (by kernel_rfl) (by kernel_rfl) (by kernel_rfl) (by kernel_rfl) (fun _ _ _ h => h) (Or.inl ⟨by rfl, ?_⟩) (by assumption) ?_
        rotate_left 1
        · (rintro w ⟨hSw1, hSw2, hSw3⟩; go_simp; try (with_reducible rfl))
        refine wpAnyL_take (i := 8) (v := ?_) rfl (by kernel_rfl) (by kernel_rfl) (by kernel_rfl) (by kernel_rfl) (fun _ _ _ h => h) (Or.inl ⟨by rfl, ?_⟩) (by assumption) ?_
        rotate_left 1
        · (rintro w ⟨hSw1, hSw2, hSw3⟩; go_simp; try (with_reducible rfl))
        refine wpAnyL_take (i := 9) (v := .string (d.extract a f)) rfl (by kernel_rfl) (by kernel_rfl) (by kernel_rfl) (by kernel_rfl) (fun _ _ _ h => h) (Or.inl ⟨by rfl, ?_⟩) (by assumption) ?_
        · rintro w ⟨hSw1, hSw2, hSw3⟩
          go_simp
        have hSd := hS5.below (Below.refl _ _).drew
        have hkd : Blk w5.drew bx #[.int .i64 (f : Int), .int .i64 (e : Int)] 123 := blk_below hkb (Below.refl _ _).drew
        refine wpAnyL_one (i := 10) (by kernel_rfl) rfl (fun K hK => ?_)
        refine step_append_str rfl (.tmp 23) (.tmp 28) 22 9 rfl B 5 i0 Try.underlying22 Try.underlying9 hi hz0 hz1 hz2 (.slice xa st.1.length ya) st.1.length (Nm.bys st.1) (by go_simp) hSd.pw.rb (d.extract a f) (by go_simp) (by rw [hpz]; unfold maxLen; omega) (by rw [hpz]; omega) hB5 ?_
        intro va wa hown9 hgrow9
        rw [Nm.bys_str, ← Nm.bys_append, hpz] at hown9
        obtain ⟨xb, yb, hvb⟩ := own_sl hown9
        have hblk9 := blk_grown hSd.pw.blk hgrow9 (fun e => own_blk hSd.pw.rb hSd.pw.blk (by decide) e)
        have hkb9 := blk_grown hkd hgrow9 (fun e => own_blk hSd.pw.rb hkd (by decide) e)
        have b9 : Bw B w5 wa := (Bw.of (Below.refl _ _).drew hB5).app hSd.pw.rb hgrow9 hB5
        have c9 : wa.cell? ⟨g, 0, none⟩ = some (.slice xa st.1.length ya) := (blk_cell hblk9 0).trans rfl
        have d9 : wa.cell? ⟨bx, 0, none⟩ = some (.int .i64 (f : Int)) := (blk_cell hkb9 0).trans rfl
        have e9 : wa.cell? ⟨bx, 1, none⟩ = some (.int .i64 (e : Int)) := (blk_cell hkb9 1).trans rfl
        have f9 := blk_frozen hblk9 0
        rw [hvb] at hown9 ⊢
        refine hK.out _ _ ⟨c9, d9, e9⟩ (fun hH3 => ?_)
        clear hK K
        refine wpAnyL_one (i := 11) (by kernel_rfl) rfl (fun K hK => ?_)
        go_simp
        refine hK.out _ _ ⟨c9, d9, e9⟩ (fun hH4 => ?_)
        clear hK K
        refine wpAnyL_take (i := 12) (v := ?_) rfl (by kernel_rfl) (by kernel_rfl) (by kernel_rfl) (by kernel_rfl) (fun _ _ _ h => h) (Or.inl ⟨by rfl, ?_⟩) (by assumption) ?_
        rotate_left 1
        · (rintro w ⟨hSw1, hSw2, hSw3⟩; go_simp; try (with_reducible rfl))
        refine wpAnyL_end (by kernel_rfl) rfl (by kernel_rfl) (fun K hK => ?_)
        go_simp
        refine hK.out _ _ ?_
        clear hK K
        have hS10 : PW (wa.setCell ⟨g, 0, none⟩ (.slice xb (st.1.length + (f - a)) yb)) g B (st.1 ++ (d.extract a f).data.toList) (.slice xb (st.1.length + (f - a)) yb) (.map (some r)) := ⟨blk_set hblk9 0 _, by rw [hlen]; exact own_far hown9 (own_blk hown9 hblk9 (by decide)), hS5.pw.bg⟩
        have b10 := b9.set hblk9 hS5.pw.bg 0 (.slice xb (st.1.length + (f - a)) yb)
        have hM10 := hS5.after hS10 b10
        have k10 := k5.trans (Bp.ofw b10)
        have hB10 := Nat.le_trans hB5 b10.be.size
        have hkb10 := (Bp.ofw b10).kp _ _ _ hkb (by decide) (by decide)
        have hown10 := (Bp.ofw b10).row hown5 (by decide) (by decide)
        generalize wa.setCell ⟨g, 0, none⟩ (.slice xb (st.1.length + (f - a)) yb) = W10 at *
        have d10 := (blk_cell hkb10 0).trans rfl
        have e10 := (blk_cell hkb10 1).trans rfl
        have hcall := name_w_any (d.extract f e) ls hls g B r _ st.2 _ W10 hM10 hB10 (by rw [hlen]; omega) hok6
        rw [← nmX_of hls (st.1 ++ (d.extract a f).data.toList, st.2)] at hcall
        clear hown9 hgrow9 hblk9 b9 hS10 b10 hSd hkd hkb9 c9 d9 e9 f9 hH3 hH4 hHeld hkb hown5 hS hS5 hM10
        go_wp2_with (
          go_at_call 48
          refine hcall.mono ?_
          rintro e w12 ⟨rfl, vb12, hM12, k12⟩
          have d12 := (blk_cell (k12.kp _ _ _ hkb10 (by decide) (by decide)) 1).trans rfl)
        go_roundw
        case rel => exact ⟨j + 1, _, _, _, by omega, by go_num, rfl, hM12, Nat.le_trans hB10 k12.be.size, k10.trans k12, k12.row hown10 (by decide) (by decide), hno, o5, by omega, HS2⟩
        case measure => simp [intOf]; omega
      · obtain rfl : j = sp.length := by omega
        rw [List.drop_length] at hsok HS
        have HE : Hid ((st.1 ++ (d.extract a d.size).data.toList, st.2) = RES) := HS
        have ha : a ≤ d.size := hsok
        have ha' : (a : Int) ≤ (d.size : Int) := by omega
        have i1 : (sp.length : Int) ≤ (sp.length : Int) := by omega
        have hpz : (d.extract a d.size).size = d.size - a := by simp
        obtain ⟨w5, hw5⟩ : ∃ w5, w5 = wr := ⟨_, rfl⟩
        subst hw5
        have hS5 := hS
        have k5 := hbel
        have hB5 := hBw
        have c5 : w5.cell? ⟨g, 0, none⟩ = some (.slice xa st.1.length ya) := (blk_cell hS.pw.blk 0).trans rfl
        have d5 : w5.cell? ⟨g, 1, none⟩ = some (.map (some r)) := (blk_cell hS.pw.blk 1).trans rfl
        clear HS hsok hown
        go_wp2_with fail
        refine wp_region_last (fun W => W.cell? ⟨g, 0, none⟩ = some (.slice xa st.1.length ya) ∧ W.cell? ⟨g, 1, none⟩ = some (.map (some r))) 11 (by kernel_rfl) ⟨c5, d5⟩ (fun hHeld => ?_)
        refine wpAnyL_take (i := 0) (v := ?_) rfl (by kernel_rfl) (by kernel_rfl) (by kernel_rfl) (by kernel_rfl) (fun _ _ _ h => h) (Or.inl ⟨by rfl, ?_⟩) (by assumption) ?_
        rotate_left 1
        · (rintro w ⟨hSw1, hSw2⟩; go_simp; try (with_reducible rfl))
        refine wpAnyL_take (i := 1) (v := ?_) rfl (by kernel_rfl) (by kernel_rfl) (by kernel_rfl) (by kernel_rfl) (fun _ _ _ h => h) (Or.inl ⟨by rfl, ?_⟩) (by assumption) ?_
        rotate_left 1
        · (rintro w ⟨hSw1, hSw2⟩; go_simp; try (with_reducible rfl))
        refine wpAnyL_take (i := 2) (v := ?_) rfl (by kernel_rfl) (by kernel_rfl) (by kernel_rfl) (by kernel_rfl) (fun _ _ _ h => h) (Or.inl ⟨by rfl, ?_⟩) (by assumption) ?_
        rotate_left 1
        · (rintro w ⟨hSw1, hSw2⟩; go_simp; try (with_reducible rfl))
        refine wpAnyL_take (i := 3) (v := ?_) rfl (by kernel_rfl) (by kernel_rfl) (by kernel_rfl) (by kernel_rfl) (fun _ _ _ h => h) (Or.inl ⟨by rfl, ?_⟩) (by assumption) ?_
        rotate_left 1
        · (rintro w ⟨hSw1, hSw2⟩; go_simp; try (with_reducible rfl))
        refine wpAnyL_take (i := 4) (v := ?_) rfl (by kernel_rfl) (by kernel_rfl) (by kernel_rfl) (by kernel_rfl) (fun _ _ _ h => h) (Or.inl ⟨by rfl, ?_⟩) (by assumption) ?_
        rotate_left 1
        · (rintro w ⟨hSw1, hSw2⟩; go_simp; try (with_reducible rfl))
        refine wpAnyL_take (i := 5) (v := ?_) rfl (by kernel_rfl) (by kernel_rfl) (by kernel_rfl) (by kernel_rfl) (fun _ _ _ h => h) (Or.inl ⟨by rfl, ?_⟩) (by assumption) ?_
        rotate_left 1
        · (rintro w ⟨hSw1, hSw2⟩; go_simp; try (with_reducible rfl))
        refine wpAnyL_take (i := 6) (v := ?_) rfl (by kernel_rfl) (by kernel_rfl) (by kernel_rfl) (by kernel_rfl) (fun _ _ _ h => h) (Or.inl ⟨by rfl, ?_⟩) (by assumption) ?_
        rotate_left 1
        · (rintro w ⟨hSw1, hSw2⟩; go_simp; try (with_reducible rfl))
        refine wpAnyL_take (i := 7) (v := .string (d.extract a d.size)) rfl (by kernel_rfl) (by kernel_rfl) (by kernel_rfl) (by kernel_rfl) (fun _ _ _ h => h) (Or.inl ⟨by rfl, ?_⟩) (by assumption) ?_
        · rintro w ⟨hSw1, hSw2⟩
          go_simp
        have hSd := hS5.below (Below.refl _ _).drew
        refine wpAnyL_one (i := 8) (by kernel_rfl) rfl (fun K hK => ?_)
        refine step_append_str rfl (.tmp 47) (.tmp 50) 22 9 rfl B 5 i0 Try.underlying22 Try.underlying9 hi hz0 hz1 hz2 (.slice xa st.1.length ya) st.1.length (Nm.bys st.1) (by go_simp) hSd.pw.rb (d.extract a d.size) (by go_simp) (by (try rw [hpz]); unfold maxLen; omega) (by (try rw [hpz]); omega) hB5 ?_
        intro va wa hown9 hgrow9
        rw [Nm.bys_str, ← Nm.bys_append] at hown9
        try rw [hpz] at hown9
        obtain ⟨xb, yb, hvb⟩ := own_sl hown9
        have hblk9 := blk_grown hSd.pw.blk hgrow9 (fun e => own_blk hSd.pw.rb hSd.pw.blk (by decide) e)
        have b9 : Bw B w5 wa := (Bw.of (Below.refl _ _).drew hB5).app hSd.pw.rb hgrow9 hB5
        have c9 : wa.cell? ⟨g, 0, none⟩ = some (.slice xa st.1.length ya) := (blk_cell hblk9 0).trans rfl
        have d9 : wa.cell? ⟨g, 1, none⟩ = some (.map (some r)) := (blk_cell hblk9 1).trans rfl
        have f9 := blk_frozen hblk9 0
        rw [hvb] at hown9 ⊢
        refine hK.out _ _ ⟨c9, d9⟩ (fun hH3 => ?_)
        clear hK K
        refine wpAnyL_one (i := 9) (by kernel_rfl) rfl (fun K hK => ?_)
        go_simp
        refine hK.out _ _ ⟨c9, d9⟩ (fun hH4 => ?_)
        clear hK K
        refine wpAnyL_take (i := 10) (v := ?_) rfl (by kernel_rfl) (by kernel_rfl) (by kernel_rfl) (by kernel_rfl) (fun _ _ _ h => h) (Or.inl ⟨by rfl, ?_⟩) (by assumption) ?_
        rotate_left 1
        · (rintro w ⟨hSw1, hSw2⟩; go_simp; try (with_reducible rfl))
        refine wpAnyL_end (by kernel_rfl) rfl (by kernel_rfl) (fun K hK => ?_)
        go_simp
        refine hK.out _ _ ?_
        clear hK K
        have hlen : (st.1 ++ ((d.extract a d.size)).data.toList).length = st.1.length + (d.size - a) := by simp <;> omega
        have hS10 : PW (wa.setCell ⟨g, 0, none⟩ (.slice xb (st.1.length + (d.size - a)) yb)) g B (st.1 ++ ((d.extract a d.size)).data.toList) (.slice xb (st.1.length + (d.size - a)) yb) (.map (some r)) := ⟨blk_set hblk9 0 _, by rw [hlen]; exact own_far hown9 (own_blk hown9 hblk9 (by decide)), hS5.pw.bg⟩
        have b10 := b9.set hblk9 hS5.pw.bg 0 (.slice xb (st.1.length + (d.size - a)) yb)
        have hM10 := hS5.after hS10 b10
        have k10 := k5.trans (Bp.ofw b10)
        have HM : PM (wa.setCell ⟨g, 0, none⟩ (.slice xb (st.1.length + (d.size - a)) yb)) g B r RES.1 RES.2 (.slice xb (st.1.length + (d.size - a)) yb) := by rw [← HE.out]; exact hM10
        refine bodyPost_end (v := .tuple #[]) ?_ rfl (by refine ⟨rfl, _, HM, ?_⟩; exact k10)
        simp [results, go_sem]
  · have HE : Hid ((bs ++ d.data.toList, pls) = RES) := by
      have := hno hp
      rw [daS, Dt.ext_all] at this
      exact this
    rw [decide_eq_false hp] at hmp
    clear hyes hno hdn
    obtain ⟨st, hst⟩ : ∃ st : Wst, st = (bs, pls) := ⟨_, rfl⟩
    have h1 : bs = st.1 := by rw [hst]
    have h2 : pls = st.2 := by rw [hst]
    subst h1 h2
    clear hst
    obtain ⟨xa, ya, hv⟩ := own_sl h.pw.rb
    subst hv
    have hpz : d.size = d.size := rfl
    have k5 : Bp B w w := Bp.refl _ _
    have hS5 := h
    have hB5 := hB
    have c5 : w.cell? ⟨g, 0, none⟩ = some (.slice xa st.1.length ya) := (blk_cell h.pw.blk 0).trans rfl
    have d5 : w.cell? ⟨g, 1, none⟩ = some (.map (some r)) := (blk_cell h.pw.blk 1).trans rfl
    go_enter Try.func50, Try.ntmps50
    go_wp2_with (go_at_call 58; refine (hmp _).mono ?_; rintro e wx ⟨rfl, hwx⟩; obtain rfl := hwx.symm; clear hwx)
    refine wp_region_last (fun W => W.cell? ⟨g, 0, none⟩ = some (.slice xa st.1.length ya) ∧ W.cell? ⟨g, 1, none⟩ = some (.map (some r))) 11 (by kernel_rfl) ⟨c5, d5⟩ (fun hHeld => ?_)
    refine wpAnyL_take (i := 0) (v := ?_) rfl (by kernel_rfl) (by kernel_rfl) (by kernel_rfl) (by kernel_rfl) (fun _ _ _ h => h) (Or.inl ⟨by rfl, ?_⟩) (by assumption) ?_
    rotate_left 1
    · (rintro w ⟨hSw1, hSw2⟩; go_simp; try (with_reducible rfl))
    refine wpAnyL_take (i := 1) (v := ?_) rfl (by kernel_rfl) (by kernel_rfl) (by kernel_rfl) (by kernel_rfl) (fun _ _ _ h => h) (Or.inl ⟨by rfl, ?_⟩) (by assumption) ?_
    rotate_left 1
    · (rintro w ⟨hSw1, hSw2⟩; go_simp; try (with_reducible rfl))
    refine wpAnyL_take (i := 2) (v := ?_) rfl (by kernel_rfl) (by kernel_rfl) (by kernel_rfl) (by kernel_rfl) (fun _ _ _ h => h) (Or.inl ⟨by rfl, ?_⟩) (by assumption) ?_
    rotate_left 1
    · (rintro w ⟨hSw1, hSw2⟩; go_simp; try (with_reducible rfl))
    refine wpAnyL_take (i := 3) (v := ?_) rfl (by kernel_rfl) (by kernel_rfl) (by kernel_rfl) (by kernel_rfl) (fun _ _ _ h => h) (Or.inl ⟨by rfl, ?_⟩) (by assumption) ?_
    rotate_left 1
    · (rintro w ⟨hSw1, hSw2⟩; go_simp; try (with_reducible rfl))
    refine wpAnyL_take (i := 4) (v := ?_) rfl (by kernel_rfl) (by kernel_rfl) (by kernel_rfl) (by kernel_rfl) (fun _ _ _ h => h) (Or.inl ⟨by rfl, ?_⟩) (by assumption) ?_
    rotate_left 1
    · (rintro w ⟨hSw1, hSw2⟩; go_simp; try (with_reducible rfl))
    refine wpAnyL_take (i := 5) (v := ?_) rfl (by kernel_rfl) (by kernel_rfl) (by kernel_rfl) (by kernel_rfl) (fun _ _ _ h => h) (Or.inl ⟨by rfl, ?_⟩) (by assumption) ?_
    rotate_left 1
    · (rintro w ⟨hSw1, hSw2⟩; go_simp; try (with_reducible rfl))
    refine wpAnyL_take (i := 6) (v := ?_) rfl (by kernel_rfl) (by kernel_rfl) (by kernel_rfl) (by kernel_rfl) (fun _ _ _ h => h) (Or.inl ⟨by rfl, ?_⟩) (by assumption) ?_
    rotate_left 1
    · (rintro w ⟨hSw1, hSw2⟩; go_simp; try (with_reducible rfl))
    refine wpAnyL_take (i := 7) (v := .string d) rfl (by kernel_rfl) (by kernel_rfl) (by kernel_rfl) (by kernel_rfl) (fun _ _ _ h => h) (Or.inl ⟨by rfl, ?_⟩) (by assumption) ?_
    · rintro w ⟨hSw1, hSw2⟩
      go_simp
    have hSd := hS5.below (Below.refl _ _).drew
    refine wpAnyL_one (i := 8) (by kernel_rfl) rfl (fun K hK => ?_)
    refine step_append_str rfl (.tmp 47) (.tmp 50) 22 9 rfl B 5 i0 Try.underlying22 Try.underlying9 hi hz0 hz1 hz2 (.slice xa st.1.length ya) st.1.length (Nm.bys st.1) (by go_simp) hSd.pw.rb d (by go_simp) (by (try rw [hpz]); unfold maxLen; omega) (by (try rw [hpz]); omega) hB5 ?_
    intro va wa hown9 hgrow9
    rw [Nm.bys_str, ← Nm.bys_append] at hown9
    try rw [hpz] at hown9
    obtain ⟨xb, yb, hvb⟩ := own_sl hown9
    have hblk9 := blk_grown hSd.pw.blk hgrow9 (fun e => own_blk hSd.pw.rb hSd.pw.blk (by decide) e)
    have b9 : Bw B w wa := (Bw.of (Below.refl _ _).drew hB5).app hSd.pw.rb hgrow9 hB5
    have c9 : wa.cell? ⟨g, 0, none⟩ = some (.slice xa st.1.length ya) := (blk_cell hblk9 0).trans rfl
    have d9 : wa.cell? ⟨g, 1, none⟩ = some (.map (some r)) := (blk_cell hblk9 1).trans rfl
    have f9 := blk_frozen hblk9 0
    rw [hvb] at hown9 ⊢
    refine hK.out _ _ ⟨c9, d9⟩ (fun hH3 => ?_)
    clear hK K
    refine wpAnyL_one (i := 9) (by kernel_rfl) rfl (fun K hK => ?_)
    go_simp
    refine hK.out _ _ ⟨c9, d9⟩ (fun hH4 => ?_)
    clear hK K
    refine wpAnyL_take (i := 10) (v := ?_) rfl (by kernel_rfl) (by kernel_rfl) (by kernel_rfl) (by kernel_rfl) (fun _ _ _ h => h) (Or.inl ⟨by rfl, ?_⟩) (by assumption) ?_
    rotate_left 1
    · (rintro w ⟨hSw1, hSw2⟩; go_simp; try (with_reducible rfl))
    refine wpAnyL_end (by kernel_rfl) rfl (by kernel_rfl) (fun K hK => ?_)
    go_simp
    refine hK.out _ _ ?_
    clear hK K
    have hlen : (st.1 ++ (d).data.toList).length = st.1.length + d.size := by simp <;> omega
    have hS10 : PW (wa.setCell ⟨g, 0, none⟩ (.slice xb (st.1.length + d.size) yb)) g B (st.1 ++ (d).data.toList) (.slice xb (st.1.length + d.size) yb) (.map (some r)) := ⟨blk_set hblk9 0 _, by rw [hlen]; exact own_far hown9 (own_blk hown9 hblk9 (by decide)), hS5.pw.bg⟩
    have b10 := b9.set hblk9 hS5.pw.bg 0 (.slice xb (st.1.length + d.size) yb)
    have hM10 := hS5.after hS10 b10
    have k10 := k5.trans (Bp.ofw b10)
    have HM : PM (wa.setCell ⟨g, 0, none⟩ (.slice xb (st.1.length + d.size) yb)) g B r RES.1 RES.2 (.slice xb (st.1.length + d.size) yb) := by rw [← HE.out]; exact hM10
    refine bodyPost_end (v := .tuple #[]) ?_ rfl (by refine ⟨rfl, _, HM, ?_⟩; exact k10)
    simp [results, go_sem]
end Go.Proofs.Ythhagapmcbkeiaa
