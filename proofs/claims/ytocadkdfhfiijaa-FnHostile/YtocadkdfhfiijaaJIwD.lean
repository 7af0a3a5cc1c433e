import Derived.Test.YtocadkdfhfiijaaJMvI
import Derived.Test.YtocadkdfhfiijaaJBig2
import Derived.Test.YtocadkdfhfiijaaJWtQ
import Derived.Laws.IdiomCopy
import Derived.Test.YtocadkdfhfiijaaWrR
import Derived.Test.YtocadkdfhfiijaaJWtG
/- (*writer).data by its contract. -/
namespace Go.Proofs.Ytocadkdfhfiijaa
open Go.RowKit
set_option linter.unusedVariables false

set_option maxRecDepth 100000 in
set_option maxHeartbeats 3200000 in
theorem data_w_any (t : Nat) (d : ByteArray) (hd : d.size = 0 ∨ cutCode t d = 0) (hdz : d.size ≤ 65535) (g B r : Nat) (bs : List UInt8) (pls : List (ByteArray × Nat)) (vb : Value) (w : World) (h : PM w g B r bs pls vb) (hB : B ≤ w.heap.size) (hl : bs.length + 66000 ≤ 50000000) (hok : PlOK pls bs.length) :
    Calls Try.prog 64 #[.pointer (some ⟨g, 0, none⟩), .int .i64 t, .string d] w fun e w' => e = .returned (.tuple #[]) ∧ ∃ vb', PM w' g B r (daW t d (bs, pls)).1 (daW t d (bs, pls)).2 vb' ∧ Bp B w w' := by
  obtain ⟨i0, hi, hz0, hz1, hz2⟩ := info_parts Try.infoU8w
  obtain ⟨hyes, hno⟩ := daS_daW hd (bs, pls)
  have hmp := fun W => mayPoint_any t W
  have hdn := fun W => implDataNames_any t d W (by omega)
  obtain ⟨sp, hsp⟩ : ∃ sp, (cutS t d).getD [] = sp := ⟨_, rfl⟩
  rw [hsp] at hyes hdn
  have hfew : sp.length ≤ 5 := by rw [← hsp]; exact cut_few t d
  generalize hRES : daW t d (bs, pls) = RES at *
  clear hRES hsp hd
  by_cases hp : pointed t
  · obtain ⟨hy1, hy2⟩ := hyes hp
    clear hyes hno
    rw [decide_eq_true hp] at hmp
    go_enter Try.func64, Try.ntmps64
    go_wp2_with first
      | (go_at_call 75; refine (hmp _).mono ?_; rintro e wx ⟨rfl, hwx⟩; obtain rfl := hwx.symm; clear hwx)
      | (go_at_call 79; refine (hdn _).mono ?_; rintro e w1 ⟨v1, rfl, hown1, hb1⟩; obtain ⟨x1, y1, hv1⟩ := own_sl hown1; subst hv1)
    have hS1 := h.below hb1
    have hB1 : B ≤ w1.heap.size := Nat.le_trans hB hb1.size
    have k1 : Bp B w w1 := Bp.of hb1 hB
    have HS0 : Hid (daS (sp.drop 0) 0 d (bs, pls) = RES) := hy1
    clear hmp hdn h hB hb1 hy1
    generalize w.heap.size = b0 at *
    go_loopw [15, 6] (fun i av wr => ∃ (j a : Nat) (st : Wst) (vb' : Value), j ≤ sp.length ∧ i = .int .i64 j ∧ av = .int .i64 a ∧ PM wr g B r st.1 st.2 vb' ∧ B ≤ wr.heap.size ∧ Bp B w wr ∧ wr.ownsRow b0 133 2 (.slice x1 sp.length y1) sp.length (spanCells sp) ∧ PlOK st.2 st.1.length ∧ SpOK d (sp.drop j) a ∧ st.1.length + (d.size - a) ≤ bs.length + d.size ∧ Hid (daS (sp.drop j) a d st = RES)) (fun i _ _ => sp.length - (intOf i).toNat)
    case atStart => exact ⟨0, 0, (bs, pls), vb, Nat.zero_le _, rfl, rfl, hS1, hB1, k1, hown1, hok, hy2, by show bs.length + _ ≤ _; omega, HS0⟩
    case round =>
      obtain ⟨j, a, st, vb', hj, rfl, rfl, hS, hBw, hbel, hown, hok', hsok, hbd, HS⟩ := hrel
      clear hS1 hB1 k1 hown1 hok hy2 HS0
      obtain ⟨xa, ya, hv⟩ := own_sl hS.pw.rb
      subst hv
      by_cases hlt : j < sp.length
      · obtain ⟨⟨f, e⟩, hx⟩ : ∃ x, sp[j]? = some x := ⟨_, List.getElem?_eq_getElem hlt⟩
        have hdr : sp.drop j = (f, e) :: sp.drop (j + 1) := by
          obtain ⟨h1, h2⟩ := List.getElem?_eq_some_iff.1 hx
          rw [List.drop_eq_getElem_cons h1, h2]
        rw [hdr] at hsok HS
        obtain ⟨o1, o2, o3, o4, o5⟩ := hsok
        have HS2 : Hid (daS (sp.drop (j + 1)) e d (nmX (d.extract f e) (st.1 ++ (d.extract a f).data.toList, st.2)) = RES) := HS
        obtain ⟨ls, hls⟩ := Option.isSome_iff_exists.1 o4
        obtain ⟨q1, q2⟩ := span_cells hx
        have hrow := CRow.of_owns hown
        obtain ⟨_, xa8, ya8, hv8, hcap8, hmx8, hc8⟩ := hrow
        cases hv8
        obtain ⟨b8, off8, rfl, hcell⟩ := hc8 (by omega)
        have s0 := hcell (j * 2) _ q1
        have s1 := hcell (j * 2 + 1) _ q2
        simp only at s0 s1
        rw [← Nat.add_assoc] at s1
        have hkb := blk_new wr #[.int .i64 (f : Int), .int .i64 (e : Int)] 133
        have hbA := (Below.refl wr.heap.size wr).alloc (Nat.le_refl _) (.cells #[.int .i64 (f : Int), .int .i64 (e : Int)] 133)
        have hgl : wr.heap.size < (wr.alloc (.cells #[.int .i64 (f : Int), .int .i64 (e : Int)] 133)).heap.size := by simp
        have hS5 := hS.below hbA
        have k5 := hbel.trans (Bp.of hbA hBw)
        have hB5 := Nat.le_trans hBw hbA.size
        have hown5 := own_below hown hbA
        have hpz : (d.extract a f).size = f - a := by simp; omega
        have hnz : (d.extract f e).size = e - f := by simp; omega
        have i1 : (j : Int) < (sp.length : Int) := by omega
        have i2 : (a : Int) ≤ (f : Int) := by omega
        have i3 : (f : Int) ≤ (d.size : Int) := by omega
        have i4 : (f : Int) ≤ (e : Int) := by omega
        have i5 : (e : Int) ≤ (d.size : Int) := by omega
        have c5 := (blk_cell hS5.pw.blk 0).trans rfl
        have d5 := (blk_cell hkb 0).trans rfl
        have d6 := (blk_cell hkb 1).trans rfl
        have hlen : (st.1 ++ (d.extract a f).data.toList).length = st.1.length + (f - a) := by simp; omega
        have hok6 : PlOK st.2 (st.1 ++ (d.extract a f).data.toList).length := hok'.mono (by simp)
        have hnl := nmX_len o4 (st.1 ++ (d.extract a f).data.toList, st.2)
        have hno := nmX_ok (d.extract f e) (st.1 ++ (d.extract a f).data.toList, st.2) hok6
        simp only [hlen, hnz] at hnl
        clear hcell hc8 q1 q2 hx hdr HS hown hbA o4
        go_wp2_with fail
        generalize wr.heap.size = bx at *
        generalize wr.alloc (.cells #[.int .i64 (f : Int), .int .i64 (e : Int)] 133) = w5 at *
        refine wp_region_last (fun W => W.cell? ⟨g, 0, none⟩ = some (.slice xa st.1.length ya) ∧ W.cell? ⟨bx, 0, none⟩ = some (.int .i64 (f : Int)) ∧ W.cell? ⟨bx, 1, none⟩ = some (.int .i64 (e : Int))) 13 (by kernel_rfl) ⟨c5, d5, d6⟩ (fun hHeld => ?_)
        refine wpAnyL_take (i := 0) (v := ?_) rfl (by kernel_rfl) (by kernel_rfl) (by kernel_rfl) (by kernel_rfl) (fun _ _ _ h => h) (Or.inl ⟨by rfl, ?_⟩) (by assumption) ?_
        rotate_left 1
        · (rintro w ⟨hSw1, hSw2, hSw3⟩; go_simp; try (with_reducible rfl))
        refine wpAnyL_take (i := 1) (v := ?_) rfl (by kernel_rfl) (by kernel_rfl) (by kernel_rfl) (by kernel_rfl) (fun _ _ _ h => h) (Or.inl ⟨by rfl, ?_⟩) (by assumption) ?_
        rotate_left 1
        · (rintro w ⟨hSw1, hSw2, hSw3⟩; go_simp; try (with_reducible rfl))
        refine wpAnyL_take (i := 2) (v := ?_) rfl (by kernel_rfl) (by kernel_rfl) (by kernel_rfl) (by kernel_rfl) (fun _ _ _ h => h) (Or.inl ⟨by rfl, ?_⟩) (by assumption) ?_
        rotate_left 1
        · (rintro w ⟨hSw1, hSw2, hSw3⟩; go_simp; try (with_reducible rfl))
        refine wpAnyL_take (i := 3) (v := ?_) rfl (by kernel_rfl) (by kernel_rfl) (by kernel_rfl) (by kernel_rfl) (fun _ _ _ h => h) (Or.inl ⟨by rfl, ?_⟩) (by assumption) ?_
        rotate_left 1
        · (rintro w ⟨hSw1, hSw2, hSw3⟩; go_simp; try (with_reducible rfl))
        refine wpAnyL_take (i := 4) (v := ?_) rfl (by kernel_rfl) (by kernel_rfl) (by kernel_rfl) (by kernel_rfl) (fun _ _ _ h => h) (Or.inl ⟨by rfl, ?_⟩) (by assumption) ?_
        rotate_left 1
        · (rintro w ⟨hSw1, hSw2, hSw3⟩; go_simp; try (with_reducible rfl))
        refine wpAnyL_take (i := 5) (v := ?_) rfl (by kernel_rfl) (by kernel_rfl) (by kernel_rfl) (by kernel_rfl) (fun _ _ _ h => h) (Or.inl ⟨by rfl, ?_⟩) (by assumption) ?_
        rotate_left 1
        · (rintro w ⟨hSw1, hSw2, hSw3⟩; go_simp; try (with_reducible rfl))
        refine wpAnyL_take (i := 6) (v := ?_) rfl (by kernel_rfl) (by kernel_rfl) (by kernel_rfl) (by kernel_rfl) (fun _ _ _ h => h) (Or.inl ⟨by rfl, ?_⟩) (by assumption) ?_
        rotate_left 1
        · (rintro w ⟨hSw1, hSw2, hSw3⟩; go_simp; try (with_reducible rfl))
        refine wpAnyL_take (i := 7) (v := ?_) rfl (by kernel_rfl) (by kernel_rfl) (by kernel_rfl) (by kernel_rfl) (fun _ _ _ h => h) (Or.inl ⟨by rfl, ?_⟩) (by assumption) ?_
        rotate_left 1
        · (rintro w ⟨hSw1, hSw2, hSw3⟩; go_simp; try (with_reducible rfl))
        refine wpAnyL_take (i := 8) (v := ?_) rfl (by kernel_rfl) (by kernel_rfl) (by kernel_rfl) (by kernel_rfl) (fun _ _ _ h => h) (Or.inl ⟨by rfl, ?_⟩) (by assumption) ?_
        rotate_left 1
        · (rintro w ⟨hSw1, hSw2, hSw3⟩; go_simp; try (with_reducible rfl))
        refine wpAnyL_take (i := 9) (v := .string (d.extract a f)) rfl (by kernel_rfl) (by kernel_rfl) (by kernel_rfl) (by kernel_rfl) (fun _ _ _ h => h) (Or.inl ⟨by rfl, ?_⟩) (by assumption) ?_
        · rintro w ⟨hSw1, hSw2, hSw3⟩
          go_simp
        have hSd := hS5.below (Below.refl _ _).drew
        have hkd : Blk w5.drew bx #[.int .i64 (f : Int), .int .i64 (e : Int)] 133 := blk_below hkb (Below.refl _ _).drew
        refine wpAnyL_one (i := 10) (by kernel_rfl) rfl (fun K hK => ?_)
        refine step_append_str rfl (.tmp 23) (.tmp 28) 22 9 rfl B 5 i0 Try.underlying22 Try.underlying9 hi hz0 hz1 hz2 (.slice xa st.1.length ya) st.1.length (Nm.bys st.1) (by go_simp) hSd.pw.rb (d.extract a f) (by go_simp) (by rw [hpz]; unfold maxLen; omega) (by rw [hpz]; omega) hB5 ?_
        intro va wa hown9 hgrow9
        rw [Nm.bys_str, ← Nm.bys_append, hpz] at hown9
        obtain ⟨xb, yb, hvb⟩ := own_sl hown9
        have hblk9 := blk_grown hSd.pw.blk hgrow9 (fun e => own_blk hSd.pw.rb hSd.pw.blk (by decide) e)
        have hkb9 := blk_grown hkd hgrow9 (fun e => own_blk hSd.pw.rb hkd (by decide) e)
        have b9 : Bw B w5 wa := (Bw.of (Below.refl _ _).drew hB5).app hSd.pw.rb hgrow9 hB5
        have c9 : wa.cell? ⟨g, 0, none⟩ = some (.slice xa st.1.length ya) := (blk_cell hblk9 0).trans rfl
        have d9 : wa.cell? ⟨bx, 0, none⟩ = some (.int .i64 (f : Int)) := (blk_cell hkb9 0).trans rfl
        have e9 : wa.cell? ⟨bx, 1, none⟩ = some (.int .i64 (e : Int)) := (blk_cell hkb9 1).trans rfl
        have f9 := blk_frozen hblk9 0
        rw [hvb] at hown9 ⊢
        refine hK.out _ _ ⟨c9, d9, e9⟩ (fun hH3 => ?_)
        clear hK K
        refine wpAnyL_one (i := 11) (by kernel_rfl) rfl (fun K hK => ?_)
        go_simp
        refine hK.out _ _ ⟨c9, d9, e9⟩ (fun hH4 => ?_)
        clear hK K
        refine wpAnyL_take (i := 12) (v := ?_) rfl (by kernel_rfl) (by kernel_rfl) (by kernel_rfl) (by kernel_rfl) (fun _ _ _ h => h) (Or.inl ⟨by rfl, ?_⟩) (by assumption) ?_
        rotate_left 1
        · (rintro w ⟨hSw1, hSw2, hSw3⟩; go_simp; try (with_reducible rfl))
        refine wpAnyL_end (by kernel_rfl) rfl (by kernel_rfl) (fun K hK => ?_)
        go_simp
        refine hK.out _ _ ?_
        clear hK K
        have hS10 : PW (wa.setCell ⟨g, 0, none⟩ (.slice xb (st.1.length + (f - a)) yb)) g B (st.1 ++ (d.extract a f).data.toList) (.slice xb (st.1.length + (f - a)) yb) (.map (some r)) := ⟨blk_set hblk9 0 _, by rw [hlen]; exact own_far hown9 (own_blk hown9 hblk9 (by decide)), hS5.pw.bg⟩
        have b10 := b9.set hblk9 hS5.pw.bg 0 (.slice xb (st.1.length + (f - a)) yb)
        have hM10 := hS5.after hS10 b10
        have k10 := k5.trans (Bp.ofw b10)
        have hB10 := Nat.le_trans hB5 b10.be.size
        have hkb10 := (Bp.ofw b10).kp _ _ _ hkb (by decide) (by decide)
        have hown10 := (Bp.ofw b10).row hown5 (by decide) (by decide)
        generalize wa.setCell ⟨g, 0, none⟩ (.slice xb (st.1.length + (f - a)) yb) = W10 at *
        have d10 := (blk_cell hkb10 0).trans rfl
        have e10 := (blk_cell hkb10 1).trans rfl
        have hcall := name_w_any (d.extract f e) ls hls g B r _ st.2 _ W10 hM10 hB10 (by rw [hlen]; omega) hok6
        rw [← nmX_of hls (st.1 ++ (d.extract a f).data.toList, st.2)] at hcall
        clear hown9 hgrow9 hblk9 b9 hS10 b10 hSd hkd hkb9 c9 d9 e9 f9 hH3 hH4 hHeld hkb hown5 hS hS5 hM10
        go_wp2_with (
          go_at_call 42
          refine hcall.mono ?_
          rintro e w12 ⟨rfl, vb12, hM12, k12⟩
          have d12 := (blk_cell (k12.kp _ _ _ hkb10 (by decide) (by decide)) 1).trans rfl)
        go_roundw
        case rel => exact ⟨j + 1, _, _, _, by omega, by go_num, rfl, hM12, Nat.le_trans hB10 k12.be.size, k10.trans k12, k12.row hown10 (by decide) (by decide), hno, o5, by omega, HS2⟩
        case measure => simp [intOf]; omega
      · obtain rfl : j = sp.length := by omega
        rw [List.drop_length] at hsok HS
        have HE : Hid ((st.1 ++ (d.extract a d.size).data.toList, st.2) = RES) := HS
        have ha : a ≤ d.size := hsok
        have ha' : (a : Int) ≤ (d.size : Int) := by omega
        have i1 : (sp.length : Int) ≤ (sp.length : Int) := by omega
        have hpz : (d.extract a d.size).size = d.size - a := by simp
        obtain ⟨w5, hw5⟩ : ∃ w5, w5 = wr := ⟨_, rfl⟩
        subst hw5
        have hS5 := hS
        have k5 := hbel
        have hB5 := hBw
        have c5 : w5.cell? ⟨g, 0, none⟩ = some (.slice xa st.1.length ya) := (blk_cell hS.pw.blk 0).trans rfl
        have d5 : w5.cell? ⟨g, 1, none⟩ = some (.map (some r)) := (blk_cell hS.pw.blk 1).trans rfl
        clear HS hsok hown
        go_wp2_with fail
        refine wp_region_last (fun W => W.cell? ⟨g, 0, none⟩ = some (.slice xa st.1.length ya) ∧ W.cell? ⟨g, 1, none⟩ = some (.map (some r))) 11 (by kernel_rfl) ⟨c5, d5⟩ (fun hHeld => ?_)
        refine wpAnyL_take (i := 0) (v := ?_) rfl (by kernel_rfl) (by kernel_rfl) (by kernel_rfl) (by kernel_rfl) (fun _ _ _ h => h) (Or.inl ⟨by rfl, ?_⟩) (by assumption) ?_
        rotate_left 1
        · (rintro w ⟨hSw1, hSw2⟩; go_simp; try (with_reducible rfl))
        refine wpAnyL_take (i := 1) (v := ?_) rfl (by kernel_rfl) (by kernel_rfl) (by kernel_rfl) (by kernel_rfl) (fun _ _ _ h => h) (Or.inl ⟨by rfl, ?_⟩) (by assumption) ?_
        rotate_left 1
        · (rintro w ⟨hSw1, hSw2⟩; go_simp; try (with_reducible rfl))
        refine wpAnyL_take (i := 2) (v := ?_) rfl (by kernel_rfl) (by kernel_rfl) (by kernel_rfl) (by kernel_rfl) (fun _ _ _ h => h) (Or.inl ⟨by rfl, ?_⟩) (by assumption) ?_
        rotate_left 1
        · (rintro w ⟨hSw1, hSw2⟩; go_simp; try (with_reducible rfl))
        refine wpAnyL_take (i := 3) (v := ?_) rfl (by kernel_rfl) (by kernel_rfl) (by kernel_rfl) (by kernel_rfl) (fun _ _ _ h => h) (Or.inl ⟨by rfl, ?_⟩) (by assumption) ?_
        rotate_left 1
        · (rintro w ⟨hSw1, hSw2⟩; go_simp; try (with_reducible rfl))
        refine wpAnyL_take (i := 4) (v := ?_) rfl (by kernel_rfl) (by kernel_rfl) (by kernel_rfl) (by kernel_rfl) (fun _ _ _ h => h) (Or.inl ⟨by rfl, ?_⟩) (by assumption) ?_
        rotate_left 1
        · (rintro w ⟨hSw1, hSw2⟩; go_simp; try (with_reducible rfl))
        refine wpAnyL_take (i := 5) (v := ?_) rfl (by kernel_rfl) (by kernel_rfl) (by kernel_rfl) (by kernel_rfl) (fun _ _ _ h => h) (Or.inl ⟨by rfl, ?_⟩) (by assumption) ?_
        rotate_left 1
        · (rintro w ⟨hSw1, hSw2⟩; go_simp; try (with_reducible rfl))
        refine wpAnyL_take (i := 6) (v := ?_) rfl (by kernel_rfl) (by kernel_rfl) (by kernel_rfl) (by kernel_rfl) (fun _ _ _ h => h) (Or.inl ⟨by rfl, ?_⟩) (by assumption) ?_
        rotate_left 1
        · (rintro w ⟨hSw1, hSw2⟩; go_simp; try (with_reducible rfl))
        refine wpAnyL_take (i := 7) (v := .string (d.extract a d.size)) rfl (by kernel_rfl) (by kernel_rfl) (by kernel_rfl) (by kernel_rfl) (fun _ _ _ h => h) (Or.inl ⟨by rfl, ?_⟩) (by assumption) ?_
        · rintro w ⟨hSw1, hSw2⟩
          go_simp
        have hSd := hS5.below (Below.refl _ _).drew
        refine wpAnyL_one (i := 8) (by kernel_rfl) rfl (fun K hK => ?_)
        refine step_append_str rfl (.tmp 47) (.tmp 50) 22 9 rfl B 5 i0 Try.underlying22 Try.underlying9 hi hz0 hz1 hz2 (.slice xa st.1.length ya) st.1.length (Nm.bys st.1) (by go_simp) hSd.pw.rb (d.extract a d.size) (by go_simp) (by (try rw [hpz]); unfold maxLen; omega) (by (try rw [hpz]); omega) hB5 ?_
        intro va wa hown9 hgrow9
        rw [Nm.bys_str, ← Nm.bys_append] at hown9
        try rw [hpz] at hown9
        obtain ⟨xb, yb, hvb⟩ := own_sl hown9
        have hblk9 := blk_grown hSd.pw.blk hgrow9 (fun e => own_blk hSd.pw.rb hSd.pw.blk (by decide) e)
        have b9 : Bw B w5 wa := (Bw.of (Below.refl _ _).drew hB5).app hSd.pw.rb hgrow9 hB5
        have c9 : wa.cell? ⟨g, 0, none⟩ = some (.slice xa st.1.length ya) := (blk_cell hblk9 0).trans rfl
        have d9 : wa.cell? ⟨g, 1, none⟩ = some (.map (some r)) := (blk_cell hblk9 1).trans rfl
        have f9 := blk_frozen hblk9 0
        rw [hvb] at hown9 ⊢
        refine hK.out _ _ ⟨c9, d9⟩ (fun hH3 => ?_)
        clear hK K
        refine wpAnyL_one (i := 9) (by kernel_rfl) rfl (fun K hK => ?_)
        go_simp
        refine hK.out _ _ ⟨c9, d9⟩ (fun hH4 => ?_)
        clear hK K
        refine wpAnyL_take (i := 10) (v := ?_) rfl (by kernel_rfl) (by kernel_rfl) (by kernel_rfl) (by kernel_rfl) (fun _ _ _ h => h) (Or.inl ⟨by rfl, ?_⟩) (by assumption) ?_
        rotate_left 1
        · (rintro w ⟨hSw1, hSw2⟩; go_simp; try (with_reducible rfl))
        refine wpAnyL_end (by kernel_rfl) rfl (by kernel_rfl) (fun K hK => ?_)
        go_simp
        refine hK.out _ _ ?_
        clear hK K
        have hlen : (st.1 ++ ((d.extract a d.size)).data.toList).length = st.1.length + (d.size - a) := by simp <;> omega
        have hS10 : PW (wa.setCell ⟨g, 0, none⟩ (.slice xb (st.1.length + (d.size - a)) yb)) g B (st.1 ++ ((d.extract a d.size)).data.toList) (.slice xb (st.1.length + (d.size - a)) yb) (.map (some r)) := ⟨blk_set hblk9 0 _, by rw [hlen]; exact own_far hown9 (own_blk hown9 hblk9 (by decide)), hS5.pw.bg⟩
        have b10 := b9.set hblk9 hS5.pw.bg 0 (.slice xb (st.1.length + (d.size - a)) yb)
        have hM10 := hS5.after hS10 b10
        have k10 := k5.trans (Bp.ofw b10)
        have HM : PM (wa.setCell ⟨g, 0, none⟩ (.slice xb (st.1.length + (d.size - a)) yb)) g B r RES.1 RES.2 (.slice xb (st.1.length + (d.size - a)) yb) := by rw [← HE.out]; exact hM10
        refine bodyPost_end (v := .tuple #[]) ?_ rfl (by refine ⟨rfl, _, HM, ?_⟩; exact k10)
        simp [results, go_sem]
  · have HE : Hid ((bs ++ d.data.toList, pls) = RES) := by
      have := hno hp
      rw [daS, Dt.ext_all] at this
      exact this
    rw [decide_eq_false hp] at hmp
    clear hyes hno hdn
    obtain ⟨st, hst⟩ : ∃ st : Wst, st = (bs, pls) := ⟨_, rfl⟩
    have h1 : bs = st.1 := by rw [hst]
    have h2 : pls = st.2 := by rw [hst]
    subst h1 h2
    clear hst
    obtain ⟨xa, ya, hv⟩ := own_sl h.pw.rb
    subst hv
    have hpz : d.size = d.size := rfl
    have k5 : Bp B w w := Bp.refl _ _
    have hS5 := h
    have hB5 := hB
    have c5 : w.cell? ⟨g, 0, none⟩ = some (.slice xa st.1.length ya) := (blk_cell h.pw.blk 0).trans rfl
    have d5 : w.cell? ⟨g, 1, none⟩ = some (.map (some r)) := (blk_cell h.pw.blk 1).trans rfl
    go_enter Try.func64, Try.ntmps64
    go_wp2_with (go_at_call 75; refine (hmp _).mono ?_; rintro e wx ⟨rfl, hwx⟩; obtain rfl := hwx.symm; clear hwx)
    refine wp_region_last (fun W => W.cell? ⟨g, 0, none⟩ = some (.slice xa st.1.length ya) ∧ W.cell? ⟨g, 1, none⟩ = some (.map (some r))) 11 (by kernel_rfl) ⟨c5, d5⟩ (fun hHeld => ?_)
    refine wpAnyL_take (i := 0) (v := ?_) rfl (by kernel_rfl) (by kernel_rfl) (by kernel_rfl) (by kernel_rfl) (fun _ _ _ h => h) (Or.inl ⟨by rfl, ?_⟩) (by assumption) ?_
    rotate_left 1
    · (rintro w ⟨hSw1, hSw2⟩; go_simp; try (with_reducible rfl))
    refine wpAnyL_take (i := 1) (v := ?_) rfl (by kernel_rfl) (by kernel_rfl) (by kernel_rfl) (by kernel_rfl) (fun _ _ _ h => h) (Or.inl ⟨by rfl, ?_⟩) (by assumption) ?_
    rotate_left 1
    · (rintro w ⟨hSw1, hSw2⟩; go_simp; try (with_reducible rfl))
    refine wpAnyL_take (i := 2) (v := ?_) rfl (by kernel_rfl) (by kernel_rfl) (by kernel_rfl) (by kernel_rfl) (fun _ _ _ h => h) (Or.inl ⟨by rfl, ?_⟩) (by assumption) ?_
    rotate_left 1
    · (rintro w ⟨hSw1, hSw2⟩; go_simp; try (with_reducible rfl))
    refine wpAnyL_take (i := 3) (v := ?_) rfl (by kernel_rfl) (by kernel_rfl) (by kernel_rfl) (by kernel_rfl) (fun _ _ _ h => h) (Or.inl ⟨by rfl, ?_⟩) (by assumption) ?_
    rotate_left 1
    · (rintro w ⟨hSw1, hSw2⟩; go_simp; try (with_reducible rfl))
    refine wpAnyL_take (i := 4) (v := ?_) rfl (by kernel_rfl) (by kernel_rfl) (by kernel_rfl) (by kernel_rfl) (fun _ _ _ h => h) (Or.inl ⟨by rfl, ?_⟩) (by assumption) ?_
    rotate_left 1
    · (rintro w ⟨hSw1, hSw2⟩; go_simp; try (with_reducible rfl))
    refine wpAnyL_take (i := 5) (v := ?_) rfl (by kernel_rfl) (by kernel_rfl) (by kernel_rfl) (by kernel_rfl) (fun _ _ _ h => h) (Or.inl ⟨by rfl, ?_⟩) (by assumption) ?_
    rotate_left 1
    · (rintro w ⟨hSw1, hSw2⟩; go_simp; try (with_reducible rfl))
    refine wpAnyL_take (i := 6) (v := ?_) rfl (by kernel_rfl) (by kernel_rfl) (by kernel_rfl) (by kernel_rfl) (fun _ _ _ h => h) (Or.inl ⟨by rfl, ?_⟩) (by assumption) ?_
    rotate_left 1
    · (rintro w ⟨hSw1, hSw2⟩; go_simp; try (with_reducible rfl))
    refine wpAnyL_take (i := 7) (v := .string d) rfl (by kernel_rfl) (by kernel_rfl) (by kernel_rfl) (by kernel_rfl) (fun _ _ _ h => h) (Or.inl ⟨by rfl, ?_⟩) (by assumption) ?_
    · rintro w ⟨hSw1, hSw2⟩
      go_simp
    have hSd := hS5.below (Below.refl _ _).drew
    refine wpAnyL_one (i := 8) (by kernel_rfl) rfl (fun K hK => ?_)
    refine step_append_str rfl (.tmp 47) (.tmp 50) 22 9 rfl B 5 i0 Try.underlying22 Try.underlying9 hi hz0 hz1 hz2 (.slice xa st.1.length ya) st.1.length (Nm.bys st.1) (by go_simp) hSd.pw.rb d (by go_simp) (by (try rw [hpz]); unfold maxLen; omega) (by (try rw [hpz]); omega) hB5 ?_
    intro va wa hown9 hgrow9
    rw [Nm.bys_str, ← Nm.bys_append] at hown9
    try rw [hpz] at hown9
    obtain ⟨xb, yb, hvb⟩ := own_sl hown9
    have hblk9 := blk_grown hSd.pw.blk hgrow9 (fun e => own_blk hSd.pw.rb hSd.pw.blk (by decide) e)
    have b9 : Bw B w wa := (Bw.of (Below.refl _ _).drew hB5).app hSd.pw.rb hgrow9 hB5
    have c9 : wa.cell? ⟨g, 0, none⟩ = some (.slice xa st.1.length ya) := (blk_cell hblk9 0).trans rfl
    have d9 : wa.cell? ⟨g, 1, none⟩ = some (.map (some r)) := (blk_cell hblk9 1).trans rfl
    have f9 := blk_frozen hblk9 0
    rw [hvb] at hown9 ⊢
    refine hK.out _ _ ⟨c9, d9⟩ (fun hH3 => ?_)
    clear hK K
    refine wpAnyL_one (i := 9) (by kernel_rfl) rfl (fun K hK => ?_)
    go_simp
    refine hK.out _ _ ⟨c9, d9⟩ (fun hH4 => ?_)
    clear hK K
    refine wpAnyL_take (i := 10) (v := ?_) rfl (by kernel_rfl) (by kernel_rfl) (by kernel_rfl) (by kernel_rfl) (fun _ _ _ h => h) (Or.inl ⟨by rfl, ?_⟩) (by assumption) ?_
    rotate_left 1
    · (rintro w ⟨hSw1, hSw2⟩; go_simp; try (with_reducible rfl))
    refine wpAnyL_end (by kernel_rfl) rfl (by kernel_rfl) (fun K hK => ?_)
    go_simp
    refine hK.out _ _ ?_
    clear hK K
    have hlen : (st.1 ++ (d).data.toList).length = st.1.length + d.size := by simp <;> omega
    have hS10 : PW (wa.setCell ⟨g, 0, none⟩ (.slice xb (st.1.length + d.size) yb)) g B (st.1 ++ (d).data.toList) (.slice xb (st.1.length + d.size) yb) (.map (some r)) := ⟨blk_set hblk9 0 _, by rw [hlen]; exact own_far hown9 (own_blk hown9 hblk9 (by decide)), hS5.pw.bg⟩
    have b10 := b9.set hblk9 hS5.pw.bg 0 (.slice xb (st.1.length + d.size) yb)
    have hM10 := hS5.after hS10 b10
    have k10 := k5.trans (Bp.ofw b10)
    have HM : PM (wa.setCell ⟨g, 0, none⟩ (.slice xb (st.1.length + d.size) yb)) g B r RES.1 RES.2 (.slice xb (st.1.length + d.size) yb) := by rw [← HE.out]; exact hM10
    refine bodyPost_end (v := .tuple #[]) ?_ rfl (by refine ⟨rfl, _, HM, ?_⟩; exact k10)
    simp [results, go_sem]
end Go.Proofs.Ytocadkdfhfiijaa
/- Two bytes of a string are copied into a row of the writer's. -/
namespace Go.Proofs.Ytocadkdfhfiijaa
open Go.RowKit
set_option linter.unusedVariables false

theorem run_copy_str2 {P : Program} (w : World) (dT sT ty elem : TypeId) (b o dLen dCap : Nat) (S : ByteArray) (x y : UInt8) (hS : S.data.toList = [x, y])
    (hu : P.underlying dT = some (.slice elem)) (hs : (P.info? elem).map (·.size) = some 1) (h2 : 2 ≤ dLen)
    (hc0 : (w.cell? ⟨b, o, none⟩).isSome = true) (hc1 : (w.cell? ⟨b, o + 1, none⟩).isSome = true) (hf0 : w.frozen? ⟨b, o, none⟩ = false) (hf1 : w.frozen? ⟨b, o + 1, none⟩ = false) :
    (Builtin.copy_ #[dT, sT] ty #[.slice (some ⟨b, o, none⟩) dLen dCap, .string S]).run P w = .ok (goInt 2) ((w.setCell ⟨b, o, none⟩ (.int .u8 (x.toNat : Int))).setCell ⟨b, o + 1, none⟩ (.int .u8 (y.toNat : Int))) := by
  have hst := run_storeCells_cells (P := P) b o [.int .u8 (x.toNat : Int), .int .u8 (y.toNat : Int)] 0 w
    (by intro j hj; simp at hj; rcases (show j = 0 ∨ j = 1 by omega) with rfl | rfl; exact hc0; exact hc1)
    (by intro j hj; simp at hj; rcases (show j = 0 ∨ j = 1 by omega) with rfl | rfl; exact hf0; exact hf1)
    (by intro v hv; simp at hv; rcases hv with rfl | rfl <;> rfl)
  have hsz : S.size = 2 := by
    have := congrArg List.length hS
    simpa using this
  have hmin : Nat.min S.size dLen = 2 := by rw [hsz]; exact Nat.min_eq_left h2
  have hcells : ((S.extract 0 2).data.map fun b => (Value.int .u8 (b.toNat : Int))).toList = [.int .u8 (x.toNat : Int), .int .u8 (y.toNat : Int)] := by
    have e : S.extract 0 2 = S := by rw [← hsz]; exact Dt.ext_all S
    rw [e, Array.toList_map, hS]
    rfl
  cases hq : P.info? elem with
  | none => simp [hq] at hs
  | some i =>
    have hi : i.size = 1 := by simpa [hq] using hs
    have hst2 : (storeCells ⟨b, o, none⟩ [.int .u8 (x.toNat : Int), .int .u8 (y.toNat : Int)]).run P w = .ok () ((w.setCell ⟨b, o, none⟩ (.int .u8 (x.toNat : Int))).setCell ⟨b, o + 1, none⟩ (.int .u8 (y.toNat : Int))) := hst
    have hsz2 : ∀ W : World, (Builtin.firstCells 1 2 (.string S)).run P W = .ok ((S.extract 0 2).data.map fun b => (Value.int .u8 (b.toNat : Int))) W := fun W => rfl
    have hlen : ∀ W : World, (Builtin.lenOf (.string S)).run P W = .ok 2 W := fun W => by
      have : (Builtin.lenOf (.string S)).run P W = .ok S.size W := rfl
      rw [this, hsz]
    have hmin2 : Nat.min 2 dLen = 2 := Nat.min_eq_left h2
    have hcl : (Array.map (fun b => Value.int IntKind.u8 (b.toNat : Int)) (S.extract 0 2).data) = #[.int .u8 (x.toNat : Int), .int .u8 (y.toNat : Int)] := Array.toList_inj.1 hcells
    rw [hcl] at hsz2
    simp [Builtin.copy_, run_underlying hu, hlen, hmin2, sizeOf, typeInfo, hq, hi, hsz2, hst2]
    done

theorem step_copy_str2 {P : Program} {ops : Array Oper} {o : Oper} {a : Act} {w : World} {K : Act → World → Prop} {Q : Exit → Act → World → Prop} {E : Prop} (hgd : o.guard = none) (d s : Operand) (dT sT : TypeId)
    (ho : o.op = .call { callee := .builtin .copy, args := #[d, s], argTypes := #[dT, sT] }) (elem : TypeId) (hu : P.underlying dT = some (.slice elem)) (hsz : (P.info? elem).map (·.size) = some 1)
    (b off dLen dCap : Nat) (hd : a.eval d = .slice (some ⟨b, off, none⟩) dLen dCap) (S : ByteArray) (hs : a.eval s = .string S) (x y : UInt8) (hS : S.data.toList = [x, y]) (h2 : 2 ≤ dLen)
    (hc0 : (w.cell? ⟨b, off, none⟩).isSome = true) (hc1 : (w.cell? ⟨b, off + 1, none⟩).isSome = true) (hf0 : w.frozen? ⟨b, off, none⟩ = false) (hf1 : w.frozen? ⟨b, off + 1, none⟩ = false)
    (h : K (a.put o.dst (goInt 2)) ((w.setCell ⟨b, off, none⟩ (.int .u8 (x.toNat : Int))).setCell ⟨b, off + 1, none⟩ (.int .u8 (y.toNat : Int)))) :
    if Region.wanted o (yielded ops a.tmps) = true then Oper.wp P o a w K Q else E := by
  have hw : Region.wanted o (yielded ops a.tmps) = true := by simp [Region.wanted, hgd]
  rw [if_pos hw]
  have hrun := run_copy_str2 (P := P) w dT sT o.type elem b off dLen dCap S x y hS hu hsz h2 hc0 hc1 hf0 hf1
  unfold Oper.wp
  simp [execOp, ho, resolve, invoke, builtin, hd, hs, hrun, Result.andThen]
  exact h

theorem PW.store {w : World} {g B b cap n : Nat} {bs : List UInt8} {vm : Value} (h : PW w g B bs (.slice (some ⟨b, 0, none⟩) n cap) vm) (hn : n = bs.length) (j : Nat) (x : UInt8) :
    PW (w.setCell ⟨b, j, none⟩ (.int .u8 (x.toNat : Int))) g B (bs.set j x) (.slice (some ⟨b, 0, none⟩) n cap) vm := by
  subst hn
  have hb := h.rb
  have hne : (Value.slice (some ⟨b, 0, none⟩) bs.length cap).ownBlock ≠ some g := own_blk hb h.blk (by decide)
  have hgb : g ≠ b := by intro e; subst e; exact hne rfl
  refine ⟨blk_far h.blk hgb, ?_, h.bg⟩
  rw [← bys_set, List.length_set]
  exact (hb.stored j _).1
theorem PW.storeBw {w0 w : World} {g B b cap n : Nat} {bs : List UInt8} {vm : Value} (h : PW w g B bs (.slice (some ⟨b, 0, none⟩) n cap) vm) (hk : Bw B w0 w) (j : Nat) (x : Value) :
    Bw B w0 (w.setCell ⟨b, j, none⟩ x) := by
  have hb := h.rb
  have hBb : B ≤ b := (hb.lt b rfl).1
  refine ⟨hk.be.setCell hBb _, fun k o hk' h1 h2 => ?_⟩
  have hk2 := hk.kp k o hk' h1 h2
  have hne : k ≠ b := by
    intro e
    subst e
    rcases hb.2 with ⟨h3, _⟩ | ⟨g', cap', cur, h3, _, hh, _⟩
    · cases h3
    · cases h3
      rw [hh] at hk2
      cases hk2
      exact h1 rfl
  rw [heap_setCell_other w ⟨b, j, none⟩ k _ (by simpa using hne)]
  exact hk2
theorem PW.some {w : World} {g B : Nat} {bs : List UInt8} {vb vm : Value} (h : PW w g B bs vb vm) (hn : 0 < bs.length) : ∃ b cap, vb = .slice (some ⟨b, 0, none⟩) bs.length cap := by
  rcases h.rb.2 with ⟨rfl, h2⟩ | ⟨g', cap', cur, rfl, _⟩
  · simp at h2; simp [h2] at hn
  · exact ⟨g', cap', rfl⟩
end Go.Proofs.Ytocadkdfhfiijaa
/- (*writer).record by its contract. -/
namespace Go.Proofs.Ytocadkdfhfiijaa
open Go.RowKit
set_option linter.unusedVariables false

theorem number_pm (n k : Int) (PB : ByteArray) (hput : ∀ W, Calls Try.prog 63 #[.int .i64 n, .int .i64 k] W fun e w' => e = .returned (.string PB) ∧ Below W.heap.size W w') (g B r : Nat) (bs : List UInt8) (pls : List (ByteArray × Nat)) (vb : Value) (w : World) (h : PM w g B r bs pls vb) (hB : B ≤ w.heap.size) (hl : bs.length + PB.size ≤ 100000000) :
    Calls Try.prog 43 #[.pointer (some ⟨g, 0, none⟩), .int .i64 n, .int .i64 k] w fun e w' => e = .returned (.tuple #[]) ∧ ∃ vb', PM w' g B r (bs ++ PB.data.toList) pls vb' ∧ Bp B w w' := by
  refine (number_w_any n k PB hput g B bs vb _ w h.pw hB hl).mono ?_
  rintro e w' ⟨rfl, vb', h1, h2⟩
  exact ⟨rfl, vb', h.after h1 h2, Bp.ofw h2⟩
theorem number2_pm (n : Nat) (hn : n < 65536) (g B r : Nat) (bs : List UInt8) (pls : List (ByteArray × Nat)) (vb : Value) (w : World) (h : PM w g B r bs pls vb) (hB : B ≤ w.heap.size) (hl : bs.length + 2 ≤ 100000000) :
    Calls Try.prog 43 #[.pointer (some ⟨g, 0, none⟩), .int .i64 (n : Int), .int .i64 2] w fun e w' => e = .returned (.tuple #[]) ∧ ∃ vb', PM w' g B r (bs ++ put2 n) pls vb' ∧ Bp B w w' := by
  have := number_pm (n : Int) 2 ⟨(put2 n).toArray⟩ (fun W => bigBytes2_any n W hn) g B r bs pls vb w h hB (by show bs.length + (put2 n).toArray.size ≤ _; simp [put2]; omega)
  simpa using this
theorem number4_pm (n : Int) (h0 : 0 ≤ n) (h1 : n ≤ 4294967295) (g B r : Nat) (bs : List UInt8) (pls : List (ByteArray × Nat)) (vb : Value) (w : World) (h : PM w g B r bs pls vb) (hB : B ≤ w.heap.size) (hl : bs.length + 4 ≤ 100000000) :
    Calls Try.prog 43 #[.pointer (some ⟨g, 0, none⟩), .int .i64 n, .int .i64 4] w fun e w' => e = .returned (.tuple #[]) ∧ ∃ vb', PM w' g B r (bs ++ put4 n) pls vb' ∧ Bp B w w' := by
  have := number_pm n 4 ⟨(put4 n).toArray⟩ (fun W => bigBytes4_any n W h0 h1) g B r bs pls vb w h hB (by show bs.length + (put4 n).toArray.size ≤ _; simp [put4]; omega)
  simpa using this

set_option maxRecDepth 100000 in
set_option maxHeartbeats 3200000 in
theorem record_w_any (o : ByteArray) (t c : Nat) (tt : Int) (d : ByteArray) (hr : rcOK ⟨o, t, c, tt, d⟩ = true) (g B r : Nat) (bs : List UInt8) (pls : List (ByteArray × Nat)) (vb : Value) (w : World) (h : PM w g B r bs pls vb) (hB : B ≤ w.heap.size) (hl : bs.length + 70000 ≤ 50000000) (hok : PlOK pls bs.length) :
    Calls Try.prog 44 #[.pointer (some ⟨g, 0, none⟩), .agg #[.string o, .int .i64 t, .int .i64 c, .int .i64 tt, .string d]] w fun e w' => e = .returned (.tuple #[]) ∧ ∃ vb', PM w' g B r (rrW ⟨o, t, c, tt, d⟩ (bs, pls)).1 (rrW ⟨o, t, c, tt, d⟩ (bs, pls)).2 vb' ∧ Bp B w w' := by
  obtain ⟨h1, ⟨t', ht, htl⟩, ⟨c', hc, hcl⟩, ht0, ht1, h6, h7⟩ := rc_parts hr
  have ht : (t : Int) = t' := ht
  have hc : (c : Int) = c' := hc
  obtain rfl : t = t' := by omega
  obtain rfl : c = c' := by omega
  simp only at h1 ht0 ht1 h6 h7
  clear ht hc hr
  obtain ⟨ls, hs⟩ := Option.isSome_iff_exists.1 h1
  have hos := name_short h1
  have hal := rrA_len h1 t c tt (bs, pls)
  simp only at hal
  have hao := rrA_ok o t c tt (bs, pls) hok
  have hdl := daW_len h6 (rrA o t c tt (bs, pls))
  rw [show rrW ⟨o, t, c, tt, d⟩ (bs, pls) = rrFin (rrA o t c tt (bs, pls)).1.length (daW t d (rrA o t c tt (bs, pls))) from rfl]
  have hnl := nmW_len ls bs pls (fun x hx => ((Nm.split_join hs).2 x hx).1)
  have hnz := Nm.split_size hs
  have HA1 : Hid ((((((nmW ls bs pls).1 ++ put2 t) ++ put2 c) ++ put4 tt) ++ put2 0) = (rrA o t c tt (bs, pls)).1) := by
    show _ = _
    simp [rrA, nmX_of hs, put2]
  have HA2 : Hid ((nmW ls bs pls).2 = (rrA o t c tt (bs, pls)).2) := by
    show _ = _
    simp [rrA, nmX_of hs]
  generalize rrA o t c tt (bs, pls) = A at *
  have bA := (Below.refl w.heap.size w).alloc (Nat.le_refl _) (.cells #[.string o, .int .i64 t, .int .i64 c, .int .i64 tt, .string d] 66)
  have hblk := blk_new w #[.string o, .int .i64 t, .int .i64 c, .int .i64 tt, .string d] 66
  have hgl : w.heap.size < (w.alloc (.cells #[.string o, .int .i64 t, .int .i64 c, .int .i64 tt, .string d] 66)).heap.size := by simp
  have hnm := name_w_any o ls hs g B r bs pls vb _ (h.below bA) (Nat.le_trans hB bA.size) (by omega) hok
  have hn1 := fun vb W (h : PM W g B r (nmW ls bs pls).1 (nmW ls bs pls).2 vb) (hB : B ≤ W.heap.size) => number2_pm t htl g B r _ _ vb W h hB (by omega)
  have hn2 := fun vb W (h : PM W g B r ((nmW ls bs pls).1 ++ put2 t) (nmW ls bs pls).2 vb) (hB : B ≤ W.heap.size) => number2_pm c hcl g B r _ _ vb W h hB (by simp [put2]; omega)
  have hn3 := fun vb W (h : PM W g B r (((nmW ls bs pls).1 ++ put2 t) ++ put2 c) (nmW ls bs pls).2 vb) (hB : B ≤ W.heap.size) => number4_pm tt ht0 ht1 g B r _ _ vb W h hB (by simp [put2]; omega)
  have hn4 := fun vb W (h : PM W g B r ((((nmW ls bs pls).1 ++ put2 t) ++ put2 c) ++ put4 tt) (nmW ls bs pls).2 vb) (hB : B ≤ W.heap.size) => number2_pm 0 (by decide) g B r _ _ vb W h hB (by simp [put2, put4]; omega)
  rw [HA1.out, show ((0 : Nat) : Int) = 0 from rfl] at hn4
  have hda := fun vb W (h : PM W g B r A.1 A.2 vb) (hB : B ≤ W.heap.size) => data_w_any t d h6 h7 g B r A.1 A.2 vb W h hB (by omega) hao
  rw [show daW t d (A.1, A.2) = daW t d A from rfl] at hda
  generalize daW t d A = D at *
  obtain ⟨RES, HR⟩ : ∃ R, Hid (rrFin A.1.length D = R) := ⟨_, rfl⟩
  rw [HR.out]
  obtain ⟨k, hk⟩ : ∃ k, A.1.length = k + 2 := ⟨A.1.length - 2, by omega⟩
  obtain ⟨n, hn⟩ : ∃ n, D.1.length = k + 2 + n := ⟨D.1.length - (k + 2), by omega⟩
  have hn2' : (n : Int) ≤ 65535 := by omega
  have hkI : (k : Int) ≤ 60000000 := by omega
  have hwk : IntKind.i64.wrap (k : Int) = (k : Int) := wrap_pos k (by omega)
  have hwn : IntKind.i64.wrap (n : Int) = (n : Int) := wrap_pos n (by omega)
  have q1 : (k : Int) + 2 + n - (k + 2) = n := by omega
  have hbb := fun W => bigBytes2_any n W (by omega)
  generalize nmW ls bs pls = N at *
  clear HA1 hs hnl hnz
  go_enter Try.func44, Try.ntmps44
  go_wp2_with first
    | (
      go_at_call 42
      refine hnm.mono ?_
      rintro e w1 ⟨rfl, vb1, hM1, k1⟩
      have hB1 := Nat.le_trans hB (Nat.le_trans bA.size k1.be.size)
      have kb1 := k1.kp _ _ _ hblk (by decide) (by decide)
      have x1 := (blk_cell kb1 1).trans rfl)
    | (
      go_at_call 43
      with_reducible refine (hn1 _ _ hM1 hB1).mono ?_
      rintro e w2 ⟨rfl, vb2, hM2, k2⟩
      have hB2 := Nat.le_trans hB1 k2.be.size
      have kb2 := k2.kp _ _ _ kb1 (by decide) (by decide)
      have x2 := (blk_cell kb2 2).trans rfl)
    | (
      go_at_call 43
      with_reducible refine (hn2 _ _ hM2 hB2).mono ?_
      rintro e w3 ⟨rfl, vb3, hM3, k3⟩
      have hB3 := Nat.le_trans hB2 k3.be.size
      have kb3 := k3.kp _ _ _ kb2 (by decide) (by decide)
      have x3 := (blk_cell kb3 3).trans rfl)
    | (
      go_at_call 43
      with_reducible refine (hn3 _ _ hM3 hB3).mono ?_
      rintro e w4 ⟨rfl, vb4, hM4, k4⟩
      have hB4 := Nat.le_trans hB3 k4.be.size
      have kb4 := k4.kp _ _ _ kb3 (by decide) (by decide))
    | (
      go_at_call 43
      with_reducible refine (hn4 _ _ hM4 hB4).mono ?_
      rintro e w5 ⟨rfl, vb5, hM5, k5⟩
      rw [HA2.out] at hM5
      have hB5 := Nat.le_trans hB4 k5.be.size
      have kb5 := k5.kp _ _ _ kb4 (by decide) (by decide)
      have x51 := (blk_cell kb5 1).trans rfl
      have x54 := (blk_cell kb5 4).trans rfl
      obtain ⟨b5, cap5, hv5⟩ := hM5.pw.some (by omega)
      subst hv5
      have y50 := (blk_cell hM5.pw.blk 0).trans rfl)
    | (
      go_at_call 64
      refine (hda _ _ hM5 hB5).mono ?_
      rintro e w6 ⟨rfl, vb6, hM6, k6⟩
      have hB6 := Nat.le_trans hB5 k6.be.size)
  obtain ⟨b, cap, hv6⟩ := hM6.pw.some (by omega)
  subst hv6
  have hM6p := hM6
  rw [hn] at hM6
  have hrb6 := hM6.pw.rb
  rw [hn] at hrb6
  have c6 : w6.cell? ⟨g, 0, none⟩ = some (.slice (some ⟨b, 0, none⟩) (k + 2 + n) cap) := (blk_cell hM6.pw.blk 0).trans rfl
  have hk6 : Bp B w w6 := (Bp.of bA hB).trans (k1.trans (k2.trans (k3.trans (k4.trans (k5.trans k6)))))
  clear hnm hn1 hn2 hn3 hn4 hda hM1 hM2 hM3 hM4 hM5 kb1 kb2 kb3 kb4 kb5 k1 k2 k3 k4 k5 k6 x1 x2 x3 x51 x54 y50 hblk bA hgl h hB1 hB2 hB3 hB4 hB5
  obtain ⟨hcap, hmx⟩ : k + 2 + n ≤ cap ∧ cap ≤ maxLen := by
    obtain ⟨_, a', cap', e, h1, h2, _⟩ := CRow.of_owns hrb6
    cases e
    exact ⟨h1, h2⟩
  unfold maxLen at hmx
  refine wp_region_held_drew (S := fun W => W.cell? ⟨g, 0, none⟩ = some (.slice (some ⟨b, 0, none⟩) (k + 2 + n) cap)) (by kernel_rfl) c6 (fun hHeld => ?_)
  refine wpAnyH_take (i := 0) (v := ?_) rfl (by kernel_rfl) (by kernel_rfl) (by kernel_rfl) (fun _ _ _ h => h) (Or.inl ⟨by rfl, ?_⟩) (by assumption) ?_
  rotate_left 1
  · (intro w hSw1; go_simp; try (with_reducible rfl))
  refine wpAnyH_take (i := 1) (v := ?_) rfl (by kernel_rfl) (by kernel_rfl) (by kernel_rfl) (fun _ _ _ h => h) (Or.inl ⟨by rfl, ?_⟩) (by assumption) ?_
  rotate_left 1
  · (intro w hSw1; go_simp; try (with_reducible rfl))
  refine wpAnyH_take (i := 2) (v := ?_) rfl (by kernel_rfl) (by kernel_rfl) (by kernel_rfl) (fun _ _ _ h => h) (Or.inl ⟨by rfl, ?_⟩) (by assumption) ?_
  rotate_left 1
  · (intro w hSw1; go_simp; try (with_reducible rfl))
  refine wpAnyH_take (i := 3) (v := ?_) rfl (by kernel_rfl) (by kernel_rfl) (by kernel_rfl) (fun _ _ _ h => h) (Or.inl ⟨by rfl, ?_⟩) (by assumption) ?_
  rotate_left 1
  · (intro w hSw1; go_simp; try (with_reducible rfl))
  refine wpAnyH_take (i := 4) (v := ?_) rfl (by kernel_rfl) (by kernel_rfl) (by kernel_rfl) (fun _ _ _ h => h) (Or.inl ⟨by rfl, ?_⟩) (by assumption) ?_
  rotate_left 1
  · (intro w hSw1; go_simp; try (with_reducible rfl))
  refine wpAnyH_take (i := 5) (v := .int .i64 (k : Int)) rfl (by kernel_rfl) (by kernel_rfl) (by kernel_rfl) (fun _ _ _ h => h) (Or.inl ⟨by rfl, ?_⟩) (by assumption) ?_
  · intro w hSw1
    go_simp
    try rw [hwk]
  have hck : ¬ cap = k := by omega
  refine wpAnyH_take (i := 6) (v := .slice (some ⟨b, k, none⟩) (k + 2 + n - k) (cap - k)) rfl (by kernel_rfl) (by kernel_rfl) (by kernel_rfl) (fun _ _ _ h => h) (Or.inl ⟨by rfl, ?_⟩) (by assumption) ?_
  · intro w hSw1
    go_simp
    try rw [if_neg hck]
    try (intro hx; exfalso; omega)
  refine wpAnyH_take (i := 7) (v := ?_) rfl (by kernel_rfl) (by kernel_rfl) (by kernel_rfl) (fun _ _ _ h => h) (Or.inl ⟨by rfl, ?_⟩) (by assumption) ?_
  rotate_left 1
  · (intro w hSw1; go_simp; try (with_reducible rfl))
  refine wpAnyH_take (i := 8) (v := ?_) rfl (by kernel_rfl) (by kernel_rfl) (by kernel_rfl) (fun _ _ _ h => h) (Or.inl ⟨by rfl, ?_⟩) (by assumption) ?_
  rotate_left 1
  · (intro w hSw1; go_simp; try (with_reducible rfl))
  refine wpAnyH_take (i := 9) (v := ?_) rfl (by kernel_rfl) (by kernel_rfl) (by kernel_rfl) (fun _ _ _ h => h) (Or.inl ⟨by rfl, ?_⟩) (by assumption) ?_
  rotate_left 1
  · (intro w hSw1; go_simp; try (with_reducible rfl))
  refine wpAnyH_take (i := 10) (v := ?_) rfl (by kernel_rfl) (by kernel_rfl) (by kernel_rfl) (fun _ _ _ h => h) (Or.inl ⟨by rfl, ?_⟩) (by assumption) ?_
  rotate_left 1
  · (intro w hSw1; go_simp; try (with_reducible rfl))
  refine wpAnyH_take (i := 11) (v := ?_) rfl (by kernel_rfl) (by kernel_rfl) (by kernel_rfl) (fun _ _ _ h => h) (Or.inl ⟨by rfl, ?_⟩) (by assumption) ?_
  rotate_left 1
  · (intro w hSw1; go_simp; try (with_reducible rfl))
  refine wpAnyH_take (i := 12) (v := ?_) rfl (by kernel_rfl) (by kernel_rfl) (by kernel_rfl) (fun _ _ _ h => h) (Or.inl ⟨by rfl, ?_⟩) (by assumption) ?_
  rotate_left 1
  · (intro w hSw1; go_simp; try (with_reducible rfl))
  refine wpAnyH_take (i := 13) (v := .int .i64 (n : Int)) rfl (by kernel_rfl) (by kernel_rfl) (by kernel_rfl) (fun _ _ _ h => h) (Or.inl ⟨by rfl, ?_⟩) (by assumption) ?_
  · intro w hSw1
    go_simp
    try rw [q1]
    try rw [hwn]
  have hMd := hM6p.below (Below.refl _ _).drew
  refine wpAnyH_ready (rs := [14]) (by kernel_rfl) (by simp) ?_
  refine AllReadyH.cons rfl (fun K hK => ?_) AllReadyH.nil
  go_simp
  refine (hbb _).mono ?_
  rintro e w7 ⟨rfl, hb7⟩
  go_wp2_with fail
  have hM7 := hMd.below hb7
  have hB7 : B ≤ w7.heap.size := Nat.le_trans hB6 hb7.size
  have k7 : Bp B w w7 := hk6.trans ((Bp.of (Below.refl _ _).drew hB6).trans (Bp.of hb7 hB6))
  have hP7 := hM7.pw
  rw [hn] at hP7
  have c7 : w7.cell? ⟨g, 0, none⟩ = some (.slice (some ⟨b, 0, none⟩) (k + 2 + n) cap) := (blk_cell hP7.blk 0).trans rfl
  refine hK.out _ _ c7 (fun _ => ?_)
  clear hK K
  have hS8 := hP7.store hn.symm k (UInt8.ofNat (n / 256))
  have hn8 : (D.1.set k (UInt8.ofNat (n / 256))).length = k + 2 + n := by rw [List.length_set, hn]
  have hS9 := hS8.store hn8.symm (k + 1) (UInt8.ofNat (n % 256))
  have b8 := hP7.storeBw (Bw.refl B w7) k (.int .u8 ((UInt8.ofNat (n / 256)).toNat : Int))
  have b9 := hS8.storeBw b8 (k + 1) (.int .u8 ((UInt8.ofNat (n % 256)).toNat : Int))
  have hM9 := hM7.after hS9 b9
  have c9 := (blk_cell hM9.pw.blk 0).trans rfl
  have hrb7 := hP7.rb
  rw [hn] at hrb7
  obtain ⟨vk, hvk⟩ : ∃ v, (Nm.bys D.1)[k]? = some v := ⟨_, List.getElem?_eq_getElem (by simp [Nm.bys]; omega)⟩
  obtain ⟨vk1, hvk1⟩ : ∃ v, (Nm.bys D.1)[k + 1]? = some v := ⟨_, List.getElem?_eq_getElem (by simp [Nm.bys]; omega)⟩
  have d7 := (hrb7.cellAt k (by omega)).trans hvk
  have d71 := (hrb7.cellAt (k + 1) (by omega)).trans hvk1
  have f7 := hrb7.frozenAt k
  have f71 := hrb7.frozenAt (k + 1)
  refine wpAnyH_ready (rs := [15]) (by kernel_rfl) (by simp) ?_
  refine AllReadyH.cons rfl (fun K hK => ?_) AllReadyH.nil
  refine step_copy_str2 rfl (.tmp 40) (.tmp 48) 22 9 rfl 5 Try.underlying22 (by kernel_rfl) b k (k + 2 + n - k) (cap - k) (by go_simp) ⟨(put2 n).toArray⟩ (by go_simp) (UInt8.ofNat (n / 256)) (UInt8.ofNat (n % 256)) (by simp [put2]) (by omega) (by rw [d7]; rfl) (by rw [d71]; rfl) f7 f71 ?_
  refine hK.out _ _ c9 (fun _ => ?_)
  clear hK K
  refine wpAnyH_done (by kernel_rfl) ?_ _
  have HM : PM ((w7.setCell ⟨b, k, none⟩ (.int .u8 ((UInt8.ofNat (n / 256)).toNat : Int))).setCell ⟨b, k + 1, none⟩ (.int .u8 ((UInt8.ofNat (n % 256)).toNat : Int))) g B r RES.1 RES.2 (.slice (some ⟨b, 0, none⟩) (k + 2 + n) cap) := by
    rw [← HR.out, rrFin, hn, hk, show k + 2 + n - (k + 2) = n by omega, show k + 2 - 2 = k by omega, show k + 2 - 1 = k + 1 by omega]
    exact hM9
  refine bodyPost_end (v := .tuple #[]) ?_ rfl ⟨rfl, _, HM, k7.trans (Bp.ofw b9)⟩
  simp [results, go_sem]
end Go.Proofs.Ytocadkdfhfiijaa
