import Derived.Test.YtmaopfagkffccaaGreatJParts
import Derived.Test.YtmaopfagkffccaaGreatSCheck
/- spec.l04WriteRecord by its contract: data with names. -/
namespace Go.Proofs.YtmaopfagkffccaaGreat
open Go.RowKit
set_option linter.unusedVariables false

set_option maxRecDepth 100000 in
set_option maxHeartbeats 3200000 in
theorem l04WriteRecord_names (o : ByteArray) (t c : Nat) (tt : Int) (d : ByteArray) (hr : rcW ⟨o, t, c, tt, d⟩) (hd0 : d.size ≠ 0) (hpo : pointed t) (g B : Nat) (bs : List UInt8) (pls : List (ByteArray × Nat)) (vb vp : Value) (w : World) (h : SW w g B bs pls vb vp) (hB : B ≤ w.heap.size) (hl : bs.length + 70000 ≤ 50000000) (hok : PlOK pls bs.length) :
    Calls Tryz.prog 60 #[.pointer (some ⟨g, 0, none⟩), .agg #[.string o, .int .i64 t, .int .i64 c, .int .i64 tt, .string d]] w fun e w' => e = .returned (.tuple #[]) ∧ ∃ vb' vp', SW w' g B (rrW ⟨o, t, c, tt, d⟩ (bs, pls)).1 (rrW ⟨o, t, c, tt, d⟩ (bs, pls)).2 vb' vp' ∧ Bk B w w' := by
  obtain ⟨h1, ⟨t', ht, htl⟩, ⟨c', hc, hcl⟩, ht0, ht1, h6, h7⟩ := hr
  have ht : (t : Int) = t' := ht
  have hc : (c : Int) = c' := hc
  obtain rfl : t = t' := by omega
  obtain rfl : c = c' := by omega
  simp only [Int.toNat_natCast] at h1 ht0 ht1 h6 h7
  clear ht hc
  obtain ⟨ls, hs⟩ := Option.isSome_iff_exists.1 h1
  have hos := name_short h1
  have hal := rrA_len h1 t c tt (bs, pls)
  have hao := rrA_ok o t c tt (bs, pls) hok
  have hdl := daW_lenW h6 (rrA o t c tt (bs, pls))
  rw [show rrW ⟨o, t, c, tt, d⟩ (bs, pls) = rrFin (rrA o t c tt (bs, pls)).1.length (daW t d (rrA o t c tt (bs, pls))) from rfl]
  have HA1 : Hid ((nmW ls bs pls).1 ++ (((⟨(put2 t).toArray⟩ : ByteArray) ++ ⟨(put2 c).toArray⟩ ++ ⟨(put4 tt).toArray⟩) ++ ⟨#[0, 0]⟩).data.toList = (rrA o t c tt (bs, pls)).1) := by
    show _ = _
    simp [rrA, nmX_of hs, ByteArray.data_append]
  have HA2 : Hid ((nmW ls bs pls).2 = (rrA o t c tt (bs, pls)).2) := by
    show _ = _
    simp [rrA, nmX_of hs]
  have hps : (((⟨(put2 t).toArray⟩ : ByteArray) ++ ⟨(put2 c).toArray⟩ ++ ⟨(put4 tt).toArray⟩) ++ ⟨#[0, 0]⟩).size = 10 := by
    rw [ByteArray.size_append, ByteArray.size_append, ByteArray.size_append]; rfl
  have hq2 : ¬ 9223372036854775807 < (⟨(put2 t).toArray⟩ : ByteArray).size + (⟨(put2 c).toArray⟩ : ByteArray).size := by
    have : (⟨(put2 t).toArray⟩ : ByteArray).size + (⟨(put2 c).toArray⟩ : ByteArray).size = 4 := rfl
    omega
  have hq3 : (⟨(put2 t).toArray⟩ : ByteArray).size + (⟨(put2 c).toArray⟩ : ByteArray).size + (⟨(put4 tt).toArray⟩ : ByteArray).size = 8 := rfl
  have hnl := nmW_len ls bs pls (fun x hx => ((Nm.split_join hs).2 x hx).1)
  have hnz := Nm.split_size hs
  generalize rrA o t c tt (bs, pls) = A at *
  have hcc := (h6.resolve_left hd0).resolve_left (fun e => e hpo)
  obtain ⟨ps, hps1, hcs, hds⟩ := good_parts hcc
  obtain ⟨hfl, hcat, hnms⟩ := Dt.parts_cat _ _ _ hps1
  have hparts := fun w => l02Parts_any (Dt.formS t) d w (form_ok t) hds
  have hform := l02Form_any t
  have hplf : ps.length = (Dt.formS t).size := by
    rw [← hfl, Dt.specP]
    simp
  have hf100 := (form_ok t).1
  have hstep : ∀ (k : Nat) (x : ByteArray) (s : Wst), (hk : k < (Dt.formS t).size) → ps[k]? = some x → daP ((Dt.specP t).drop k) (ps.drop k) s = daP ((Dt.specP t).drop (k + 1)) (ps.drop (k + 1)) (if decide ((Dt.formS t)[k].toNat = 110) then nmX x s else (s.1 ++ x.data.toList, s.2)) := by
    intro k x s hk hx
    have := daP_step (s := s) (p := Dt.letP (Dt.formS t)[k]) (fs := Dt.specP t) (by rw [Dt.specP, List.getElem?_map, Nm.get_data hk]; rfl) hx
    rwa [isN_let] at this
  have hnmk : ∀ (k : Nat) (x : ByteArray), (hk : k < (Dt.formS t).size) → ps[k]? = some x → (Dt.formS t)[k].toNat = 110 → ∃ ls, Nm.split x = some ls := by
    intro k x hk hx h110
    have := hnms k (Dt.letP (Dt.formS t)[k]) x (by rw [Dt.specP, List.getElem?_map, Nm.get_data hk]; rfl) hx (by rw [isN_let, h110]; rfl)
    exact Option.isSome_iff_exists.1 this
  have hcl0 : (Dt.catL ps).length = d.size := by rw [hcat]; simp
  have HD : Hid (daP (Dt.specP t) ps A = daW t d A) := by show _ = _; rw [daW, if_neg (by simp [hd0, hpo]), hps1]; rfl
  rw [Dt.specP] at hps1
  generalize daW t d A = D at *
  generalize Dt.specP t = fs at *
  generalize Dt.formS t = f at *
  have hparts : ∀ w : World, Calls Tryz.prog 81 #[.string f, .string d] w fun e w' => ∃ v, e = .returned (.tuple #[v, .bool true]) ∧ w'.ownsRow w.heap.size 9 1 v ps.length (ps.map Value.string) ∧ Below w.heap.size w w' := by
    intro w
    refine (hparts w).mono ?_
    rintro e w' ⟨v, rfl, h1, h2⟩
    rw [hps1]
    exact ⟨v, rfl, h1 ps hps1, h2⟩
  obtain ⟨RES, HR⟩ : ∃ R, Hid (rrFin A.1.length D = R) := ⟨_, rfl⟩
  rw [HR.out]
  clear hps1 hcs hfl hcat hnms hcc h6
  have bA := (Below.refl w.heap.size w).alloc (Nat.le_refl _) (.cells #[.string o, .int .i64 t, .int .i64 c, .int .i64 tt, .string d] 72)
  have hblk := blk_new w #[.string o, .int .i64 t, .int .i64 c, .int .i64 tt, .string d] 72
  have hnm := l04Name_any o ls hs g B bs pls vb vp _ (h.below bA) (Nat.le_trans hB bA.size) (by omega) hok
  have hp1 := fun W => l02Put2_any t W htl
  have hp2 := fun W => l02Put2_any c W hcl
  have hp4 := fun W => l02Put_any tt W ht0 ht1
  have hgl : w.heap.size < (w.alloc (.cells #[.string o, .int .i64 t, .int .i64 c, .int .i64 tt, .string d] 72)).heap.size := by simp
  have htx := fun vb2 vp2 W (h : SW W g B (nmW ls bs pls).1 (nmW ls bs pls).2 vb2 vp2) (hB : B ≤ W.heap.size) => l04Text_any (((⟨(put2 t).toArray⟩ : ByteArray) ++ ⟨(put2 c).toArray⟩ ++ ⟨(put4 tt).toArray⟩) ++ ⟨#[0, 0]⟩) g B _ _ vb2 vp2 W h hB (by rw [hps]; omega)
  rw [HA1.out] at htx
  clear hps HA1 hs
  generalize (⟨(put2 t).toArray⟩ : ByteArray) = P1 at *
  generalize (⟨(put2 c).toArray⟩ : ByteArray) = P2 at *
  generalize (⟨(put4 tt).toArray⟩ : ByteArray) = P3 at *
  generalize nmW ls bs pls = N at *
  go_enter Tryz.func60, Tryz.ntmps60
  go_wp2_with (go_at_call 78; refine hnm.mono ?_; rintro e w1 ⟨rfl, vb1, vp1, hS1, hb1⟩)
  have hbk : SWB w w1 g B N.1 N.2 vb1 vp1 w.heap.size #[.string o, .int .i64 t, .int .i64 c, .int .i64 tt, .string d] 72 := ⟨⟨hS1, Nat.le_trans hB (Nat.le_trans bA.size hb1.be.size), (Bk.of bA hB).trans hb1⟩, hb1.kp _ _ _ hblk (by decide) (by decide) (by decide)⟩
  clear hS1 hb1 hblk bA hnm h hgl hB
  generalize w.heap.size = bx at *
  refine wp_region_held_drew (S := fun W => W.cell? ⟨bx, 1, none⟩ = some (.int .i64 t) ∧ W.cell? ⟨bx, 2, none⟩ = some (.int .i64 c) ∧ W.cell? ⟨bx, 3, none⟩ = some (.int .i64 tt)) (by kernel_rfl) ⟨(blk_cell hbk.2 1).trans rfl, (blk_cell hbk.2 2).trans rfl, (blk_cell hbk.2 3).trans rfl⟩ (fun hHeld => ?_)
  refine wpAnyH_take (i := 0) (v := ?_) rfl (by kernel_rfl) (by kernel_rfl) (by kernel_rfl) (fun _ _ _ h => h) (Or.inl ⟨by rfl, ?_⟩) (by assumption) ?_
  rotate_left 1
  · (rintro w ⟨hSw1, hSw2, hSw3⟩; go_simp; try (with_reducible rfl))
  refine wpAnyH_take (i := 1) (v := ?_) rfl (by kernel_rfl) (by kernel_rfl) (by kernel_rfl) (fun _ _ _ h => h) (Or.inl ⟨by rfl, ?_⟩) (by assumption) ?_
  rotate_left 1
  · (rintro w ⟨hSw1, hSw2, hSw3⟩; go_simp; try (with_reducible rfl))
  refine wpAnyH_take (i := 2) (v := ?_) rfl (by kernel_rfl) (by kernel_rfl) (by kernel_rfl) (fun _ _ _ h => h) (Or.inl ⟨by rfl, ?_⟩) (by assumption) ?_
  rotate_left 1
  · (rintro w ⟨hSw1, hSw2, hSw3⟩; go_simp; try (with_reducible rfl))
  refine wpAnyH_take (i := 4) (v := ?_) rfl (by kernel_rfl) (by kernel_rfl) (by kernel_rfl) (fun _ _ _ h => h) (Or.inl ⟨by rfl, ?_⟩) (by assumption) ?_
  rotate_left 1
  · (rintro w ⟨hSw1, hSw2, hSw3⟩; go_simp; try (with_reducible rfl))
  refine wpAnyH_take (i := 5) (v := ?_) rfl (by kernel_rfl) (by kernel_rfl) (by kernel_rfl) (fun _ _ _ h => h) (Or.inl ⟨by rfl, ?_⟩) (by assumption) ?_
  rotate_left 1
  · (rintro w ⟨hSw1, hSw2, hSw3⟩; go_simp; try (with_reducible rfl))
  refine wpAnyH_take (i := 8) (v := ?_) rfl (by kernel_rfl) (by kernel_rfl) (by kernel_rfl) (fun _ _ _ h => h) (Or.inl ⟨by rfl, ?_⟩) (by assumption) ?_
  rotate_left 1
  · (rintro w ⟨hSw1, hSw2, hSw3⟩; go_simp; try (with_reducible rfl))
  refine wpAnyH_take (i := 9) (v := ?_) rfl (by kernel_rfl) (by kernel_rfl) (by kernel_rfl) (fun _ _ _ h => h) (Or.inl ⟨by rfl, ?_⟩) (by assumption) ?_
  rotate_left 1
  · (rintro w ⟨hSw1, hSw2, hSw3⟩; go_simp; try (with_reducible rfl))
  have hbk := hbk.below (Below.refl _ _).drew
  refine wpAnyH_ready (rs := [3]) (by kernel_rfl) (by simp) ?_
  refine AllReadyH.cons rfl (fun K hK => ?_) AllReadyH.nil
  go_simp
  refine (hp1 _).mono ?_
  rintro e wn ⟨rfl, hbn⟩
  go_wp2_with fail
  have hbk := hbk.below hbn
  refine hK.out _ _ ⟨(blk_cell hbk.2 1).trans rfl, (blk_cell hbk.2 2).trans rfl, (blk_cell hbk.2 3).trans rfl⟩ (fun _ => ?_)
  clear hK K
  refine wpAnyH_ready (rs := [6]) (by kernel_rfl) (by simp) ?_
  refine AllReadyH.cons rfl (fun K hK => ?_) AllReadyH.nil
  go_simp
  refine (hp2 _).mono ?_
  rintro e wn ⟨rfl, hbn⟩
  go_wp2_with fail
  have hbk := hbk.below hbn
  refine hK.out _ _ ⟨(blk_cell hbk.2 1).trans rfl, (blk_cell hbk.2 2).trans rfl, (blk_cell hbk.2 3).trans rfl⟩ (fun _ => ?_)
  clear hK K
  refine wpAnyH_take (i := 7) (v := .string (P1 ++ P2)) rfl (by kernel_rfl) (by kernel_rfl) (by kernel_rfl) (fun _ _ _ h => h) (Or.inl ⟨by rfl, ?_⟩) (by assumption) ?_
  · rintro w ⟨hSw1, hSw2⟩
    go_simp
    try (rw [if_neg hq2])
    try rfl
  refine wpAnyH_ready (rs := [10]) (by kernel_rfl) (by simp) ?_
  refine AllReadyH.cons rfl (fun K hK => ?_) AllReadyH.nil
  go_simp
  refine (hp4 _).mono ?_
  rintro e wn ⟨rfl, hbn⟩
  go_wp2_with fail
  have hbk := hbk.below hbn
  refine hK.out _ _ ⟨(blk_cell hbk.2 1).trans rfl, (blk_cell hbk.2 2).trans rfl, (blk_cell hbk.2 3).trans rfl⟩ (fun _ => ?_)
  clear hK K
  refine wpAnyH_take (i := 11) (v := .string (P1 ++ P2 ++ P3)) rfl (by kernel_rfl) (by kernel_rfl) (by kernel_rfl) (fun _ _ _ h => h) (Or.inl ⟨by rfl, ?_⟩) (by assumption) ?_
  · rintro w ⟨hSw1, hSw2⟩
    go_simp
    try omega
  refine wpAnyH_take (i := 12) (v := .string (P1 ++ P2 ++ P3 ++ ⟨#[0, 0]⟩)) rfl (by kernel_rfl) (by kernel_rfl) (by kernel_rfl) (fun _ _ _ h => h) (Or.inl ⟨by rfl, ?_⟩) (by assumption) ?_
  · rintro w ⟨hSw1, hSw2⟩
    go_simp
    try omega
  refine wpAnyH_ready (rs := [13]) (by kernel_rfl) (by simp) ?_
  refine AllReadyH.cons rfl (fun K hK => ?_) AllReadyH.nil
  go_simp
  refine (htx _ _ _ hbk.1.1 hbk.1.2.1).mono ?_
  rintro e w6 ⟨rfl, vb6, hS6, hb6⟩
  rw [HA2.out] at hS6
  go_wp2_with fail
  have hb7 := hb6.kp _ _ _ hbk.2 (by decide) (by decide) (by decide)
  refine hK.out _ _ ⟨(blk_cell hb7 1).trans rfl, (blk_cell hb7 2).trans rfl, (blk_cell hb7 3).trans rfl⟩ (fun _ => ?_)
  clear hK K
  refine wpAnyH_done (by kernel_rfl) ?_ _
  have hk6 := hbk.1.2.2.trans hb6
  have hB6 : B ≤ w6.heap.size := Nat.le_trans hbk.1.2.1 hb6.be.size
  clear hbk hb6 htx hp1 hp2 hp4 hHeld hq2 hq3
  have hb7d := blk_cell hb7 4
  have hb7t := blk_cell hb7 1
  have HD0 := HD
  obtain ⟨k, hk⟩ : ∃ k, A.1.length = k + 2 := ⟨A.1.length - 2, by omega⟩
  obtain ⟨n, hn⟩ : ∃ n, D.1.length = k + 2 + n := ⟨D.1.length - (k + 2), by omega⟩
  have hn2 : (n : Int) ≤ 65535 := by omega
  have q1 : (k : Int) + 2 + n - (k + 2) = n := by omega
  have q2 : (k : Int) + 2 - 1 = k + 1 := by omega
  have q3 : (n : Int) >>> (8 : Nat) = (n : Int) / 256 := by rw [Int.shiftRight_eq_div_pow]; rfl
  have q4 : (n : Int) / 256 % 256 = (n : Int) / 256 := by omega
  obtain ⟨xa, ya, hv⟩ := own_sl hS6.rb
  subst hv
  have c6 : w6.cell? ⟨g, 0, none⟩ = some (.slice xa A.1.length ya) := (blk_cell hS6.blk 0).trans rfl
  clear HD
  have e1 : (d.toList == []) = false := by rw [str_empty]; simpa using hd0
  have hpt := l04Pointed_any t
  rw [decide_eq_true hpo] at hpt
  go_wp2_with first
    | (go_at_call 79; refine (hpt _).mono ?_; rintro e wx ⟨rfl, hwx⟩; obtain rfl := hwx.symm)
    | (go_at_call 80; refine (hform _).mono ?_; rintro e wx ⟨rfl, hwx⟩; obtain rfl := hwx.symm)
    | (go_at_call 81; refine (hparts _).mono ?_; rintro e w7 ⟨v7, rfl, hown7, hb77⟩; obtain ⟨x7, y7, hv7⟩ := own_sl hown7; subst hv7)
  have hS7 := hS6.below hb77
  have hB7 : B ≤ w7.heap.size := Nat.le_trans hB6 hb77.size
  have k7 : Bk B w w7 := hk6.trans (Bk.of hb77 hB6)
  have HD1 : Hid (daP (fs.drop 0) (ps.drop 0) A = D) := HD0
  have hbd1 : A.1.length + (Dt.catL (ps.drop 0)).length ≤ A.1.length + d.size := by rw [List.drop_zero]; omega
  clear hk6 hB6 hb77 hS6 hb7 hb7d hb7t c6 hform hparts hpt HD0 hcl0
  generalize w6.heap.size = b0 at *
  go_loopw [8] (fun i wr => ∃ (j : Nat) (st : Wst) (vb' vp' : Value), j ≤ ps.length ∧ i = .int .i64 j ∧ SW wr g B st.1 st.2 vb' vp' ∧ B ≤ wr.heap.size ∧ Bk B w wr ∧ wr.ownsRow b0 9 1 (.slice x7 ps.length y7) ps.length (ps.map Value.string) ∧ PlOK st.2 st.1.length ∧ st.1.length + (Dt.catL (ps.drop j)).length ≤ A.1.length + d.size ∧ Hid (daP (fs.drop j) (ps.drop j) st = D)) (fun i _ => ps.length - (intOf i).toNat)
  case atStart => exact ⟨0, A, _, _, Nat.zero_le _, rfl, hS7, hB7, k7, hown7, hao, hbd1, HD1⟩
  case round =>
    obtain ⟨j, st, vb8, vp8, hj, rfl, hS8, hB8, hb8, hown8, hao8, hbd8, HD8⟩ := hrel
    clear HD1 hbd1 hao hown7 k7 hB7 hS7
    by_cases hlt : j < ps.length
    · have hlf : j < f.size := by omega
      obtain ⟨x, hx⟩ : ∃ x, ps[j]? = some x := ⟨_, List.getElem?_eq_getElem hlt⟩
      have hst := hstep j x st hlf hx
      have hnk := hnmk j x hlf hx
      have hcs := catL_step hx
      have hby := byte_in f j hlf
      have i1 : (j : Int) < (ps.length : Int) := by omega
      have i2 : (j : Int) < (f.size : Int) := by omega
      have hrow := CRow.of_owns hown8
      obtain ⟨_, xa8, ya8, hv8, hcap8, hmx8, hc8⟩ := hrow
      cases hv8
      obtain ⟨b8, off8, rfl, hcell⟩ := hc8 (by omega)
      have d8 := hcell j (.string x) (by rw [List.getElem?_map, hx]; rfl)
      clear hcell hc8 hx hstep hnmk
      by_cases h110 : f[j].toNat = 110
      · obtain ⟨ls2, hls2⟩ := hnk h110
        have q5 : ((f[j].toNat : Int) == 110) = true := by rw [beq_iff_eq]; omega
        rw [h110] at hst
        simp only [decide_true, if_true] at hst
        have hxl := nmX_len (by rw [hls2]; rfl) st
        have hno := nmX_ok x st hao8
        have hcall := l04Name_any x ls2 hls2 g B st.1 st.2 vb8 vp8 wr hS8 hB8 (by omega) hao8
        rw [← nmX_of hls2 st] at hcall
        have HD9 : Hid (daP (fs.drop (j + 1)) (ps.drop (j + 1)) (nmX x st) = D) := by show _ = _; rw [← hst]; exact HD8.out
        clear hst HD8 h110 hnk
        go_wp2_with (go_at_call 78; refine hcall.mono ?_; rintro e w9 ⟨rfl, vb9, vp9, hS9, hb9⟩)
        go_roundw
        case rel => exact ⟨j + 1, _, vb9, vp9, by omega, by go_num, hS9, Nat.le_trans hB8 hb9.be.size, hb8.trans hb9, hb9.row hown8 (by decide) (by decide) (by decide), hno, by omega, HD9⟩
        case measure => simp [intOf]; omega
      · have q5 : ((f[j].toNat : Int) == 110) = false := by rw [beq_eq_false_iff_ne]; omega
        simp only [h110, decide_false, Bool.false_eq_true, if_false] at hst
        have hcall := l04Text_any x g B st.1 st.2 vb8 vp8 wr hS8 hB8 (by omega)
        have HD9 : Hid (daP (fs.drop (j + 1)) (ps.drop (j + 1)) (st.1 ++ x.data.toList, st.2) = D) := by show _ = _; rw [← hst]; exact HD8.out
        have hno : PlOK st.2 (st.1 ++ x.data.toList).length := hao8.mono (by simp)
        have hzl : (st.1 ++ x.data.toList).length = st.1.length + x.size := by simp
        have hz9 : ((st.1 ++ x.data.toList, st.2) : Wst).1.length + (Dt.catL (ps.drop (j + 1))).length ≤ A.1.length + d.size := by show (st.1 ++ x.data.toList).length + _ ≤ _; omega
        clear hst HD8 h110 hnk
        go_wp2_with (go_at_call 57; refine hcall.mono ?_; rintro e w9 ⟨rfl, vb9, hS9, hb9⟩)
        go_roundw
        case rel => exact ⟨j + 1, (_, _), vb9, vp8, by omega, by go_num, hS9, Nat.le_trans hB8 hb9.be.size, hb8.trans hb9, hb9.row hown8 (by decide) (by decide) (by decide), hno, hz9, HD9⟩
        case measure => simp [intOf]; omega
    · obtain rfl : j = ps.length := by omega
      obtain rfl : D = st := by have := HD8.out; rw [List.drop_length, daP_nil] at this; exact this.symm
      have i1 : (ps.length : Int) ≤ (ps.length : Int) := by omega
      clear HD8 hbd8 hao8 hown8 hstep hnmk
      obtain ⟨b, cap, hvb8⟩ := hS8.some (by omega)
      subst hvb8
      rw [hn] at hS8
      have c8 : (wr).cell? ⟨g, 0, none⟩ = some (.slice (some ⟨b, 0, none⟩) (k + 2 + n) cap) := (blk_cell hS8.blk 0).trans rfl
      have hrb8 := hS8.rb
      rw [hn] at hrb8
      have f8 := hrb8.frozenAt k
      obtain ⟨vk, hvk⟩ : ∃ v, (Nm.bys D.1)[k]? = some v := ⟨_, List.getElem?_eq_getElem (by simp [Nm.bys]; omega)⟩
      have d8 := (hrb8.cellAt k (by omega)).trans hvk
      have hS9 := hS8.store hn.symm k (UInt8.ofNat (n / 256))
      rw [u8_hi (by omega : n < 65536)] at hS9
      have k9 := hS8.storeBk hb8 k (.int .u8 ((n : Int) / 256))
      have hn9 : (D.1.set k (UInt8.ofNat (n / 256))).length = k + 2 + n := by rw [List.length_set, hn]
      have c9 : ((wr).setCell ⟨b, k, none⟩ (.int .u8 ((n : Int) / 256))).cell? ⟨g, 0, none⟩ = some (.slice (some ⟨b, 0, none⟩) (k + 2 + n) cap) := (blk_cell hS9.blk 0).trans rfl
      have hrb9 := hS9.rb
      rw [hn9] at hrb9
      have f9 := hrb9.frozenAt (k + 1)
      obtain ⟨vk9, hvk9⟩ : ∃ v, (Nm.bys (D.1.set k (UInt8.ofNat (n / 256))))[k + 1]? = some v := ⟨_, List.getElem?_eq_getElem (by rw [Nm.bys, List.length_map, hn9]; omega)⟩
      have d9 := (hrb9.cellAt (k + 1) (by omega)).trans hvk9
      have hS10 := hS9.store hn9.symm (k + 1) (UInt8.ofNat (n % 256))
      rw [u8_lo n] at hS10
      have k10 := hS9.storeBk k9 (k + 1) (.int .u8 ((n : Int) % 256))
      have HS10 : Hid (SW (((wr).setCell ⟨b, k, none⟩ (.int .u8 ((n : Int) / 256))).setCell ⟨b, k + 1, none⟩ (.int .u8 ((n : Int) % 256))) g B RES.1 RES.2 (.slice (some ⟨b, 0, none⟩) (k + 2 + n) cap) vp8) := by
        show SW _ _ _ _ _ _ _
        rw [← HR.out, rrFin, hn, hk, show k + 2 + n - (k + 2) = n by omega, show k + 2 - 2 = k by omega, show k + 2 - 1 = k + 1 by omega]
        exact hS10
      clear hrb8 hrb9 hS9 hS8 hS10 hvk9 hvk hn9 k9
      clear hdl
      go_wp2
      refine bodyPost_end (v := .tuple #[]) ?_ rfl ⟨rfl, _, _, HS10.out, k10⟩
      simp [results, Tryz.results60, go_sem]
end Go.Proofs.YtmaopfagkffccaaGreat
