import Derived.Test.YtehggabhjpiclaaJPtT
import Derived.Test.YtehggabhjpiclaaJData1
/- spec.l04WriteRecord by its contract. -/
namespace Go.Proofs.Ytehggabhjpiclaa
open Go.RowKit
set_option linter.unusedVariables false

theorem u8_hi {n : Nat} (h : n < 65536) : ((UInt8.ofNat (n / 256)).toNat : Int) = (n : Int) / 256 := by
  simp
  omega
theorem u8_lo (n : Nat) : ((UInt8.ofNat (n % 256)).toNat : Int) = (n : Int) % 256 := by
  simp

set_option maxRecDepth 100000 in
set_option maxHeartbeats 3200000 in
theorem l04WriteRecord_plain (o : ByteArray) (t c : Nat) (tt : Int) (d : ByteArray) (hr : rcW ⟨o, t, c, tt, d⟩) (hpl : d.size = 0 ∨ ¬ pointed t) (g B : Nat) (bs : List UInt8) (pls : List (ByteArray × Nat)) (vb vp : Value) (w : World) (h : SW w g B bs pls vb vp) (hB : B ≤ w.heap.size) (hl : bs.length + 70000 ≤ 50000000) (hok : PlOK pls bs.length) :
    Calls Try.prog 29 #[.pointer (some ⟨g, 0, none⟩), .agg #[.string o, .int .i64 t, .int .i64 c, .int .i64 tt, .string d]] w fun e w' => e = .returned (.tuple #[]) ∧ ∃ vb' vp', SW w' g B (rrW ⟨o, t, c, tt, d⟩ (bs, pls)).1 (rrW ⟨o, t, c, tt, d⟩ (bs, pls)).2 vb' vp' ∧ Bk B w w' := by
  obtain ⟨h1, ⟨t', ht, htl⟩, ⟨c', hc, hcl⟩, ht0, ht1, h6, h7⟩ := hr
  have ht : (t : Int) = t' := ht
  have hc : (c : Int) = c' := hc
  obtain rfl : t = t' := by omega
  obtain rfl : c = c' := by omega
  simp only [Int.toNat_natCast] at h1 ht0 ht1 h6 h7
  clear ht hc
  obtain ⟨ls, hs⟩ := Option.isSome_iff_exists.1 h1
  have hos := name_short h1
  have hal := rrA_len h1 t c tt (bs, pls)
  have hao := rrA_ok o t c tt (bs, pls) hok
  have hdl := daW_lenW h6 (rrA o t c tt (bs, pls))
  rw [show rrW ⟨o, t, c, tt, d⟩ (bs, pls) = rrFin (rrA o t c tt (bs, pls)).1.length (daW t d (rrA o t c tt (bs, pls))) from rfl]
  have HA1 : Hid ((nmW ls bs pls).1 ++ (((⟨(put2 t).toArray⟩ : ByteArray) ++ ⟨(put2 c).toArray⟩ ++ ⟨(put4 tt).toArray⟩) ++ ⟨#[0, 0]⟩).data.toList = (rrA o t c tt (bs, pls)).1) := by
    show _ = _
    simp [rrA, nmX_of hs, ByteArray.data_append]
  have HA2 : Hid ((nmW ls bs pls).2 = (rrA o t c tt (bs, pls)).2) := by
    show _ = _
    simp [rrA, nmX_of hs]
  have hps : (((⟨(put2 t).toArray⟩ : ByteArray) ++ ⟨(put2 c).toArray⟩ ++ ⟨(put4 tt).toArray⟩) ++ ⟨#[0, 0]⟩).size = 10 := by
    rw [ByteArray.size_append, ByteArray.size_append, ByteArray.size_append]; rfl
  have hq2 : ¬ 9223372036854775807 < (⟨(put2 t).toArray⟩ : ByteArray).size + (⟨(put2 c).toArray⟩ : ByteArray).size := by
    have : (⟨(put2 t).toArray⟩ : ByteArray).size + (⟨(put2 c).toArray⟩ : ByteArray).size = 4 := rfl
    omega
  have hq3 : (⟨(put2 t).toArray⟩ : ByteArray).size + (⟨(put2 c).toArray⟩ : ByteArray).size + (⟨(put4 tt).toArray⟩ : ByteArray).size = 8 := rfl
  have hnl := nmW_len ls bs pls (fun x hx => ((Nm.split_join hs).2 x hx).1)
  have hnz := Nm.split_size hs
  generalize rrA o t c tt (bs, pls) = A at *
  have HD : Hid ((A.1 ++ d.data.toList, A.2) = daW t d A) := by show _ = _; rw [daW, if_pos hpl]
  generalize daW t d A = D at *
  obtain ⟨RES, HR⟩ : ∃ R, Hid (rrFin A.1.length D = R) := ⟨_, rfl⟩
  rw [HR.out]
  have bA := (Below.refl w.heap.size w).alloc (Nat.le_refl _) (.cells #[.string o, .int .i64 t, .int .i64 c, .int .i64 tt, .string d] 69)
  have hblk := blk_new w #[.string o, .int .i64 t, .int .i64 c, .int .i64 tt, .string d] 69
  have hnm := l04Name_any o ls hs g B bs pls vb vp _ (h.below bA) (Nat.le_trans hB bA.size) (by omega) hok
  have hp1 := fun W => l02Put2_any t W htl
  have hp2 := fun W => l02Put2_any c W hcl
  have hp4 := fun W => l02Put_any tt W ht0 ht1
  have hgl : w.heap.size < (w.alloc (.cells #[.string o, .int .i64 t, .int .i64 c, .int .i64 tt, .string d] 69)).heap.size := by simp
  have htx := fun vb2 vp2 W (h : SW W g B (nmW ls bs pls).1 (nmW ls bs pls).2 vb2 vp2) (hB : B ≤ W.heap.size) => l04Text_any (((⟨(put2 t).toArray⟩ : ByteArray) ++ ⟨(put2 c).toArray⟩ ++ ⟨(put4 tt).toArray⟩) ++ ⟨#[0, 0]⟩) g B _ _ vb2 vp2 W h hB (by rw [hps]; omega)
  rw [HA1.out] at htx
  clear hps HA1 hs
  generalize (⟨(put2 t).toArray⟩ : ByteArray) = P1 at *
  generalize (⟨(put2 c).toArray⟩ : ByteArray) = P2 at *
  generalize (⟨(put4 tt).toArray⟩ : ByteArray) = P3 at *
  generalize nmW ls bs pls = N at *
  go_enter Try.func29, Try.ntmps29
  go_wp2_with (go_at_call 44; refine hnm.mono ?_; rintro e w1 ⟨rfl, vb1, vp1, hS1, hb1⟩)
  have hbk : SWB w w1 g B N.1 N.2 vb1 vp1 w.heap.size #[.string o, .int .i64 t, .int .i64 c, .int .i64 tt, .string d] 69 := ⟨⟨hS1, Nat.le_trans hB (Nat.le_trans bA.size hb1.be.size), (Bk.of bA hB).trans hb1⟩, hb1.kp _ _ _ hblk (by decide) (by decide) (by decide)⟩
  clear hS1 hb1 hblk bA hnm h hgl hB
  generalize w.heap.size = bx at *
  refine wp_region_held_drew (S := fun W => W.cell? ⟨bx, 1, none⟩ = some (.int .i64 t) ∧ W.cell? ⟨bx, 2, none⟩ = some (.int .i64 c) ∧ W.cell? ⟨bx, 3, none⟩ = some (.int .i64 tt)) (by kernel_rfl) ⟨(blk_cell hbk.2 1).trans rfl, (blk_cell hbk.2 2).trans rfl, (blk_cell hbk.2 3).trans rfl⟩ (fun hHeld => ?_)
  refine wpAnyH_take (i := 0) (v := ?_) rfl (by kernel_rfl) (by kernel_rfl) (by kernel_rfl) (fun _ _ _ h => h) (Or.inl ⟨by rfl, ?_⟩) (by assumption) ?_
  rotate_left 1
  · (rintro w ⟨hSw1, hSw2, hSw3⟩; go_simp; try (with_reducible rfl))
  refine wpAnyH_take (i := 1) (v := ?_) rfl (by kernel_rfl) (by kernel_rfl) (by kernel_rfl) (fun _ _ _ h => h) (Or.inl ⟨by rfl, ?_⟩) (by assumption) ?_
  rotate_left 1
  · (rintro w ⟨hSw1, hSw2, hSw3⟩; go_simp; try (with_reducible rfl))
  refine wpAnyH_take (i := 2) (v := ?_) rfl (by kernel_rfl) (by kernel_rfl) (by kernel_rfl) (fun _ _ _ h => h) (Or.inl ⟨by rfl, ?_⟩) (by assumption) ?_
  rotate_left 1
  · (rintro w ⟨hSw1, hSw2, hSw3⟩; go_simp; try (with_reducible rfl))
  refine wpAnyH_take (i := 4) (v := ?_) rfl (by kernel_rfl) (by kernel_rfl) (by kernel_rfl) (fun _ _ _ h => h) (Or.inl ⟨by rfl, ?_⟩) (by assumption) ?_
  rotate_left 1
  · (rintro w ⟨hSw1, hSw2, hSw3⟩; go_simp; try (with_reducible rfl))
  refine wpAnyH_take (i := 5) (v := ?_) rfl (by kernel_rfl) (by kernel_rfl) (by kernel_rfl) (fun _ _ _ h => h) (Or.inl ⟨by rfl, ?_⟩) (by assumption) ?_
  rotate_left 1
  · (rintro w ⟨hSw1, hSw2, hSw3⟩; go_simp; try (with_reducible rfl))
  refine wpAnyH_take (i := 8) (v := ?_) rfl (by kernel_rfl) (by kernel_rfl) (by kernel_rfl) (fun _ _ _ h => h) (Or.inl ⟨by rfl, ?_⟩) (by assumption) ?_
  rotate_left 1
  · (rintro w ⟨hSw1, hSw2, hSw3⟩; go_simp; try (with_reducible rfl))
  refine wpAnyH_take (i := 9) (v := ?_) rfl (by kernel_rfl) (by kernel_rfl) (by kernel_rfl) (fun _ _ _ h => h) (Or.inl ⟨by rfl, ?_⟩) (by assumption) ?_
  rotate_left 1
  · (rintro w ⟨hSw1, hSw2, hSw3⟩; go_simp; try (with_reducible rfl))
  have hbk := hbk.below (Below.refl _ _).drew
  refine wpAnyH_ready (rs := [3]) (by kernel_rfl) (by simp) ?_
  refine AllReadyH.cons rfl (fun K hK => ?_) AllReadyH.nil
  go_simp
  refine (hp1 _).mono ?_
  rintro e wn ⟨rfl, hbn⟩
  go_wp2_with fail
  have hbk := hbk.below hbn
  refine hK.out _ _ ⟨(blk_cell hbk.2 1).trans rfl, (blk_cell hbk.2 2).trans rfl, (blk_cell hbk.2 3).trans rfl⟩ (fun _ => ?_)
  clear hK K
  refine wpAnyH_ready (rs := [6]) (by kernel_rfl) (by simp) ?_
  refine AllReadyH.cons rfl (fun K hK => ?_) AllReadyH.nil
  go_simp
  refine (hp2 _).mono ?_
  rintro e wn ⟨rfl, hbn⟩
  go_wp2_with fail
  have hbk := hbk.below hbn
  refine hK.out _ _ ⟨(blk_cell hbk.2 1).trans rfl, (blk_cell hbk.2 2).trans rfl, (blk_cell hbk.2 3).trans rfl⟩ (fun _ => ?_)
  clear hK K
  refine wpAnyH_take (i := 7) (v := .string (P1 ++ P2)) rfl (by kernel_rfl) (by kernel_rfl) (by kernel_rfl) (fun _ _ _ h => h) (Or.inl ⟨by rfl, ?_⟩) (by assumption) ?_
  · rintro w ⟨hSw1, hSw2⟩
    go_simp
    try (rw [if_neg hq2])
    try rfl
  refine wpAnyH_ready (rs := [10]) (by kernel_rfl) (by simp) ?_
  refine AllReadyH.cons rfl (fun K hK => ?_) AllReadyH.nil
  go_simp
  refine (hp4 _).mono ?_
  rintro e wn ⟨rfl, hbn⟩
  go_wp2_with fail
  have hbk := hbk.below hbn
  refine hK.out _ _ ⟨(blk_cell hbk.2 1).trans rfl, (blk_cell hbk.2 2).trans rfl, (blk_cell hbk.2 3).trans rfl⟩ (fun _ => ?_)
  clear hK K
  refine wpAnyH_take (i := 11) (v := .string (P1 ++ P2 ++ P3)) rfl (by kernel_rfl) (by kernel_rfl) (by kernel_rfl) (fun _ _ _ h => h) (Or.inl ⟨by rfl, ?_⟩) (by assumption) ?_
  · rintro w ⟨hSw1, hSw2⟩
    go_simp
    try omega
  refine wpAnyH_take (i := 12) (v := .string (P1 ++ P2 ++ P3 ++ ⟨#[0, 0]⟩)) rfl (by kernel_rfl) (by kernel_rfl) (by kernel_rfl) (fun _ _ _ h => h) (Or.inl ⟨by rfl, ?_⟩) (by assumption) ?_
  · rintro w ⟨hSw1, hSw2⟩
    go_simp
    try omega
  refine wpAnyH_ready (rs := [13]) (by kernel_rfl) (by simp) ?_
  refine AllReadyH.cons rfl (fun K hK => ?_) AllReadyH.nil
  go_simp
  refine (htx _ _ _ hbk.1.1 hbk.1.2.1).mono ?_
  rintro e w6 ⟨rfl, vb6, hS6, hb6⟩
  rw [HA2.out] at hS6
  go_wp2_with fail
  have hb7 := hb6.kp _ _ _ hbk.2 (by decide) (by decide) (by decide)
  refine hK.out _ _ ⟨(blk_cell hb7 1).trans rfl, (blk_cell hb7 2).trans rfl, (blk_cell hb7 3).trans rfl⟩ (fun _ => ?_)
  clear hK K
  refine wpAnyH_done (by kernel_rfl) ?_ _
  have hk6 := hbk.1.2.2.trans hb6
  have hB6 : B ≤ w6.heap.size := Nat.le_trans hbk.1.2.1 hb6.be.size
  clear hbk hb6 htx hp1 hp2 hp4 hHeld hq2 hq3
  have hb7d := blk_cell hb7 4
  have hb7t := blk_cell hb7 1
  have htd := l04Text_any d g B A.1 A.2 vb6 vp1 w6 hS6 hB6 (by omega)
  have HD1 : A.1 ++ d.data.toList = D.1 := by rw [← HD.out]
  have HD2 : A.2 = D.2 := by rw [← HD.out]
  rw [HD1, HD2] at htd
  clear HD1 HD2
  obtain ⟨k, hk⟩ : ∃ k, A.1.length = k + 2 := ⟨A.1.length - 2, by omega⟩
  obtain ⟨n, hn⟩ : ∃ n, D.1.length = k + 2 + n := ⟨D.1.length - (k + 2), by omega⟩
  have hn2 : (n : Int) ≤ 65535 := by omega
  have q1 : (k : Int) + 2 + n - (k + 2) = n := by omega
  have q2 : (k : Int) + 2 - 1 = k + 1 := by omega
  have q3 : (n : Int) >>> (8 : Nat) = (n : Int) / 256 := by rw [Int.shiftRight_eq_div_pow]; rfl
  have q4 : (n : Int) / 256 % 256 = (n : Int) / 256 := by omega
  obtain ⟨xa, ya, hv⟩ := own_sl hS6.rb
  subst hv
  have c6 : w6.cell? ⟨g, 0, none⟩ = some (.slice xa A.1.length ya) := (blk_cell hS6.blk 0).trans rfl
  clear HD
  by_cases hd0 : d.size = 0
  · have e1 : (d.toList == []) = true := by rw [str_empty]; simpa using hd0
    clear hdl hd0 hpl h6
    go_wp2_with (
      go_at_call 26
      refine htd.mono ?_
      rintro e w8 ⟨rfl, vb8, hS8, hb8⟩
      obtain ⟨b, cap, hvb8⟩ := hS8.some (by omega)
      subst hvb8
      rw [hn] at hS8
      have c8 : (w8).cell? ⟨g, 0, none⟩ = some (.slice (some ⟨b, 0, none⟩) (k + 2 + n) cap) := (blk_cell hS8.blk 0).trans rfl
      have hrb8 := hS8.rb
      rw [hn] at hrb8
      have f8 := hrb8.frozenAt k
      obtain ⟨vk, hvk⟩ : ∃ v, (Nm.bys D.1)[k]? = some v := ⟨_, List.getElem?_eq_getElem (by simp [Nm.bys]; omega)⟩
      have d8 := (hrb8.cellAt k (by omega)).trans hvk
      have hS9 := hS8.store hn.symm k (UInt8.ofNat (n / 256))
      rw [u8_hi (by omega : n < 65536)] at hS9
      have k9 := hS8.storeBk hb8 k (.int .u8 ((n : Int) / 256))
      have hn9 : (D.1.set k (UInt8.ofNat (n / 256))).length = k + 2 + n := by rw [List.length_set, hn]
      have c9 : ((w8).setCell ⟨b, k, none⟩ (.int .u8 ((n : Int) / 256))).cell? ⟨g, 0, none⟩ = some (.slice (some ⟨b, 0, none⟩) (k + 2 + n) cap) := (blk_cell hS9.blk 0).trans rfl
      have hrb9 := hS9.rb
      rw [hn9] at hrb9
      have f9 := hrb9.frozenAt (k + 1)
      obtain ⟨vk9, hvk9⟩ : ∃ v, (Nm.bys (D.1.set k (UInt8.ofNat (n / 256))))[k + 1]? = some v := ⟨_, List.getElem?_eq_getElem (by rw [Nm.bys, List.length_map, hn9]; omega)⟩
      have d9 := (hrb9.cellAt (k + 1) (by omega)).trans hvk9
      have hS10 := hS9.store hn9.symm (k + 1) (UInt8.ofNat (n % 256))
      rw [u8_lo n] at hS10
      have k10 := hS9.storeBk k9 (k + 1) (.int .u8 ((n : Int) % 256))
      have HS10 : Hid (SW (((w8).setCell ⟨b, k, none⟩ (.int .u8 ((n : Int) / 256))).setCell ⟨b, k + 1, none⟩ (.int .u8 ((n : Int) % 256))) g B RES.1 RES.2 (.slice (some ⟨b, 0, none⟩) (k + 2 + n) cap) vp1) := by
        show SW _ _ _ _ _ _ _
        rw [← HR.out, rrFin, hn, hk, show k + 2 + n - (k + 2) = n by omega, show k + 2 - 2 = k by omega, show k + 2 - 1 = k + 1 by omega]
        exact hS10
      clear hrb8 hrb9 hS9 hS8 hS10 hvk9 hvk hn9 k9)
    refine bodyPost_end (v := .tuple #[]) ?_ rfl ⟨rfl, _, _, HS10.out, hk6.trans k10⟩
    simp [results, Try.results29, go_sem]
  · have e1 : (d.toList == []) = false := by rw [str_empty]; simpa using hd0
    have hpt := l04Pointed_any t
    rw [decide_eq_false (hpl.resolve_left hd0)] at hpt
    go_wp2_with first
      | (go_at_call 45; refine (hpt _).mono ?_; rintro e wx ⟨rfl, hwx⟩; obtain rfl := hwx)
      | (
      go_at_call 26
      refine htd.mono ?_
      rintro e w8 ⟨rfl, vb8, hS8, hb8⟩
      obtain ⟨b, cap, hvb8⟩ := hS8.some (by omega)
      subst hvb8
      rw [hn] at hS8
      have c8 : (w8).cell? ⟨g, 0, none⟩ = some (.slice (some ⟨b, 0, none⟩) (k + 2 + n) cap) := (blk_cell hS8.blk 0).trans rfl
      have hrb8 := hS8.rb
      rw [hn] at hrb8
      have f8 := hrb8.frozenAt k
      obtain ⟨vk, hvk⟩ : ∃ v, (Nm.bys D.1)[k]? = some v := ⟨_, List.getElem?_eq_getElem (by simp [Nm.bys]; omega)⟩
      have d8 := (hrb8.cellAt k (by omega)).trans hvk
      have hS9 := hS8.store hn.symm k (UInt8.ofNat (n / 256))
      rw [u8_hi (by omega : n < 65536)] at hS9
      have k9 := hS8.storeBk hb8 k (.int .u8 ((n : Int) / 256))
      have hn9 : (D.1.set k (UInt8.ofNat (n / 256))).length = k + 2 + n := by rw [List.length_set, hn]
      have c9 : ((w8).setCell ⟨b, k, none⟩ (.int .u8 ((n : Int) / 256))).cell? ⟨g, 0, none⟩ = some (.slice (some ⟨b, 0, none⟩) (k + 2 + n) cap) := (blk_cell hS9.blk 0).trans rfl
      have hrb9 := hS9.rb
      rw [hn9] at hrb9
      have f9 := hrb9.frozenAt (k + 1)
      obtain ⟨vk9, hvk9⟩ : ∃ v, (Nm.bys (D.1.set k (UInt8.ofNat (n / 256))))[k + 1]? = some v := ⟨_, List.getElem?_eq_getElem (by rw [Nm.bys, List.length_map, hn9]; omega)⟩
      have d9 := (hrb9.cellAt (k + 1) (by omega)).trans hvk9
      have hS10 := hS9.store hn9.symm (k + 1) (UInt8.ofNat (n % 256))
      rw [u8_lo n] at hS10
      have k10 := hS9.storeBk k9 (k + 1) (.int .u8 ((n : Int) % 256))
      have HS10 : Hid (SW (((w8).setCell ⟨b, k, none⟩ (.int .u8 ((n : Int) / 256))).setCell ⟨b, k + 1, none⟩ (.int .u8 ((n : Int) % 256))) g B RES.1 RES.2 (.slice (some ⟨b, 0, none⟩) (k + 2 + n) cap) vp1) := by
        show SW _ _ _ _ _ _ _
        rw [← HR.out, rrFin, hn, hk, show k + 2 + n - (k + 2) = n by omega, show k + 2 - 2 = k by omega, show k + 2 - 1 = k + 1 by omega]
        exact hS10
      clear hrb8 hrb9 hS9 hS8 hS10 hvk9 hvk hn9 k9)
    refine bodyPost_end (v := .tuple #[]) ?_ rfl ⟨rfl, _, _, HS10.out, hk6.trans k10⟩
    simp [results, Try.results29, go_sem]
end Go.Proofs.Ytehggabhjpiclaa
