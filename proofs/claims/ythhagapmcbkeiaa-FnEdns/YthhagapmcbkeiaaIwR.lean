import Derived.Test.YthhagapmcbkeiaaJData1
import Derived.Test.YthhagapmcbkeiaaJMath
/- (*writer).record by its contract. -/
namespace Go.Proofs.Ythhagapmcbkeiaa
open Go.RowKit
set_option linter.unusedVariables false

theorem number_pm (n k : Int) (PB : ByteArray) (hput : ∀ W, Calls Try.prog 29 #[.int .i64 n, .int .i64 k] W fun e w' => e = .returned (.string PB) ∧ Below W.heap.size W w') (g B r : Nat) (bs : List UInt8) (pls : List (ByteArray × Nat)) (vb : Value) (w : World) (h : PM w g B r bs pls vb) (hB : B ≤ w.heap.size) (hl : bs.length + PB.size ≤ 100000000) :
    Calls Try.prog 49 #[.pointer (some ⟨g, 0, none⟩), .int .i64 n, .int .i64 k] w fun e w' => e = .returned (.tuple #[]) ∧ ∃ vb', PM w' g B r (bs ++ PB.data.toList) pls vb' ∧ Bp B w w' := by
  refine (number_w_any n k PB hput g B bs vb _ w h.pw hB hl).mono ?_
  rintro e w' ⟨rfl, vb', h1, h2⟩
  exact ⟨rfl, vb', h.after h1 h2, Bp.ofw h2⟩
theorem number2_pm (n : Nat) (hn : n < 65536) (g B r : Nat) (bs : List UInt8) (pls : List (ByteArray × Nat)) (vb : Value) (w : World) (h : PM w g B r bs pls vb) (hB : B ≤ w.heap.size) (hl : bs.length + 2 ≤ 100000000) :
    Calls Try.prog 49 #[.pointer (some ⟨g, 0, none⟩), .int .i64 (n : Int), .int .i64 2] w fun e w' => e = .returned (.tuple #[]) ∧ ∃ vb', PM w' g B r (bs ++ put2 n) pls vb' ∧ Bp B w w' := by
  have := number_pm (n : Int) 2 ⟨(put2 n).toArray⟩ (fun W => bigBytes2_any n W hn) g B r bs pls vb w h hB (by show bs.length + (put2 n).toArray.size ≤ _; simp [put2]; omega)
  simpa using this
theorem number4_pm (n : Int) (h0 : 0 ≤ n) (h1 : n ≤ 4294967295) (g B r : Nat) (bs : List UInt8) (pls : List (ByteArray × Nat)) (vb : Value) (w : World) (h : PM w g B r bs pls vb) (hB : B ≤ w.heap.size) (hl : bs.length + 4 ≤ 100000000) :
    Calls Try.prog 49 #[.pointer (some ⟨g, 0, none⟩), .int .i64 n, .int .i64 4] w fun e w' => e = .returned (.tuple #[]) ∧ ∃ vb', PM w' g B r (bs ++ put4 n) pls vb' ∧ Bp B w w' := by
  have := number_pm n 4 ⟨(put4 n).toArray⟩ (fun W => bigBytes4_any n W h0 h1) g B r bs pls vb w h hB (by show bs.length + (put4 n).toArray.size ≤ _; simp [put4]; omega)
  simpa using this

set_option maxRecDepth 100000 in
set_option maxHeartbeats 3200000 in
theorem record_w_any (o : ByteArray) (t c : Nat) (tt : Int) (d : ByteArray) (hr : rcOK ⟨o, t, c, tt, d⟩ = true) (g B r : Nat) (bs : List UInt8) (pls : List (ByteArray × Nat)) (vb : Value) (w : World) (h : PM w g B r bs pls vb) (hB : B ≤ w.heap.size) (hl : bs.length + 70000 ≤ 50000000) (hok : PlOK pls bs.length) :
    Calls Try.prog 36 #[.pointer (some ⟨g, 0, none⟩), .agg #[.string o, .int .i64 t, .int .i64 c, .int .i64 tt, .string d]] w fun e w' => e = .returned (.tuple #[]) ∧ ∃ vb', PM w' g B r (rrW ⟨o, t, c, tt, d⟩ (bs, pls)).1 (rrW ⟨o, t, c, tt, d⟩ (bs, pls)).2 vb' ∧ Bp B w w' := by
  obtain ⟨h1, ⟨t', ht, htl⟩, ⟨c', hc, hcl⟩, ht0, ht1, h6, h7⟩ := rc_parts hr
  have ht : (t : Int) = t' := ht
  have hc : (c : Int) = c' := hc
  obtain rfl : t = t' := by omega
  obtain rfl : c = c' := by omega
  simp only at h1 ht0 ht1 h6 h7
  clear ht hc hr
  obtain ⟨ls, hs⟩ := Option.isSome_iff_exists.1 h1
  have hos := name_short h1
  have hal := rrA_len h1 t c tt (bs, pls)
  simp only at hal
  have hao := rrA_ok o t c tt (bs, pls) hok
  have hdl := daW_len h6 (rrA o t c tt (bs, pls))
  rw [show rrW ⟨o, t, c, tt, d⟩ (bs, pls) = rrFin (rrA o t c tt (bs, pls)).1.length (daW t d (rrA o t c tt (bs, pls))) from rfl]
  have hnl := nmW_len ls bs pls (fun x hx => ((Nm.split_join hs).2 x hx).1)
  have hnz := Nm.split_size hs
  have HA1 : Hid ((((((nmW ls bs pls).1 ++ put2 t) ++ put2 c) ++ put4 tt) ++ put2 0) = (rrA o t c tt (bs, pls)).1) := by
    show _ = _
    simp [rrA, nmX_of hs, put2]
  have HA2 : Hid ((nmW ls bs pls).2 = (rrA o t c tt (bs, pls)).2) := by
    show _ = _
    simp [rrA, nmX_of hs]
  generalize rrA o t c tt (bs, pls) = A at *
  have bA := (Below.refl w.heap.size w).alloc (Nat.le_refl _) (.cells #[.string o, .int .i64 t, .int .i64 c, .int .i64 tt, .string d] 27)
  have hblk := blk_new w #[.string o, .int .i64 t, .int .i64 c, .int .i64 tt, .string d] 27
  have hgl : w.heap.size < (w.alloc (.cells #[.string o, .int .i64 t, .int .i64 c, .int .i64 tt, .string d] 27)).heap.size := by simp
  have hnm := name_w_any o ls hs g B r bs pls vb _ (h.below bA) (Nat.le_trans hB bA.size) (by omega) hok
  have hn1 := fun vb W (h : PM W g B r (nmW ls bs pls).1 (nmW ls bs pls).2 vb) (hB : B ≤ W.heap.size) => number2_pm t htl g B r _ _ vb W h hB (by omega)
  have hn2 := fun vb W (h : PM W g B r ((nmW ls bs pls).1 ++ put2 t) (nmW ls bs pls).2 vb) (hB : B ≤ W.heap.size) => number2_pm c hcl g B r _ _ vb W h hB (by simp [put2]; omega)
  have hn3 := fun vb W (h : PM W g B r (((nmW ls bs pls).1 ++ put2 t) ++ put2 c) (nmW ls bs pls).2 vb) (hB : B ≤ W.heap.size) => number4_pm tt ht0 ht1 g B r _ _ vb W h hB (by simp [put2]; omega)
  have hn4 := fun vb W (h : PM W g B r ((((nmW ls bs pls).1 ++ put2 t) ++ put2 c) ++ put4 tt) (nmW ls bs pls).2 vb) (hB : B ≤ W.heap.size) => number2_pm 0 (by decide) g B r _ _ vb W h hB (by simp [put2, put4]; omega)
  rw [HA1.out, show ((0 : Nat) : Int) = 0 from rfl] at hn4
  have hda := fun vb W (h : PM W g B r A.1 A.2 vb) (hB : B ≤ W.heap.size) => data_w_any t d h6 h7 g B r A.1 A.2 vb W h hB (by omega) hao
  rw [show daW t d (A.1, A.2) = daW t d A from rfl] at hda
  generalize daW t d A = D at *
  obtain ⟨RES, HR⟩ : ∃ R, Hid (rrFin A.1.length D = R) := ⟨_, rfl⟩
  rw [HR.out]
  obtain ⟨k, hk⟩ : ∃ k, A.1.length = k + 2 := ⟨A.1.length - 2, by omega⟩
  obtain ⟨n, hn⟩ : ∃ n, D.1.length = k + 2 + n := ⟨D.1.length - (k + 2), by omega⟩
  have hn2' : (n : Int) ≤ 65535 := by omega
  have hkI : (k : Int) ≤ 60000000 := by omega
  have hwk : IntKind.i64.wrap (k : Int) = (k : Int) := wrap_pos k (by omega)
  have hwn : IntKind.i64.wrap (n : Int) = (n : Int) := wrap_pos n (by omega)
  have q1 : (k : Int) + 2 + n - (k + 2) = n := by omega
  have hbb := fun W => bigBytes2_any n W (by omega)
  generalize nmW ls bs pls = N at *
  clear HA1 hs hnl hnz
  go_enter Try.func36, Try.ntmps36
  go_wp2_with first
    | (
      go_at_call 48
      refine hnm.mono ?_
      rintro e w1 ⟨rfl, vb1, hM1, k1⟩
      have hB1 := Nat.le_trans hB (Nat.le_trans bA.size k1.be.size)
      have kb1 := k1.kp _ _ _ hblk (by decide) (by decide)
      have x1 := (blk_cell kb1 1).trans rfl)
    | (
      go_at_call 49
      with_reducible refine (hn1 _ _ hM1 hB1).mono ?_
      rintro e w2 ⟨rfl, vb2, hM2, k2⟩
      have hB2 := Nat.le_trans hB1 k2.be.size
      have kb2 := k2.kp _ _ _ kb1 (by decide) (by decide)
      have x2 := (blk_cell kb2 2).trans rfl)
    | (
      go_at_call 49
      with_reducible refine (hn2 _ _ hM2 hB2).mono ?_
      rintro e w3 ⟨rfl, vb3, hM3, k3⟩
      have hB3 := Nat.le_trans hB2 k3.be.size
      have kb3 := k3.kp _ _ _ kb2 (by decide) (by decide)
      have x3 := (blk_cell kb3 3).trans rfl)
    | (
      go_at_call 49
      with_reducible refine (hn3 _ _ hM3 hB3).mono ?_
      rintro e w4 ⟨rfl, vb4, hM4, k4⟩
      have hB4 := Nat.le_trans hB3 k4.be.size
      have kb4 := k4.kp _ _ _ kb3 (by decide) (by decide))
    | (
      go_at_call 49
      with_reducible refine (hn4 _ _ hM4 hB4).mono ?_
      rintro e w5 ⟨rfl, vb5, hM5, k5⟩
      rw [HA2.out] at hM5
      have hB5 := Nat.le_trans hB4 k5.be.size
      have kb5 := k5.kp _ _ _ kb4 (by decide) (by decide)
      have x51 := (blk_cell kb5 1).trans rfl
      have x54 := (blk_cell kb5 4).trans rfl
      obtain ⟨b5, cap5, hv5⟩ := hM5.pw.some (by omega)
      subst hv5
      have y50 := (blk_cell hM5.pw.blk 0).trans rfl)
    | (
      go_at_call 50
      refine (hda _ _ hM5 hB5).mono ?_
      rintro e w6 ⟨rfl, vb6, hM6, k6⟩
      have hB6 := Nat.le_trans hB5 k6.be.size)
  obtain ⟨b, cap, hv6⟩ := hM6.pw.some (by omega)
  subst hv6
  have hM6p := hM6
  rw [hn] at hM6
  have hrb6 := hM6.pw.rb
  rw [hn] at hrb6
  have c6 : w6.cell? ⟨g, 0, none⟩ = some (.slice (some ⟨b, 0, none⟩) (k + 2 + n) cap) := (blk_cell hM6.pw.blk 0).trans rfl
  have hk6 : Bp B w w6 := (Bp.of bA hB).trans (k1.trans (k2.trans (k3.trans (k4.trans (k5.trans k6)))))
  clear hnm hn1 hn2 hn3 hn4 hda hM1 hM2 hM3 hM4 hM5 kb1 kb2 kb3 kb4 kb5 k1 k2 k3 k4 k5 k6 x1 x2 x3 x51 x54 y50 hblk bA hgl h hB1 hB2 hB3 hB4 hB5
  obtain ⟨hcap, hmx⟩ : k + 2 + n ≤ cap ∧ cap ≤ maxLen := by
    obtain ⟨_, a', cap', e, h1, h2, _⟩ := CRow.of_owns hrb6
    cases e
    exact ⟨h1, h2⟩
  unfold maxLen at hmx
  refine wp_region_held_drew (S := fun W => W.cell? ⟨g, 0, none⟩ = some (.slice (some ⟨b, 0, none⟩) (k + 2 + n) cap)) (by kernel_rfl) c6 (fun hHeld => ?_)
  refine wpAnyH_take (i := 0) (v := ?_) rfl (by kernel_rfl) (by kernel_rfl) (by kernel_rfl) (fun _ _ _ h => h) (Or.inl ⟨by rfl, ?_⟩) (by assumption) ?_
  rotate_left 1
  · (intro w hSw1; go_simp; try (with_reducible rfl))
  refine wpAnyH_take (i := 1) (v := ?_) rfl (by kernel_rfl) (by kernel_rfl) (by kernel_rfl) (fun _ _ _ h => h) (Or.inl ⟨by rfl, ?_⟩) (by assumption) ?_
  rotate_left 1
  · (intro w hSw1; go_simp; try (with_reducible rfl))
  refine wpAnyH_take (i := 2) (v := ?_) rfl (by kernel_rfl) (by kernel_rfl) (by kernel_rfl) (fun _ _ _ h => h) (Or.inl ⟨by rfl, ?_⟩) (by assumption) ?_
  rotate_left 1
  · (intro w hSw1; go_simp; try (with_reducible rfl))
  refine wpAnyH_take (i := 3) (v := ?_) rfl (by kernel_rfl) (by kernel_rfl) (by kernel_rfl) (fun _ _ _ h => h) (Or.inl ⟨by rfl, ?_⟩) (by assumption) ?_
  rotate_left 1
  · (intro w hSw1; go_simp; try (with_reducible rfl))
  refine wpAnyH_take (i := 4) (v := ?_) rfl (by kernel_rfl) (by kernel_rfl) (by kernel_rfl) (fun _ _ _ h => h) (Or.inl ⟨by rfl, ?_⟩) (by assumption) ?_
  rotate_left 1
  · (intro w hSw1; go_simp; try (with_reducible rfl))
  refine wpAnyH_take (i := 5) (v := .int .i64 (k : Int)) rfl (by kernel_rfl) (by kernel_rfl) (by kernel_rfl) (fun _ _ _ h => h) (Or.inl ⟨by rfl, ?_⟩) (by assumption) ?_
  · intro w hSw1
    go_simp
    try rw [hwk]
  have hck : ¬ cap = k := by omega
  refine wpAnyH_take (i := 6) (v := .slice (some ⟨b, k, none⟩) (k + 2 + n - k) (cap - k)) rfl (by kernel_rfl) (by kernel_rfl) (by kernel_rfl) (fun _ _ _ h => h) (Or.inl ⟨by rfl, ?_⟩) (by assumption) ?_
  · intro w hSw1
    go_simp
    try rw [if_neg hck]
    try (intro hx; exfalso; omega)
  refine wpAnyH_take (i := 7) (v := ?_) rfl (by kernel_rfl) (by kernel_rfl) (by kernel_rfl) (fun _ _ _ h => h) (Or.inl ⟨by rfl, ?_⟩) (by assumption) ?_
  rotate_left 1
  · (intro w hSw1; go_simp; try (with_reducible rfl))
  refine wpAnyH_take (i := 8) (v := ?_) rfl (by kernel_rfl) (by kernel_rfl) (by kernel_rfl) (fun _ _ _ h => h) (Or.inl ⟨by rfl, ?_⟩) (by assumption) ?_
  rotate_left 1
  · (intro w hSw1; go_simp; try (with_reducible rfl))
  refine wpAnyH_take (i := 9) (v := ?_) rfl (by kernel_rfl) (by kernel_rfl) (by kernel_rfl) (fun _ _ _ h => h) (Or.inl ⟨by rfl, ?_⟩) (by assumption) ?_
  rotate_left 1
  · (intro w hSw1; go_simp; try (with_reducible rfl))
  refine wpAnyH_take (i := 10) (v := ?_) rfl (by kernel_rfl) (by kernel_rfl) (by kernel_rfl) (fun _ _ _ h => h) (Or.inl ⟨by rfl, ?_⟩) (by assumption) ?_
  rotate_left 1
  · (intro w hSw1; go_simp; try (with_reducible rfl))
  refine wpAnyH_take (i := 11) (v := ?_) rfl (by kernel_rfl) (by kernel_rfl) (by kernel_rfl) (fun _ _ _ h => h) (Or.inl ⟨by rfl, ?_⟩) (by assumption) ?_
  rotate_left 1
  · (intro w hSw1; go_simp; try (with_reducible rfl))
  refine wpAnyH_take (i := 12) (v := ?_) rfl (by kernel_rfl) (by kernel_rfl) (by kernel_rfl) (fun _ _ _ h => h) (Or.inl ⟨by rfl, ?_⟩) (by assumption) ?_
  rotate_left 1
  · (intro w hSw1; go_simp; try (with_reducible rfl))
  refine wpAnyH_take (i := 13) (v := .int .i64 (n : Int)) rfl (by kernel_rfl) (by kernel_rfl) (by kernel_rfl) (fun _ _ _ h => h) (Or.inl ⟨by rfl, ?_⟩) (by assumption) ?_
  · intro w hSw1
    go_simp
    try rw [q1]
    try rw [hwn]
  have hMd := hM6p.below (Below.refl _ _).drew
  refine wpAnyH_ready (rs := [14]) (by kernel_rfl) (by simp) ?_
  refine AllReadyH.cons rfl (fun K hK => ?_) AllReadyH.nil
  go_simp
  refine (hbb _).mono ?_
  rintro e w7 ⟨rfl, hb7⟩
  go_wp2_with fail
  have hM7 := hMd.below hb7
  have hB7 : B ≤ w7.heap.size := Nat.le_trans hB6 hb7.size
  have k7 : Bp B w w7 := hk6.trans ((Bp.of (Below.refl _ _).drew hB6).trans (Bp.of hb7 hB6))
  have hP7 := hM7.pw
  rw [hn] at hP7
  have c7 : w7.cell? ⟨g, 0, none⟩ = some (.slice (some ⟨b, 0, none⟩) (k + 2 + n) cap) := (blk_cell hP7.blk 0).trans rfl
  refine hK.out _ _ c7 (fun _ => ?_)
  clear hK K
  have hS8 := hP7.store hn.symm k (UInt8.ofNat (n / 256))
  have hn8 : (D.1.set k (UInt8.ofNat (n / 256))).length = k + 2 + n := by rw [List.length_set, hn]
  have hS9 := hS8.store hn8.symm (k + 1) (UInt8.ofNat (n % 256))
  have b8 := hP7.storeBw (Bw.refl B w7) k (.int .u8 ((UInt8.ofNat (n / 256)).toNat : Int))
  have b9 := hS8.storeBw b8 (k + 1) (.int .u8 ((UInt8.ofNat (n % 256)).toNat : Int))
  have hM9 := hM7.after hS9 b9
  have c9 := (blk_cell hM9.pw.blk 0).trans rfl
  have hrb7 := hP7.rb
  rw [hn] at hrb7
  obtain ⟨vk, hvk⟩ : ∃ v, (Nm.bys D.1)[k]? = some v := ⟨_, List.getElem?_eq_getElem (by simp [Nm.bys]; omega)⟩
  obtain ⟨vk1, hvk1⟩ : ∃ v, (Nm.bys D.1)[k + 1]? = some v := ⟨_, List.getElem?_eq_getElem (by simp [Nm.bys]; omega)⟩
  have d7 := (hrb7.cellAt k (by omega)).trans hvk
  have d71 := (hrb7.cellAt (k + 1) (by omega)).trans hvk1
  have f7 := hrb7.frozenAt k
  have f71 := hrb7.frozenAt (k + 1)
  refine wpAnyH_ready (rs := [15]) (by kernel_rfl) (by simp) ?_
  refine AllReadyH.cons rfl (fun K hK => ?_) AllReadyH.nil
  refine step_copy_str2 rfl (.tmp 40) (.tmp 48) 22 9 rfl 5 Try.underlying22 (by kernel_rfl) b k (k + 2 + n - k) (cap - k) (by go_simp) ⟨(put2 n).toArray⟩ (by go_simp) (UInt8.ofNat (n / 256)) (UInt8.ofNat (n % 256)) (by simp [put2]) (by omega) (by rw [d7]; rfl) (by rw [d71]; rfl) f7 f71 ?_
  refine hK.out _ _ c9 (fun _ => ?_)
  clear hK K
  refine wpAnyH_done (by kernel_rfl) ?_ _
  have HM : PM ((w7.setCell ⟨b, k, none⟩ (.int .u8 ((UInt8.ofNat (n / 256)).toNat : Int))).setCell ⟨b, k + 1, none⟩ (.int .u8 ((UInt8.ofNat (n % 256)).toNat : Int))) g B r RES.1 RES.2 (.slice (some ⟨b, 0, none⟩) (k + 2 + n) cap) := by
    rw [← HR.out, rrFin, hn, hk, show k + 2 + n - (k + 2) = n by omega, show k + 2 - 2 = k by omega, show k + 2 - 1 = k + 1 by omega]
    exact hM9
  refine bodyPost_end (v := .tuple #[]) ?_ rfl ⟨rfl, _, HM, k7.trans (Bp.ofw b9)⟩
  simp [results, go_sem]
end Go.Proofs.Ythhagapmcbkeiaa
