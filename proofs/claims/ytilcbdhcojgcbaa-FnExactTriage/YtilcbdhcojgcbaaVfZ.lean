import Derived.Test.YtilcbdhcojgcbaaVgA
import Derived.Test.YtilcbdhcojgcbaaJOrdL
import Derived.Test.YtilcbdhcojgcbaaJSHm
/- spec.Verify by its contract: a message that is signed. -/
namespace Go.Proofs.Ytilcbdhcojgcbaa
open Go.RowKit
set_option linter.unusedVariables false

set_option maxRecDepth 100000 in
set_option maxHeartbeats 3200000 in
theorem specVerify_signed (v vk : Value) (l : List UInt8) (ks : List (ByteArray × ByteArray)) (now : Int) (rq : ByteArray) (w : World) (h : BySl w v l) (hl : l.length ≤ 1048576) (hk : CRow w vk ks.length 2 (kyVs ks)) (hkx : ∀ x ∈ ks, x.1.size ≤ maxLen)
    (hC0 : (msO l).c = 0) (hlen : (msO l).m.an.length ≤ 400 ∧ (msO l).m.au.length ≤ 400 ∧ (msO l).m.ex.length ≤ 400) (h8 : ks.length ≤ 8) (hn : (decide (0 ≤ now) && decide (now ≤ 281474976710655)) = true) (hr : rq.size ≤ 32) (hst : strayB (msO l).m = false) (hgk : ks.all (fun p => keyB p.1 p.2) = true)
    (r : Rm) (n : Nat) (hx0 : (msO l).m.ex.length = n + 1) (hxr : (msO l).m.ex[n]? = some r) (hty : r.ty = 250) (hdl : r.dat.length ≤ 65535) (hdb : datB r = true) (hd61 : r.dat.length = 61) (hl12 : 12 ≤ l.length) (hl2 : l.length ≤ 65535) (hol : r.owner.length ≤ 1048576) (hQ : 12 ≤ lastP l) (hQl : lastP l ≤ l.length) :
    Calls Try.prog 11 #[v, vk, .int .i64 now, .string rq] w (SPost (vdS ks r (bodyL l r (n + 1) (lastP l)) now rq) w) := by
  have hn4 : n + 1 ≤ 400 := by have := hlen.2.2; omega
  have HNW : Hid (0 ≤ now ∧ now ≤ 281474976710655) := by
    show _ ∧ _
    simp only [Bool.and_eq_true, decide_eq_true_eq] at hn
    exact hn
  have HGK := Nm.hide hgk
  have HK := Nm.hide hk
  have HKX := Nm.hide hkx
  have k0 := blk_alloc (blk_new w vdZ 44) (.cells vdF 44)
  have kf := blk_new (w.alloc (.cells vdZ 44)) vdF 44
  rw [World.size_alloc] at kf
  have hB0 := (Below.refl w.heap.size w).alloc (Nat.le_refl _) (.cells vdZ 44)
  have hB0 := hB0.alloc hB0.size (.cells vdF 44)
  have hde := l04Read_last v l _ (h.below hB0) (by omega) hC0 (by omega)
  have hin := fun W => l04In_any now 281474976710655 W
  obtain ⟨av, cv, rfl⟩ : ∃ a c, v = .slice a l.length c := by obtain ⟨_, a, c, e, _⟩ := h; exact ⟨a, c, e⟩
  obtain ⟨ak, ck, rfl⟩ : ∃ a c, vk = .slice a ks.length c := by obtain ⟨_, a, c, e, _⟩ := hk; exact ⟨a, c, e⟩
  simp only [vdZ, vdF] at hde k0 kf hB0
  go_enter Try.func11, Try.ntmps11
  go_wp2_with fail
  refine hde.mono ?_
  rintro e w1 ⟨b1, q, x, y, z, rfl, L1⟩
  generalize lastP l = QP at *
  obtain ⟨x1, y1, rfl⟩ := row_val L1.rq
  obtain ⟨x2, y2, rfl⟩ := row_val L1.ra
  obtain ⟨x3, y3, rfl⟩ := row_val L1.ru
  obtain ⟨x4, y4, rfl⟩ := row_val L1.rx
  have k1 := blk_below k0 b1
  have kf1 := blk_below kf b1
  have hB1 := Nm.below_two hB0 b1
  have hs1 : w.heap.size + 1 < w1.heap.size := blk_lt kf1
  clear hde k0 hB0 b1 kf
  obtain ⟨MS, eMS⟩ : ∃ M, M = msA (msO l).d (msO l).f (.slice x1 (msO l).m.qs.length y1) (.slice x2 (msO l).m.an.length y2) (.slice x3 (msO l).m.au.length y3) (.slice x4 (msO l).m.ex.length y4) := ⟨_, rfl⟩
  have hMz : MS.size = 15 := by rw [eMS]; rfl
  have hM1 : MS.all (·.oneCell') = true := by rw [eMS]; exact msA_one _ _ _ _ _ _ _ _ _ _ _ _ _ _
  have hMi : (Try.prog.info? 35).map (·.size) = some MS.size := by rw [hMz]; kernel_rfl
  have HMz := Nm.hide hMz
  have HMi := Nm.hide hMi
  have kA := blk_alloc k1 (.cells ms0 35)
  have kfA := blk_alloc kf1 (.cells ms0 35)
  have hBA := hB1.alloc hB1.size (.cells ms0 35)
  have hsA : w.heap.size ≤ (w1.alloc (.cells ms0 35)).heap.size := hBA.size
  simp only [ms0] at kA hBA hsA kfA
  rw [← eMS]
  clear hMz
  have hsv := fun W (hW : Below w1.heap.size w1 W) => l09Stray_any (msO l).d (msO l).f (msO l).m _ _ _ _ W (L1.rd.below hW) hlen
  rw [← eMS, hst] at hsv
  rw [hC0]
  rw [hn] at hin
  have h8' : ¬ (8 : Int) < (ks.length : Int) := by omega
  have h3' : ¬ (32 : Int) < (rq.size : Int) := by omega
  have HL1 := Nm.hide L1
  have HMS := Nm.hide eMS
  clear eMS L1 hlen hC0 hst hn hr
  go_wp2_with (first
    | (refine wpList_store_blk (.tmp 10) (.tmp 26) 35 rfl rfl rfl w1.heap.size _ _ (blk_new _ _ _) rfl rfl hMi (by rw [HMz.out]; rfl) hM1 ?_; intro w2 k2 o2; have k02 := o2.blk kA (by omega); have kf2 := o2.blk kfA (by omega); have hB2 := o2.below hBA (by omega) hsA; have b2 := o2.below ((Below.refl w1.heap.size w1).alloc (Nat.le_refl _) _) (Nat.le_refl _) (by rw [World.size_alloc]; omega); clear o2 kA kfA hBA hsA hMi hM1)
    | (go_at_call 18; refine (hin _).mono ?_; rintro e wf ⟨rfl, hw⟩; obtain rfl := hw.symm; clear hw)
    | (go_at_call 19; refine (hsv _ b2).mono ?_; rintro e w3 ⟨rfl, b3⟩; have hS3 : VKt w w3 w1.heap.size MS (msO l).m (.slice x1 (msO l).m.qs.length y1) (.slice x2 (msO l).m.an.length y2) (.slice x3 (msO l).m.au.length y3) (.slice x4 (msO l).m.ex.length y4) := ⟨blk_below k02 b3, blk_below kf2 b3, blk_below k2 b3, HL1.out.rd.below (Nm.below_two b2 b3), Nm.below_two hB2 b3⟩; clear k02 kf2 hB2 b2 b3 k2 hsv)
    | (refine wpList_load_want (.tmp 10) 35 (by first | rfl | (simp [Region.wanted, yielded]; omega)) rfl w1.heap.size _ _ k2 rfl Try.underlying35 rfl HMi.out ?_))
  go_loopw [13] (fun i wr => ∃ k : Nat, k ≤ ks.length ∧ i = .int .i64 k ∧ VKt w wr w1.heap.size MS (msO l).m (.slice x1 (msO l).m.qs.length y1) (.slice x2 (msO l).m.an.length y2) (.slice x3 (msO l).m.au.length y3) (.slice x4 (msO l).m.ex.length y4)) (fun i _ => ks.length - (intOf i).toNat)
  case atStart => exact ⟨0, Nat.zero_le _, rfl, hS3⟩
  case round =>
    clear hS3
    obtain ⟨k, hkl, rfl, hS⟩ := hrel
    by_cases hlt : k < ks.length
    · obtain ⟨x, hxk⟩ : ∃ x, ks[k]? = some x := ⟨_, List.getElem?_eq_getElem hlt⟩
      obtain ⟨_, a', c', e', hcap, hmx, hcc⟩ := hk
      cases e'
      obtain ⟨b, off, rfl, hcell⟩ := hcc (by omega)
      have put : ∀ {O : Nat} {z : Value}, w.cell? ⟨b, O, none⟩ = some z → wr.cell? ⟨b, O, none⟩ = some z := fun h => (hS.be.cell (World.block_lt_of_cell? w _ h)).trans h
      have c0 : wr.cell? ⟨b, off + k * 2, none⟩ = some (.string x.1) := put (hcell _ _ (kyVs_at ks k 0 x hxk (by decide)))
      have c1 : wr.cell? ⟨b, off + k * 2 + 1, none⟩ = some (.string x.2) := put (hcell _ _ (kyVs_at ks k 1 x hxk (by decide)))
      have hmem := List.mem_of_getElem? hxk
      have i1 : (0 : Int) ≤ (k : Int) := by omega
      have i2 : (k : Int) < (ks.length : Int) := by omega
      have hone := fun W => l09KeyOK_any x.1 x.2 W (hkx x hmem)
      have hok : keyB x.1 x.2 = true := by
        rw [List.all_eq_true] at hgk
        exact hgk x hmem
      rw [hok] at hone
      clear hok hmem hxk hcell hcc put hgk
      obtain ⟨y1', y2'⟩ := x
      simp only at *
      go_wp2_with fail
      refine (hone _).mono ?_
      rintro e w4 ⟨rfl, b4⟩
      have hS4 := hS.below b4
      clear hS b4 c0 c1
      go_wp2
      go_roundw
      case rel => exact ⟨k + 1, by omega, by go_num, hS4⟩
      case measure => simp [intOf]; omega
    · have hkl2 : k = ks.length := by omega
      subst hkl2
      have i2 : ¬ (ks.length : Int) < (ks.length : Int) := by omega
      have hAl := (Below.refl wr.heap.size wr).alloc (Nat.le_refl _) (.cells #[.int .i64 0, .bool false, .int .i64 (-1), .string ⟨#[]⟩, .slice none 0 0] 44)
      have hS1 := hS.below hAl
      have kV := blk_new wr #[.int .i64 0, .bool false, .int .i64 (-1), .string ⟨#[]⟩, .slice none 0 0] 44
      have cM := (blk_cell hS1.kM 14).trans (by rw [HMS.out]; rfl : MS[14]? = some (.slice x4 (msO l).m.ex.length y4))
      rw [hx0] at cM
      obtain ⟨_, a', c', e', hcap, hmx, hcc⟩ := hS1.rd.rx
      cases e'
      obtain ⟨b, off, rfl, hcell⟩ := hcc (by omega)
      have t1 := hcell _ _ (rrCs_at _ n 1 r hxr (by decide))
      have t0 : (wr.alloc (.cells #[.int .i64 0, .bool false, .int .i64 (-1), .string ⟨#[]⟩, .slice none 0 0] 44)).cell? ⟨b, off + n * 5, none⟩ = some (.string ⟨r.owner.toArray⟩) := hcell _ _ (rrCs_at _ n 0 r hxr (by decide))
      have t2 : (wr.alloc (.cells #[.int .i64 0, .bool false, .int .i64 (-1), .string ⟨#[]⟩, .slice none 0 0] 44)).cell? ⟨b, off + n * 5 + 2, none⟩ = some (.int .i64 (r.cl : Int)) := hcell _ _ (rrCs_at _ n 2 r hxr (by decide))
      have t3 : (wr.alloc (.cells #[.int .i64 0, .bool false, .int .i64 (-1), .string ⟨#[]⟩, .slice none 0 0] 44)).cell? ⟨b, off + n * 5 + 3, none⟩ = some (.int .i64 (r.ttl : Int)) := hcell _ _ (rrCs_at _ n 3 r hxr (by decide))
      have t4 : (wr.alloc (.cells #[.int .i64 0, .bool false, .int .i64 (-1), .string ⟨#[]⟩, .slice none 0 0] 44)).cell? ⟨b, off + n * 5 + 4, none⟩ = some (.string ⟨r.dat.toArray⟩) := hcell _ _ (rrCs_at _ n 4 r hxr (by decide))
      have t1 : (wr.alloc (.cells #[.int .i64 0, .bool false, .int .i64 (-1), .string ⟨#[]⟩, .slice none 0 0] 44)).cell? ⟨b, off + n * 5 + 1, none⟩ = some (.int .i64 (r.ty : Int)) := t1
      have hwI : IntKind.i64.wrap (((n + 1 : Nat) : Int) - 1) = (n : Int) := by rw [Go.wrap_small _ (by omega) (by omega)]; omega
      have j1 : (0 : Int) ≤ (n : Int) := by omega
      have j2 : (n : Int) < ((n + 1 : Nat) : Int) := by omega
      have j3 : (((n + 1 : Nat) : Int) == 0) = false := by simp; omega
      have j4 : (r.ty : Int) = 250 := by omega
      generalize eN : n + 1 = N at *
      have HN := Nm.hide eN
      have HTY := Nm.hide hty
      clear eN hty hx0 hxr hcell hcc
      have hM14 := (blk_cell hS1.kM 14).symm.trans cM
      have HM14 := Nm.hide hM14
      clear hM14
      have hda := fun W => l09Data_any r W hdl
      rw [j4] at t1 hda
      generalize eOW : (⟨r.owner.toArray⟩ : ByteArray) = OW at *
      have HOW := Nm.hide eOW
      clear eOW
      generalize (⟨r.dat.toArray⟩ : ByteArray) = DA at *
      have hAl2 := (Below.refl _ (wr.alloc (.cells #[.int .i64 0, .bool false, .int .i64 (-1), .string ⟨#[]⟩, .slice none 0 0] 44))).alloc (Nat.le_refl _) (.cells #[.string OW, .int .i64 250, .int .i64 (r.cl : Int), .int .i64 (r.ttl : Int), .string DA] 56)
      have hS2 := hS1.below hAl2
      have HS2 := Nm.hide hS2
      have kV2 := blk_alloc kV (.cells #[.string OW, .int .i64 250, .int .i64 (r.cl : Int), .int .i64 (r.ttl : Int), .string DA] 56)
      have kR2 := blk_new (wr.alloc (.cells #[.int .i64 0, .bool false, .int .i64 (-1), .string ⟨#[]⟩, .slice none 0 0] 44)) #[.string OW, .int .i64 250, .int .i64 (r.cl : Int), .int .i64 (r.ttl : Int), .string DA] 56
      rw [World.size_alloc] at kR2
      have HV2 := Nm.hide (And.intro kV2 kR2)
      have hg8 : w.heap.size < wr.heap.size := blk_lt hS.k8
      have HH := Nm.hide h
      clear kV2 kR2
      clear h hS hS1 hAl kV hgk j4 hAl2 hS2
      go_wp2_with fail
      refine (hda _).mono ?_
      rintro e w5 ⟨hdv, b5⟩
      have hS5 := HS2.out.below b5
      have HV5 := Nm.hide (And.intro (blk_below HV2.out.1 b5) (blk_below HV2.out.2 b5))
      clear b5 t0 t1 t2 t3 t4 cM hda
      rcases hdv with ⟨hd2, _⟩ | ⟨_, bD, rfl, kD⟩
      · rw [hdb] at hd2
        cases hd2
      have hcv := row_strB (HH.out.below hS5.be)
      obtain ⟨X, eX⟩ : ∃ X : ByteArray, X = ⟨l.toArray⟩ := ⟨_, rfl⟩
      rw [← eX] at hcv
      have hXz : X.size = l.length := by rw [eX, ba_size]
      obtain ⟨D3, eD3⟩ : ∃ D : ByteArray, D = cutS' r.dat 55 2 := ⟨_, rfl⟩
      obtain ⟨X2, eX2⟩ : ∃ D : ByteArray, D = X.extract 2 10 := ⟨_, rfl⟩
      obtain ⟨X12, eX12⟩ : ∃ D : ByteArray, D = X.extract 12 QP := ⟨_, rfl⟩
      obtain ⟨PN, ePN⟩ : ∃ D : ByteArray, D = ⟨(bigL n 2).toArray⟩ := ⟨_, rfl⟩
      obtain ⟨C1, hC1, eC1⟩ := cat_ex ((r.dat.drop 55).take 2) ((l.drop 2).take 8) D3 X2 eD3 (by rw [eX2]; exact ext_cut l X eX 2 10) (by simp; omega)
      obtain ⟨C2, hC2, eC2⟩ := cat_ex _ (bigL n 2) C1 PN eC1 ePN (by simp [big_len]; omega)
      obtain ⟨C3, hC3, eC3⟩ := cat_ex _ ((l.drop 12).take (QP - 12)) C2 X12 eC2 (by rw [eX12]; exact ext_cut l X eX 12 QP) (by simp [big_len]; omega)
      have hpt : ∀ W, Calls Try.prog 22 #[.int .i64 (n : Int), .int .i64 2] W fun e w' => e = .returned (.string PN) ∧ Below W.heap.size W w' := fun W => by rw [ePN]; exact l02PutN_any n 2 W (by omega) (by decide) (by decide)
      have s1 := ((blk_cell kD 3).trans rfl : w5.cell? ⟨bD, 3, none⟩ = some (.string (cutS' r.dat 55 2)))
      rw [← eD3] at s1
      have s2 := (blk_cell hS5.kM 14).trans HM14.out
      have q1 : (12 : Int) ≤ (QP : Int) := by omega
      have q2 : (QP : Int) ≤ (X.size : Int) := by omega
      have q3 : (10 : Int) ≤ (X.size : Int) := by omega
      have HE := Nm.hide (And.intro eX2 eX12)
      have HC3 := Nm.hide eC3
      clear eC1 eC2 eC3 eD3 ePN eX hXz eX2 eX12
      go_wp2_with fail
      refine wp_region_last (S := fun W => W.cell? ⟨bD, 3, none⟩ = some (.string D3) ∧ W.cell? ⟨w1.heap.size, 14, none⟩ = some (.slice (some ⟨b, off, none⟩) N y4)) (L := 1000) (by kernel_rfl) ⟨s1, s2⟩ (fun hH => ?_)
      refine wpAnyL_take (i := 0) (v := ?_) rfl (by kernel_rfl) (by kernel_rfl) (by kernel_rfl) (by kernel_rfl) (fun _ _ _ h => h) (Or.inl ⟨by rfl, ?_⟩) (by assumption) ?_
      rotate_left 1
      · (intro w hSw; obtain ⟨s1, s2⟩ := hSw; go_simp; try (with_reducible rfl))
      refine wpAnyL_take (i := 1) (v := ?_) rfl (by kernel_rfl) (by kernel_rfl) (by kernel_rfl) (by kernel_rfl) (fun _ _ _ h => h) (Or.inl ⟨by rfl, ?_⟩) (by assumption) ?_
      rotate_left 1
      · (intro w hSw; obtain ⟨s1, s2⟩ := hSw; go_simp; try (with_reducible rfl))
      refine wpAnyL_take (i := 2) (v := ?_) rfl (by kernel_rfl) (by kernel_rfl) (by kernel_rfl) (by kernel_rfl) (fun _ _ _ h => h) (Or.inl ⟨by rfl, ?_⟩) (by assumption) ?_
      rotate_left 1
      · (intro w hSw; obtain ⟨s1, s2⟩ := hSw; go_simp; try (with_reducible rfl))
      refine wpAnyL_take (i := 3) (v := ?_) rfl (by kernel_rfl) (by kernel_rfl) (by kernel_rfl) (by kernel_rfl) (fun _ _ _ h => h) (Or.inl ⟨by rfl, ?_⟩) (by assumption) ?_
      rotate_left 1
      · (intro w hSw; obtain ⟨s1, s2⟩ := hSw; go_simp; try (with_reducible rfl))
      refine wpAnyL_take (i := 4) (v := ?_) rfl (by kernel_rfl) (by kernel_rfl) (by kernel_rfl) (by kernel_rfl) (fun _ _ _ h => h) (Or.inl ⟨by rfl, ?_⟩) (by assumption) ?_
      rotate_left 1
      · (intro w hSw; obtain ⟨s1, s2⟩ := hSw; go_simp; try (with_reducible rfl))
      rw [← HE.out.1]
      refine wpAnyL_take (i := 5) (v := ?_) rfl (by kernel_rfl) (by kernel_rfl) (by kernel_rfl) (by kernel_rfl) (fun _ _ _ h => h) (Or.inl ⟨by rfl, ?_⟩) (by assumption) ?_
      rotate_left 1
      · (intro w hSw; obtain ⟨s1, s2⟩ := hSw; go_simp; try (with_reducible rfl))
      refine wpAnyL_take (i := 6) (v := ?_) rfl (by kernel_rfl) (by kernel_rfl) (by kernel_rfl) (by kernel_rfl) (fun _ _ _ h => h) (Or.inl ⟨by rfl, ?_⟩) (by assumption) ?_
      rotate_left 1
      · (intro w hSw; obtain ⟨s1, s2⟩ := hSw; go_simp; try (with_reducible rfl))
      refine wpAnyL_take (i := 7) (v := ?_) rfl (by kernel_rfl) (by kernel_rfl) (by kernel_rfl) (by kernel_rfl) (fun _ _ _ h => h) (Or.inl ⟨by rfl, ?_⟩) (by assumption) ?_
      rotate_left 1
      · (intro w hSw; obtain ⟨s1, s2⟩ := hSw; go_simp; try (with_reducible rfl))
      refine wpAnyL_take (i := 8) (v := ?_) rfl (by kernel_rfl) (by kernel_rfl) (by kernel_rfl) (by kernel_rfl) (fun _ _ _ h => h) (Or.inl ⟨by rfl, ?_⟩) (by assumption) ?_
      rotate_left 1
      · (intro w hSw; obtain ⟨s1, s2⟩ := hSw; go_simp; try (with_reducible rfl))
      refine wpAnyL_take (i := 9) (v := ?_) rfl (by kernel_rfl) (by kernel_rfl) (by kernel_rfl) (by kernel_rfl) (fun _ _ _ h => h) (Or.inl ⟨by rfl, ?_⟩) (by assumption) ?_
      rotate_left 1
      · (intro w hSw; obtain ⟨s1, s2⟩ := hSw; go_simp; try (with_reducible rfl))
      refine wpAnyL_take (i := 12) (v := ?_) rfl (by kernel_rfl) (by kernel_rfl) (by kernel_rfl) (by kernel_rfl) (fun _ _ _ h => h) (Or.inl ⟨by rfl, ?_⟩) (by assumption) ?_
      rotate_left 1
      · (intro w hSw; obtain ⟨s1, s2⟩ := hSw; go_simp; try (with_reducible rfl))
      refine wpAnyL_take (i := 13) (v := ?_) rfl (by kernel_rfl) (by kernel_rfl) (by kernel_rfl) (by kernel_rfl) (fun _ _ _ h => h) (Or.inl ⟨by rfl, ?_⟩) (by assumption) ?_
      rotate_left 1
      · (intro w hSw; obtain ⟨s1, s2⟩ := hSw; go_simp; try (with_reducible rfl))
      refine wpAnyL_take (i := 14) (v := ?_) rfl (by kernel_rfl) (by kernel_rfl) (by kernel_rfl) (by kernel_rfl) (fun _ _ _ h => h) (Or.inl ⟨by rfl, ?_⟩) (by assumption) ?_
      rotate_left 1
      · (intro w hSw; obtain ⟨s1, s2⟩ := hSw; go_simp; try (with_reducible rfl))
      rw [← HE.out.2]
      refine wpAnyL_one (i := 10) (by kernel_rfl) rfl (fun K hK' => ?_)
      go_simp
      refine (hpt _).mono ?_
      rintro e w6 ⟨rfl, b6⟩
      have b56 : Below w5.heap.size w5 w6 := (Below.refl _ w5).drew.trans b6
      have hS6 := hS5.below b56
      have kD6 := blk_below kD b56
      have HV6 := Nm.hide (And.intro (blk_below HV5.out.1 b56) (blk_below HV5.out.2 b56))
      have s16 := ((blk_cell kD6 3).trans ((blk_cell kD 3).symm.trans s1))
      have s26 := (blk_cell hS6.kM 14).trans HM14.out
      clear b6 hpt hS5 kD s1 s2 b56
      go_wp2_with fail
      refine hK'.out _ _ ⟨s16, s26⟩ (fun hH => ?_)
      clear hK' K
      refine wpAnyL_take (i := 11) (v := ?_) rfl (by kernel_rfl) (by kernel_rfl) (by kernel_rfl) (by kernel_rfl) (fun _ _ _ h => h) (Or.inl ⟨by rfl, ?_⟩) (by assumption) ?_
      rotate_left 1
      · (intro w hSw; obtain ⟨s1, s2⟩ := hSw; go_simp; try (with_reducible rfl))
      refine wpAnyL_take (i := 15) (v := ?_) rfl (by kernel_rfl) (by kernel_rfl) (by kernel_rfl) (by kernel_rfl) (fun _ _ _ h => h) (Or.inl ⟨by rfl, ?_⟩) (by assumption) ?_
      rotate_left 1
      · (intro w hSw; obtain ⟨s1, s2⟩ := hSw; go_simp; try (with_reducible rfl))
      refine wpAnyL_take (i := 16) (v := ?_) rfl (by kernel_rfl) (by kernel_rfl) (by kernel_rfl) (by kernel_rfl) (fun _ _ _ h => h) (Or.inl ⟨by rfl, ?_⟩) (by assumption) ?_
      rotate_left 1
      · (intro w hSw; obtain ⟨s1, s2⟩ := hSw; go_simp; try (with_reducible rfl))
      refine wpAnyL_done (by kernel_rfl) ?_
      obtain ⟨TM, eTM⟩ : ∃ D : ByteArray, D = cutS' r.dat 13 6 := ⟨_, rfl⟩
      obtain ⟨FD, eFD⟩ : ∃ D : ByteArray, D = cutS' r.dat 19 2 := ⟨_, rfl⟩
      obtain ⟨SS, eSS⟩ : ∃ D : ByteArray, D = cutS' r.dat 23 32 := ⟨_, rfl⟩
      rw [← eTM, ← eFD, ← eSS] at kD6
      have hZ6 : ZSt w w6 wr.heap.size bD (wr.heap.size + 1) _ _ _ := ⟨hS6.k8, HV6.out.1, kD6, HV6.out.2, hS6.be⟩
      have z1 := hZ6.set hg8 1 (.bool true)
      have z3 := z1.set hg8 3 (.string SS)
      have eC3 : C3.data.toList = bodyL l r N QP := by
        rw [HC3.out, ← bdy_is HN.out]
      have hBl : (bodyL l r N QP).length ≤ QP + 12 := bdy_len (by omega) (by omega)
      obtain ⟨BO, eBO⟩ : ∃ B, B = bodyL l r N QP := ⟨_, rfl⟩
      rw [← eBO] at eC3 hBl ⊢
      have hC3z : C3.data.toList.length = C3.size := by simp
      rw [eC3] at hC3z
      obtain ⟨v7, w7, r7, f7, b7⟩ := FRow.new C3 ((w6.setCell ⟨wr.heap.size, 1, none⟩ (.bool true)).setCell ⟨wr.heap.size, 3, none⟩ (.string SS)) (by omega)
      rw [eC3] at f7
      obtain ⟨xb, yb, rfl⟩ : ∃ a c, v7 = .slice a BO.length c := by obtain ⟨g, cap, e, _⟩ := f7; exact ⟨_, _, e⟩
      have z7 := z3.below b7
      have z4 := z7.set hg8 4 (.slice xb BO.length yb)
      have z0 := z4.set hg8 0 (.int .i64 29)
      have o9 : Only wr.heap.size w7 ((w7.setCell ⟨wr.heap.size, 4, none⟩ (.slice xb BO.length yb)).setCell ⟨wr.heap.size, 0, none⟩ (.int .i64 29)) := (Only.refl _ _).set.set
      have hgB := blk_lt z3.kV
      have f9 := f7.only o9 hgB
      simp only [List.setIfInBounds_toArray, List.set_cons_zero, List.set_cons_succ] at z1 z7 z0
      have rV6 := fun i => blk_cell hZ6.kV i
      have fV6 := fun i => blk_frozen hZ6.kV i
      have cD2 := (blk_cell z1.kD 2).trans rfl
      have rV7 := fun i => blk_cell z7.kV i
      have fV7 := fun i => blk_frozen z7.kV i
      have HC3e : Hid (C3 = ⟨BO.toArray⟩) := by
        show _ = _
        rw [HC3.out, bdy_is HN.out, ← eBO]
      have HBO : Hid (BO = bodyL l r N QP) := eBO
      have HQ : Hid (BO.length ≤ 1048576) := by show _ ≤ _; omega
      generalize ((w6.setCell ⟨wr.heap.size, 1, none⟩ (.bool true)).setCell ⟨wr.heap.size, 3, none⟩ (.string SS)).heap.size = B7 at f9 hgB
      have HE3 := Nm.hide (And.intro eTM (And.intro eFD eSS))
      have HF9 := Nm.hide f9
      have HZ0 := Nm.hide z0
      clear hZ6 z1 z3 z7 z4 z0 o9 f7 f9 b7 hS6 kD6 s16 s26 HV6 HV5 HV2 HS2 HC3 HH HM14 eC3 hC3z eBO eTM eFD eSS hBl HN hH
      go_wp2_with fail
      generalize wr.heap.size = gV at *
      have i8 := h8
      go_loopw [20] (fun i wz => ∃ (k : Nat), k ≤ ks.length ∧ i = .int .i64 ((k : Int) - 1) ∧ ZSt w wz gV bD (gV + 1) #[.int .i64 29, .bool true, .int .i64 (keyFr ks OW k), .string SS, .slice xb BO.length yb] #[.string TM, .string FD, .string SS, .string (cutS' r.dat 55 2)] #[.string OW, .int .i64 250, .int .i64 (r.cl : Int), .int .i64 (r.ttl : Int), .string DA] ∧ Hid (FRow wz B7 (.slice xb BO.length yb) BO)) (fun i _ => (intOf i + 1).toNat)
      case atStart => exact ⟨ks.length, Nat.le_refl _, rfl, by rw [keyFr_end]; exact HZ0.out, HF9⟩
      case round =>
        obtain ⟨k, hkl, rfl, hZ, HF⟩ := hrel
        clear HZ0 HF9 rV6 fV6 cD2 rV7 fV7 r7 hk hkx
        have hOz : OW.size ≤ maxLen := by rw [← HOW.out, ba_size]; unfold maxLen; omega
        cases k with
        | zero =>
          have e0 : (((0 : Nat) : Int) - 1) = -1 := rfl
          rw [e0]
          clear e0 hkl
          cases hka : keyAt ks OW with
          | none =>
            rw [keyFr_none hka] at hZ
            have HVD : Hid (vdS ks r BO now rq = ⟨29, true, -1, sS r.dat, BO⟩) := by
              show _ = _
              rw [vdS, HOW.out, hka]
            have cV2 := (blk_cell hZ.kV 2).trans rfl
            have HF8 := HF
            have HO : Hid (Only gV wr wr) := Only.refl _ _
            clear HK HF
            go_wp2_with ((first | (refine wpList_load_blk (.tmp 14) 44 rfl rfl gV _ _ (hZ).kV rfl Try.underlying44 rfl (by kernel_rfl) ?_) | (refine wpList_store_blk (.tmp 8) (.tmp 149) 44 rfl rfl rfl w.heap.size _ _ (hZ).k8 rfl rfl (by kernel_rfl) rfl (by kernel_rfl) ?_; intro wz kz oz)))
            rw [← HBO.out, HVD.out]
            exact vq_back kz (oz.below (hZ).be (Nat.le_refl _) (hZ).be.size) rfl rfl (by rw [HE3.out.2.2]; rfl) (free_by ((HF8.out.only HO.out hgB).only oz (by omega)))
          | some i =>
            obtain ⟨hkf, hil⟩ := keyFr_some hka
            rw [hkf] at hZ
            obtain ⟨x, hxk⟩ : ∃ x, ks[i]? = some x := ⟨_, List.getElem?_eq_getElem hil⟩
            obtain ⟨_, a', c', e', hcap', hmx', hcc⟩ := HK.out
            cases e'
            obtain ⟨b', off', rfl, hcell⟩ := hcc (by omega)
            have put : ∀ {O : Nat} {z : Value}, w.cell? ⟨b', O, none⟩ = some z → wr.cell? ⟨b', O, none⟩ = some z := fun h => (hZ.be.cell (World.block_lt_of_cell? w _ h)).trans h
            have c0 : wr.cell? ⟨b', off' + i * 2, none⟩ = some (.string x.1) := put (hcell _ _ (kyVs_at ks i 0 x hxk (by decide)))
            have c1 : wr.cell? ⟨b', off' + i * 2 + 1, none⟩ = some (.string x.2) := put (hcell _ _ (kyVs_at ks i 1 x hxk (by decide)))
            have cV2 : wr.cell? ⟨gV, 2, none⟩ = some (.int .i64 (i : Int)) := (blk_cell hZ.kV 2).trans rfl
            have cD0 : wr.cell? ⟨bD, 0, none⟩ = some (.string TM) := (blk_cell hZ.kD 0).trans rfl
            have cD1 : wr.cell? ⟨bD, 1, none⟩ = some (.string FD) := (blk_cell hZ.kD 1).trans rfl
            have cD2 : wr.cell? ⟨bD, 2, none⟩ = some (.string SS) := (blk_cell hZ.kD 2).trans rfl
            have hkey : keyB x.1 x.2 = true := List.all_eq_true.1 HGK.out x (List.mem_of_getElem? hxk)
            obtain ⟨hkz, hfz, hs1', hs64⟩ := key_name hkey
            have hsu := fun W => l09Sum_any x.1 x.2 rq C3 TM FD BO ((r.dat.drop 13).take 6) ((r.dat.drop 19).take 2) HC3e.out HE3.out.1 HE3.out.2.1 W HQ.out (by simp; omega) (by simp; omega) (by unfold maxLen; omega) (by omega) (by omega) (by omega)
            rw [sum_is hd61] at hsu
            obtain ⟨SU, eSU⟩ : ∃ S : ByteArray, S = ⟨(sumL x.2.data.toList rq.data.toList BO (Nm.foldS x.1).data.toList (sT r.dat) (sF r.dat)).toArray⟩ := ⟨_, rfl⟩
            rw [← eSU] at hsu
            have hcmp := str_cmp (a := SU) (b := SS)
            have hSS : SS.data.toList = sS r.dat := by rw [HE3.out.2.2, cutS'_data]; rfl
            have hSU : SU.data.toList = sumL x.2.data.toList rq.data.toList BO (Nm.foldS x.1).data.toList (sT r.dat) (sF r.dat) := by rw [eSU]
            rw [hSS, hSU] at hcmp
            have HVS : Hid (vdS ks r BO now rq = ⟨codeV x BO r.dat now rq, true, (i : Int), sS r.dat, BO⟩) := by
              show _ = _
              rw [vdS, HOW.out, hka]
              simp only
              rw [List.getD_eq_getElem?_getD, hxk]
              rfl
            have n0 : ¬ (i : Int) < 0 := by omega
            have i1 : (0 : Int) ≤ (i : Int) := by omega
            have i2 : (i : Int) < (ks.length : Int) := by omega
            obtain ⟨nw1, nw2⟩ := HNW.out
            clear hcell hcc put hxk hka hkf hkey hkz hfz hs1' hs64 eSU hSS hSU HK hOz
            by_cases hsame : sumL x.2.data.toList rq.data.toList BO (Nm.foldS x.1).data.toList (sT r.dat) (sF r.dat) = sS r.dat
            · have hnT := fun W => l02Num_any TM W (by rw [HE3.out.1, cutS', ba_size]; simp; omega)
              have eT : numL TM.data.toList = sT r.dat := by rw [HE3.out.1, cutS'_data]; rfl
              rw [eT] at hnT
              have hnF := fun W => l02Num_any FD W (by rw [HE3.out.2.1, cutS', ba_size]; simp; omega)
              have eF : numL FD.data.toList = sF r.dat := by rw [HE3.out.2.1, cutS'_data]; rfl
              rw [eF] at hnF
              have hTb : sT r.dat ≤ 281474976710655 := numL_six (by simp; omega)
              have hFb : sF r.dat ≤ 65535 := by have := num_two (l := (r.dat.drop 19).take 2) (by simp; omega); unfold sF; omega
              have HCV : Hid (codeV x BO r.dat now rq = if lateN (sT r.dat) (sF r.dat) now then 31 else 0) := by
                show _ = _
                rw [codeV, if_pos hsame]
              rw [decide_eq_true hsame] at hcmp
              obtain ⟨m1, m2⟩ := hcmp
              simp only [Bool.not_true] at m1
              clear hsame eT eF
              generalize sT r.dat = T at *
              generalize sF r.dat = F at *
              obtain ⟨y1', y2'⟩ := x
              simp only at c0 c1 hsu
              go_wp2_with fail
              refine wp_region_last (S := fun W => W.cell? ⟨gV, 2, none⟩ = some (.int .i64 (i : Int)) ∧ W.cell? ⟨b', off' + i * 2, none⟩ = some (.string y1') ∧ W.cell? ⟨b', off' + i * 2 + 1, none⟩ = some (.string y2') ∧ W.cell? ⟨bD, 0, none⟩ = some (.string TM) ∧ W.cell? ⟨bD, 1, none⟩ = some (.string FD) ∧ W.cell? ⟨bD, 2, none⟩ = some (.string SS)) (L := 1000) (by kernel_rfl) ⟨cV2, c0, c1, cD0, cD1, cD2⟩ (fun hH => ?_)
              refine wpAnyL_take (i := 0) (v := ?_) rfl (by kernel_rfl) (by kernel_rfl) (by kernel_rfl) (by kernel_rfl) (fun _ _ _ h => h) (Or.inl ⟨by rfl, ?_⟩) (by assumption) ?_
              rotate_left 1
              · (intro w hSw; obtain ⟨s1, s2, s3, s4, s5, s6⟩ := hSw; go_simp; try (with_reducible rfl))
              refine wpAnyL_take (i := 1) (v := ?_) rfl (by kernel_rfl) (by kernel_rfl) (by kernel_rfl) (by kernel_rfl) (fun _ _ _ h => h) (Or.inl ⟨by rfl, ?_⟩) (by assumption) ?_
              rotate_left 1
              · (intro w hSw; obtain ⟨s1, s2, s3, s4, s5, s6⟩ := hSw; go_simp; try (with_reducible rfl))
              refine wpAnyL_take (i := 2) (v := ?_) rfl (by kernel_rfl) (by kernel_rfl) (by kernel_rfl) (by kernel_rfl) (fun _ _ _ h => h) (Or.inl ⟨by rfl, ?_⟩) (by assumption) ?_
              rotate_left 1
              · (intro w hSw; obtain ⟨s1, s2, s3, s4, s5, s6⟩ := hSw; go_simp; try (with_reducible rfl))
              refine wpAnyL_take (i := 3) (v := ?_) rfl (by kernel_rfl) (by kernel_rfl) (by kernel_rfl) (by kernel_rfl) (fun _ _ _ h => h) (Or.inl ⟨by rfl, ?_⟩) (by assumption) ?_
              rotate_left 1
              · (intro w hSw; obtain ⟨s1, s2, s3, s4, s5, s6⟩ := hSw; go_simp; try (with_reducible rfl))
              refine wpAnyL_take (i := 4) (v := ?_) rfl (by kernel_rfl) (by kernel_rfl) (by kernel_rfl) (by kernel_rfl) (fun _ _ _ h => h) (Or.inl ⟨by rfl, ?_⟩) (by assumption) ?_
              rotate_left 1
              · (intro w hSw; obtain ⟨s1, s2, s3, s4, s5, s6⟩ := hSw; go_simp; try (with_reducible rfl))
              refine wpAnyL_take (i := 5) (v := ?_) rfl (by kernel_rfl) (by kernel_rfl) (by kernel_rfl) (by kernel_rfl) (fun _ _ _ h => h) (Or.inl ⟨by rfl, ?_⟩) (by assumption) ?_
              rotate_left 1
              · (intro w hSw; obtain ⟨s1, s2, s3, s4, s5, s6⟩ := hSw; go_simp; try (with_reducible rfl))
              refine wpAnyL_take (i := 6) (v := ?_) rfl (by kernel_rfl) (by kernel_rfl) (by kernel_rfl) (by kernel_rfl) (fun _ _ _ h => h) (Or.inl ⟨by rfl, ?_⟩) (by assumption) ?_
              rotate_left 1
              · (intro w hSw; obtain ⟨s1, s2, s3, s4, s5, s6⟩ := hSw; go_simp; try (with_reducible rfl))
              refine wpAnyL_take (i := 7) (v := ?_) rfl (by kernel_rfl) (by kernel_rfl) (by kernel_rfl) (by kernel_rfl) (fun _ _ _ h => h) (Or.inl ⟨by rfl, ?_⟩) (by assumption) ?_
              rotate_left 1
              · (intro w hSw; obtain ⟨s1, s2, s3, s4, s5, s6⟩ := hSw; go_simp; try (with_reducible rfl))
              refine wpAnyL_take (i := 8) (v := ?_) rfl (by kernel_rfl) (by kernel_rfl) (by kernel_rfl) (by kernel_rfl) (fun _ _ _ h => h) (Or.inl ⟨by rfl, ?_⟩) (by assumption) ?_
              rotate_left 1
              · (intro w hSw; obtain ⟨s1, s2, s3, s4, s5, s6⟩ := hSw; go_simp; try (with_reducible rfl))
              refine wpAnyL_take (i := 9) (v := ?_) rfl (by kernel_rfl) (by kernel_rfl) (by kernel_rfl) (by kernel_rfl) (fun _ _ _ h => h) (Or.inl ⟨by rfl, ?_⟩) (by assumption) ?_
              rotate_left 1
              · (intro w hSw; obtain ⟨s1, s2, s3, s4, s5, s6⟩ := hSw; go_simp; try (with_reducible rfl))
              refine wpAnyL_take (i := 10) (v := ?_) rfl (by kernel_rfl) (by kernel_rfl) (by kernel_rfl) (by kernel_rfl) (fun _ _ _ h => h) (Or.inl ⟨by rfl, ?_⟩) (by assumption) ?_
              rotate_left 1
              · (intro w hSw; obtain ⟨s1, s2, s3, s4, s5, s6⟩ := hSw; go_simp; try (with_reducible rfl))
              refine wpAnyL_take (i := 11) (v := ?_) rfl (by kernel_rfl) (by kernel_rfl) (by kernel_rfl) (by kernel_rfl) (fun _ _ _ h => h) (Or.inl ⟨by rfl, ?_⟩) (by assumption) ?_
              rotate_left 1
              · (intro w hSw; obtain ⟨s1, s2, s3, s4, s5, s6⟩ := hSw; go_simp; try (with_reducible rfl))
              refine wpAnyL_take (i := 12) (v := ?_) rfl (by kernel_rfl) (by kernel_rfl) (by kernel_rfl) (by kernel_rfl) (fun _ _ _ h => h) (Or.inl ⟨by rfl, ?_⟩) (by assumption) ?_
              rotate_left 1
              · (intro w hSw; obtain ⟨s1, s2, s3, s4, s5, s6⟩ := hSw; go_simp; try (with_reducible rfl))
              refine wpAnyL_take (i := 14) (v := ?_) rfl (by kernel_rfl) (by kernel_rfl) (by kernel_rfl) (by kernel_rfl) (fun _ _ _ h => h) (Or.inl ⟨by rfl, ?_⟩) (by assumption) ?_
              rotate_left 1
              · (intro w hSw; obtain ⟨s1, s2, s3, s4, s5, s6⟩ := hSw; go_simp; try (with_reducible rfl))
              refine wpAnyL_take (i := 15) (v := ?_) rfl (by kernel_rfl) (by kernel_rfl) (by kernel_rfl) (by kernel_rfl) (fun _ _ _ h => h) (Or.inl ⟨by rfl, ?_⟩) (by assumption) ?_
              rotate_left 1
              · (intro w hSw; obtain ⟨s1, s2, s3, s4, s5, s6⟩ := hSw; go_simp; try (with_reducible rfl))
              refine wpAnyL_take (i := 16) (v := ?_) rfl (by kernel_rfl) (by kernel_rfl) (by kernel_rfl) (by kernel_rfl) (fun _ _ _ h => h) (Or.inl ⟨by rfl, ?_⟩) (by assumption) ?_
              rotate_left 1
              · (intro w hSw; obtain ⟨s1, s2, s3, s4, s5, s6⟩ := hSw; go_simp; try (with_reducible rfl))
              refine wpAnyL_one (i := 13) (by kernel_rfl) rfl (fun K hK' => ?_)
              go_simp
              refine (hsu _).mono ?_
              rintro e w8 ⟨rfl, b8⟩
              have b8' : Below wr.heap.size wr w8 := (Below.refl _ wr).drew.trans b8
              have hZ8 := hZ.below b8'
              have HF8 : Hid (FRow w8 B7 (.slice xb BO.length yb) BO) := HF.out.below b8'
              have put8 : ∀ {B O : Nat} {z : Value}, wr.cell? ⟨B, O, none⟩ = some z → w8.cell? ⟨B, O, none⟩ = some z := fun h => (b8'.cell (World.block_lt_of_cell? wr _ h)).trans h
              have hS8 : w8.cell? ⟨gV, 2, none⟩ = some (.int .i64 (i : Int)) ∧ w8.cell? ⟨b', off' + i * 2, none⟩ = some (.string y1') ∧ w8.cell? ⟨b', off' + i * 2 + 1, none⟩ = some (.string y2') ∧ w8.cell? ⟨bD, 0, none⟩ = some (.string TM) ∧ w8.cell? ⟨bD, 1, none⟩ = some (.string FD) ∧ w8.cell? ⟨bD, 2, none⟩ = some (.string SS) := ⟨put8 cV2, put8 c0, put8 c1, put8 cD0, put8 cD1, put8 cD2⟩
              have e0 := put8 cD0
              clear hsu b8 b8' put8 hZ HF cV2 c0 c1 cD0 cD1 cD2
              go_wp2_with fail
              refine hK'.out _ _ hS8 (fun hH => ?_)
              clear hK' K hS8
              refine wpAnyL_take (i := 17) (v := ?_) rfl (by kernel_rfl) (by kernel_rfl) (by kernel_rfl) (by kernel_rfl) (fun _ _ _ h => h) (Or.inl ⟨by rfl, ?_⟩) (by assumption) ?_
              rotate_left 1
              · (intro w hSw; obtain ⟨s1, s2, s3, s4, s5, s6⟩ := hSw; go_simp; try (with_reducible rfl))
              refine wpAnyL_done (by kernel_rfl) ?_
              have rV8 := fun i => blk_cell hZ8.kV i
              have fV8 := fun i => blk_frozen hZ8.kV i
              clear hH
              have cD1z := (blk_cell (hZ8.set hg8 0 (.int .i64 0)).kD 1).trans rfl
              by_cases hng : now - (T : Int) < 0
              · have hng2 : now < (T : Int) := by omega
                by_cases hlt : (F : Int) < (T : Int) - now
                · have hlt2 : (F : Int) < -(now - (T : Int)) := by omega
                  have HVD : Hid (vdS ks r BO now rq = ⟨31, true, (i : Int), sS r.dat, BO⟩) := by
                    show _ = _
                    rw [HVS.out, HCV.out, if_pos]
                    rw [lateN, decide_eq_true hlt, Bool.or_true]
                  have z := (hZ8.set hg8 0 (.int .i64 0)).set hg8 0 (.int .i64 31)
                  simp only [List.setIfInBounds_toArray, List.set_cons_zero] at z
                  have HZ := Nm.hide z
                  have HO : Hid (Only gV w8 ((w8.setCell ⟨gV, 0, none⟩ (.int .i64 0)).setCell ⟨gV, 0, none⟩ (.int .i64 31))) := (Only.refl _ _).set.set
                  clear z
                  go_wp2_with fail
                  refine (hnT _).mono ?_
                  rintro e w9 ⟨rfl, hw9⟩
                  subst hw9
                  go_wp2_with fail
                  refine (hnF _).mono ?_
                  rintro e w10 ⟨rfl, hw10⟩
                  subst hw10
                  have z := HZ.out
                  go_wp2_with ((first | (refine wpList_load_blk (.tmp 14) 44 rfl rfl gV _ _ (z).kV rfl Try.underlying44 rfl (by kernel_rfl) ?_) | (refine wpList_store_blk (.tmp 8) (.tmp 188) 44 rfl rfl rfl w.heap.size _ _ (z).k8 rfl rfl (by kernel_rfl) rfl (by kernel_rfl) ?_; intro wz kz oz)))
                  rw [← HBO.out, HVD.out]
                  exact vq_back kz (oz.below (z).be (Nat.le_refl _) (z).be.size) rfl rfl (by rw [HE3.out.2.2]; rfl) (free_by ((HF8.out.only HO.out hgB).only oz (by omega)))
                · have hlt2 : ¬ (F : Int) < -(now - (T : Int)) := by omega
                  have HVD : Hid (vdS ks r BO now rq = ⟨0, true, (i : Int), sS r.dat, BO⟩) := by
                    show _ = _
                    rw [HVS.out, HCV.out, if_neg]
                    rw [lateN, decide_eq_false hlt, decide_eq_false (by omega)]
                    decide
                  have z := hZ8.set hg8 0 (.int .i64 0)
                  simp only [List.setIfInBounds_toArray, List.set_cons_zero] at z
                  have HZ := Nm.hide z
                  have HO : Hid (Only gV w8 (w8.setCell ⟨gV, 0, none⟩ (.int .i64 0))) := (Only.refl _ _).set
                  clear z
                  go_wp2_with fail
                  refine (hnT _).mono ?_
                  rintro e w9 ⟨rfl, hw9⟩
                  subst hw9
                  go_wp2_with fail
                  refine (hnF _).mono ?_
                  rintro e w10 ⟨rfl, hw10⟩
                  subst hw10
                  have z := HZ.out
                  go_wp2_with ((first | (refine wpList_load_blk (.tmp 14) 44 rfl rfl gV _ _ (z).kV rfl Try.underlying44 rfl (by kernel_rfl) ?_) | (refine wpList_store_blk (.tmp 8) (.tmp 188) 44 rfl rfl rfl w.heap.size _ _ (z).k8 rfl rfl (by kernel_rfl) rfl (by kernel_rfl) ?_; intro wz kz oz)))
                  rw [← HBO.out, HVD.out]
                  exact vq_back kz (oz.below (z).be (Nat.le_refl _) (z).be.size) rfl rfl (by rw [HE3.out.2.2]; rfl) (free_by ((HF8.out.only HO.out hgB).only oz (by omega)))
              · have hng2 : ¬ now < (T : Int) := by omega
                by_cases hlt : (F : Int) < now - (T : Int)
                · have HVD : Hid (vdS ks r BO now rq = ⟨31, true, (i : Int), sS r.dat, BO⟩) := by
                    show _ = _
                    rw [HVS.out, HCV.out, if_pos]
                    rw [lateN, decide_eq_true hlt, Bool.true_or]
                  have z := (hZ8.set hg8 0 (.int .i64 0)).set hg8 0 (.int .i64 31)
                  simp only [List.setIfInBounds_toArray, List.set_cons_zero] at z
                  have HZ := Nm.hide z
                  have HO : Hid (Only gV w8 ((w8.setCell ⟨gV, 0, none⟩ (.int .i64 0)).setCell ⟨gV, 0, none⟩ (.int .i64 31))) := (Only.refl _ _).set.set
                  clear z
                  go_wp2_with fail
                  refine (hnT _).mono ?_
                  rintro e w9 ⟨rfl, hw9⟩
                  subst hw9
                  go_wp2_with fail
                  refine (hnF _).mono ?_
                  rintro e w10 ⟨rfl, hw10⟩
                  subst hw10
                  have z := HZ.out
                  go_wp2_with ((first | (refine wpList_load_blk (.tmp 14) 44 rfl rfl gV _ _ (z).kV rfl Try.underlying44 rfl (by kernel_rfl) ?_) | (refine wpList_store_blk (.tmp 8) (.tmp 188) 44 rfl rfl rfl w.heap.size _ _ (z).k8 rfl rfl (by kernel_rfl) rfl (by kernel_rfl) ?_; intro wz kz oz)))
                  rw [← HBO.out, HVD.out]
                  exact vq_back kz (oz.below (z).be (Nat.le_refl _) (z).be.size) rfl rfl (by rw [HE3.out.2.2]; rfl) (free_by ((HF8.out.only HO.out hgB).only oz (by omega)))
                · have HVD : Hid (vdS ks r BO now rq = ⟨0, true, (i : Int), sS r.dat, BO⟩) := by
                    show _ = _
                    rw [HVS.out, HCV.out, if_neg]
                    rw [lateN, decide_eq_false hlt, decide_eq_false (by omega)]
                    decide
                  have z := hZ8.set hg8 0 (.int .i64 0)
                  simp only [List.setIfInBounds_toArray, List.set_cons_zero] at z
                  have HZ := Nm.hide z
                  have HO : Hid (Only gV w8 (w8.setCell ⟨gV, 0, none⟩ (.int .i64 0))) := (Only.refl _ _).set
                  clear z
                  go_wp2_with fail
                  refine (hnT _).mono ?_
                  rintro e w9 ⟨rfl, hw9⟩
                  subst hw9
                  go_wp2_with fail
                  refine (hnF _).mono ?_
                  rintro e w10 ⟨rfl, hw10⟩
                  subst hw10
                  have z := HZ.out
                  go_wp2_with ((first | (refine wpList_load_blk (.tmp 14) 44 rfl rfl gV _ _ (z).kV rfl Try.underlying44 rfl (by kernel_rfl) ?_) | (refine wpList_store_blk (.tmp 8) (.tmp 188) 44 rfl rfl rfl w.heap.size _ _ (z).k8 rfl rfl (by kernel_rfl) rfl (by kernel_rfl) ?_; intro wz kz oz)))
                  rw [← HBO.out, HVD.out]
                  exact vq_back kz (oz.below (z).be (Nat.le_refl _) (z).be.size) rfl rfl (by rw [HE3.out.2.2]; rfl) (free_by ((HF8.out.only HO.out hgB).only oz (by omega)))
            · have HVD : Hid (vdS ks r BO now rq = ⟨30, true, (i : Int), sS r.dat, BO⟩) := by
                show _ = _
                rw [HVS.out, codeV, if_neg hsame]
              rw [decide_eq_false hsame] at hcmp
              obtain ⟨m1, m2⟩ := hcmp
              simp only [Bool.not_false] at m1
              clear hsame
              obtain ⟨y1', y2'⟩ := x
              simp only at c0 c1 hsu
              go_wp2_with fail
              refine wp_region_last (S := fun W => W.cell? ⟨gV, 2, none⟩ = some (.int .i64 (i : Int)) ∧ W.cell? ⟨b', off' + i * 2, none⟩ = some (.string y1') ∧ W.cell? ⟨b', off' + i * 2 + 1, none⟩ = some (.string y2') ∧ W.cell? ⟨bD, 0, none⟩ = some (.string TM) ∧ W.cell? ⟨bD, 1, none⟩ = some (.string FD) ∧ W.cell? ⟨bD, 2, none⟩ = some (.string SS)) (L := 1000) (by kernel_rfl) ⟨cV2, c0, c1, cD0, cD1, cD2⟩ (fun hH => ?_)
              refine wpAnyL_take (i := 0) (v := ?_) rfl (by kernel_rfl) (by kernel_rfl) (by kernel_rfl) (by kernel_rfl) (fun _ _ _ h => h) (Or.inl ⟨by rfl, ?_⟩) (by assumption) ?_
              rotate_left 1
              · (intro w hSw; obtain ⟨s1, s2, s3, s4, s5, s6⟩ := hSw; go_simp; try (with_reducible rfl))
              refine wpAnyL_take (i := 1) (v := ?_) rfl (by kernel_rfl) (by kernel_rfl) (by kernel_rfl) (by kernel_rfl) (fun _ _ _ h => h) (Or.inl ⟨by rfl, ?_⟩) (by assumption) ?_
              rotate_left 1
              · (intro w hSw; obtain ⟨s1, s2, s3, s4, s5, s6⟩ := hSw; go_simp; try (with_reducible rfl))
              refine wpAnyL_take (i := 2) (v := ?_) rfl (by kernel_rfl) (by kernel_rfl) (by kernel_rfl) (by kernel_rfl) (fun _ _ _ h => h) (Or.inl ⟨by rfl, ?_⟩) (by assumption) ?_
              rotate_left 1
              · (intro w hSw; obtain ⟨s1, s2, s3, s4, s5, s6⟩ := hSw; go_simp; try (with_reducible rfl))
              refine wpAnyL_take (i := 3) (v := ?_) rfl (by kernel_rfl) (by kernel_rfl) (by kernel_rfl) (by kernel_rfl) (fun _ _ _ h => h) (Or.inl ⟨by rfl, ?_⟩) (by assumption) ?_
              rotate_left 1
              · (intro w hSw; obtain ⟨s1, s2, s3, s4, s5, s6⟩ := hSw; go_simp; try (with_reducible rfl))
              refine wpAnyL_take (i := 4) (v := ?_) rfl (by kernel_rfl) (by kernel_rfl) (by kernel_rfl) (by kernel_rfl) (fun _ _ _ h => h) (Or.inl ⟨by rfl, ?_⟩) (by assumption) ?_
              rotate_left 1
              · (intro w hSw; obtain ⟨s1, s2, s3, s4, s5, s6⟩ := hSw; go_simp; try (with_reducible rfl))
              refine wpAnyL_take (i := 5) (v := ?_) rfl (by kernel_rfl) (by kernel_rfl) (by kernel_rfl) (by kernel_rfl) (fun _ _ _ h => h) (Or.inl ⟨by rfl, ?_⟩) (by assumption) ?_
              rotate_left 1
              · (intro w hSw; obtain ⟨s1, s2, s3, s4, s5, s6⟩ := hSw; go_simp; try (with_reducible rfl))
              refine wpAnyL_take (i := 6) (v := ?_) rfl (by kernel_rfl) (by kernel_rfl) (by kernel_rfl) (by kernel_rfl) (fun _ _ _ h => h) (Or.inl ⟨by rfl, ?_⟩) (by assumption) ?_
              rotate_left 1
              · (intro w hSw; obtain ⟨s1, s2, s3, s4, s5, s6⟩ := hSw; go_simp; try (with_reducible rfl))
              refine wpAnyL_take (i := 7) (v := ?_) rfl (by kernel_rfl) (by kernel_rfl) (by kernel_rfl) (by kernel_rfl) (fun _ _ _ h => h) (Or.inl ⟨by rfl, ?_⟩) (by assumption) ?_
              rotate_left 1
              · (intro w hSw; obtain ⟨s1, s2, s3, s4, s5, s6⟩ := hSw; go_simp; try (with_reducible rfl))
              refine wpAnyL_take (i := 8) (v := ?_) rfl (by kernel_rfl) (by kernel_rfl) (by kernel_rfl) (by kernel_rfl) (fun _ _ _ h => h) (Or.inl ⟨by rfl, ?_⟩) (by assumption) ?_
              rotate_left 1
              · (intro w hSw; obtain ⟨s1, s2, s3, s4, s5, s6⟩ := hSw; go_simp; try (with_reducible rfl))
              refine wpAnyL_take (i := 9) (v := ?_) rfl (by kernel_rfl) (by kernel_rfl) (by kernel_rfl) (by kernel_rfl) (fun _ _ _ h => h) (Or.inl ⟨by rfl, ?_⟩) (by assumption) ?_
              rotate_left 1
              · (intro w hSw; obtain ⟨s1, s2, s3, s4, s5, s6⟩ := hSw; go_simp; try (with_reducible rfl))
              refine wpAnyL_take (i := 10) (v := ?_) rfl (by kernel_rfl) (by kernel_rfl) (by kernel_rfl) (by kernel_rfl) (fun _ _ _ h => h) (Or.inl ⟨by rfl, ?_⟩) (by assumption) ?_
              rotate_left 1
              · (intro w hSw; obtain ⟨s1, s2, s3, s4, s5, s6⟩ := hSw; go_simp; try (with_reducible rfl))
              refine wpAnyL_take (i := 11) (v := ?_) rfl (by kernel_rfl) (by kernel_rfl) (by kernel_rfl) (by kernel_rfl) (fun _ _ _ h => h) (Or.inl ⟨by rfl, ?_⟩) (by assumption) ?_
              rotate_left 1
              · (intro w hSw; obtain ⟨s1, s2, s3, s4, s5, s6⟩ := hSw; go_simp; try (with_reducible rfl))
              refine wpAnyL_take (i := 12) (v := ?_) rfl (by kernel_rfl) (by kernel_rfl) (by kernel_rfl) (by kernel_rfl) (fun _ _ _ h => h) (Or.inl ⟨by rfl, ?_⟩) (by assumption) ?_
              rotate_left 1
              · (intro w hSw; obtain ⟨s1, s2, s3, s4, s5, s6⟩ := hSw; go_simp; try (with_reducible rfl))
              refine wpAnyL_take (i := 14) (v := ?_) rfl (by kernel_rfl) (by kernel_rfl) (by kernel_rfl) (by kernel_rfl) (fun _ _ _ h => h) (Or.inl ⟨by rfl, ?_⟩) (by assumption) ?_
              rotate_left 1
              · (intro w hSw; obtain ⟨s1, s2, s3, s4, s5, s6⟩ := hSw; go_simp; try (with_reducible rfl))
              refine wpAnyL_take (i := 15) (v := ?_) rfl (by kernel_rfl) (by kernel_rfl) (by kernel_rfl) (by kernel_rfl) (fun _ _ _ h => h) (Or.inl ⟨by rfl, ?_⟩) (by assumption) ?_
              rotate_left 1
              · (intro w hSw; obtain ⟨s1, s2, s3, s4, s5, s6⟩ := hSw; go_simp; try (with_reducible rfl))
              refine wpAnyL_take (i := 16) (v := ?_) rfl (by kernel_rfl) (by kernel_rfl) (by kernel_rfl) (by kernel_rfl) (fun _ _ _ h => h) (Or.inl ⟨by rfl, ?_⟩) (by assumption) ?_
              rotate_left 1
              · (intro w hSw; obtain ⟨s1, s2, s3, s4, s5, s6⟩ := hSw; go_simp; try (with_reducible rfl))
              refine wpAnyL_one (i := 13) (by kernel_rfl) rfl (fun K hK' => ?_)
              go_simp
              refine (hsu _).mono ?_
              rintro e w8 ⟨rfl, b8⟩
              have b8' : Below wr.heap.size wr w8 := (Below.refl _ wr).drew.trans b8
              have hZ8 := hZ.below b8'
              have HF8 : Hid (FRow w8 B7 (.slice xb BO.length yb) BO) := HF.out.below b8'
              have put8 : ∀ {B O : Nat} {z : Value}, wr.cell? ⟨B, O, none⟩ = some z → w8.cell? ⟨B, O, none⟩ = some z := fun h => (b8'.cell (World.block_lt_of_cell? wr _ h)).trans h
              have hS8 : w8.cell? ⟨gV, 2, none⟩ = some (.int .i64 (i : Int)) ∧ w8.cell? ⟨b', off' + i * 2, none⟩ = some (.string y1') ∧ w8.cell? ⟨b', off' + i * 2 + 1, none⟩ = some (.string y2') ∧ w8.cell? ⟨bD, 0, none⟩ = some (.string TM) ∧ w8.cell? ⟨bD, 1, none⟩ = some (.string FD) ∧ w8.cell? ⟨bD, 2, none⟩ = some (.string SS) := ⟨put8 cV2, put8 c0, put8 c1, put8 cD0, put8 cD1, put8 cD2⟩
              have e0 := put8 cD0
              clear hsu b8 b8' put8 hZ HF cV2 c0 c1 cD0 cD1 cD2
              go_wp2_with fail
              refine hK'.out _ _ hS8 (fun hH => ?_)
              clear hK' K hS8
              refine wpAnyL_take (i := 17) (v := ?_) rfl (by kernel_rfl) (by kernel_rfl) (by kernel_rfl) (by kernel_rfl) (fun _ _ _ h => h) (Or.inl ⟨by rfl, ?_⟩) (by assumption) ?_
              rotate_left 1
              · (intro w hSw; obtain ⟨s1, s2, s3, s4, s5, s6⟩ := hSw; go_simp; try (with_reducible rfl))
              refine wpAnyL_done (by kernel_rfl) ?_
              have rV8 := fun i => blk_cell hZ8.kV i
              have fV8 := fun i => blk_frozen hZ8.kV i
              clear hH
              have z := hZ8.set hg8 0 (.int .i64 30)
              simp only [List.setIfInBounds_toArray, List.set_cons_zero] at z
              have HO : Hid (Only gV w8 (w8.setCell ⟨gV, 0, none⟩ (.int .i64 30))) := (Only.refl _ _).set
              go_wp2_with ((first | (refine wpList_load_blk (.tmp 14) 44 rfl rfl gV _ _ (z).kV rfl Try.underlying44 rfl (by kernel_rfl) ?_) | (refine wpList_store_blk (.tmp 8) (.tmp 169) 44 rfl rfl rfl w.heap.size _ _ (z).k8 rfl rfl (by kernel_rfl) rfl (by kernel_rfl) ?_; intro wz kz oz)))
              rw [← HBO.out, HVD.out]
              exact vq_back kz (oz.below (z).be (Nat.le_refl _) (z).be.size) rfl rfl (by rw [HE3.out.2.2]; rfl) (free_by ((HF8.out.only HO.out hgB).only oz (by omega)))
        | succ k =>
          obtain ⟨x, hxk⟩ : ∃ x, ks[k]? = some x := ⟨_, List.getElem?_eq_getElem (by omega)⟩
          obtain ⟨_, a', c', e', hcap', hmx', hcc⟩ := HK.out
          cases e'
          obtain ⟨b', off', rfl, hcell⟩ := hcc (by omega)
          have c0 : wr.cell? ⟨b', off' + k * 2, none⟩ = some (.string x.1) := by
            have h0 := hcell _ _ (kyVs_at ks k 0 x hxk (by decide))
            exact (hZ.be.cell (World.block_lt_of_cell? w _ h0)).trans h0
          have cR : wr.cell? ⟨gV + 1, 0, none⟩ = some (.string OW) := (blk_cell hZ.kR 0).trans rfl
          have hsm := fun W => specSameName_any x.1 OW W (HKX.out x (List.mem_of_getElem? hxk)) hOz
          have e1 : (((k + 1 : Nat) : Int) - 1) = (k : Int) := by omega
          rw [e1]
          have i1 : (0 : Int) ≤ (k : Int) := by omega
          have i2 : (k : Int) < (ks.length : Int) := by omega
          have HXK := Nm.hide hxk
          clear hxk hcell hcc e1 HK
          obtain ⟨y1', y2'⟩ := x
          simp only at c0 hsm
          go_wp2_with fail
          refine wp_region_last (S := fun W => W.cell? ⟨b', off' + k * 2, none⟩ = some (.string y1') ∧ W.cell? ⟨gV + 1, 0, none⟩ = some (.string OW)) (L := 1000) (by kernel_rfl) ⟨c0, cR⟩ (fun hH => ?_)
          refine wpAnyL_take (i := 0) (v := ?_) rfl (by kernel_rfl) (by kernel_rfl) (by kernel_rfl) (by kernel_rfl) (fun _ _ _ h => h) (Or.inl ⟨by rfl, ?_⟩) (by assumption) ?_
          rotate_left 1
          · (intro w hSw; obtain ⟨s1, s2⟩ := hSw; go_simp; try (with_reducible rfl))
          refine wpAnyL_take (i := 1) (v := ?_) rfl (by kernel_rfl) (by kernel_rfl) (by kernel_rfl) (by kernel_rfl) (fun _ _ _ h => h) (Or.inl ⟨by rfl, ?_⟩) (by assumption) ?_
          rotate_left 1
          · (intro w hSw; obtain ⟨s1, s2⟩ := hSw; go_simp; try (with_reducible rfl))
          refine wpAnyL_take (i := 2) (v := ?_) rfl (by kernel_rfl) (by kernel_rfl) (by kernel_rfl) (by kernel_rfl) (fun _ _ _ h => h) (Or.inl ⟨by rfl, ?_⟩) (by assumption) ?_
          rotate_left 1
          · (intro w hSw; obtain ⟨s1, s2⟩ := hSw; go_simp; try (with_reducible rfl))
          refine wpAnyL_take (i := 3) (v := ?_) rfl (by kernel_rfl) (by kernel_rfl) (by kernel_rfl) (by kernel_rfl) (fun _ _ _ h => h) (Or.inl ⟨by rfl, ?_⟩) (by assumption) ?_
          rotate_left 1
          · (intro w hSw; obtain ⟨s1, s2⟩ := hSw; go_simp; try (with_reducible rfl))
          refine wpAnyL_take (i := 4) (v := ?_) rfl (by kernel_rfl) (by kernel_rfl) (by kernel_rfl) (by kernel_rfl) (fun _ _ _ h => h) (Or.inl ⟨by rfl, ?_⟩) (by assumption) ?_
          rotate_left 1
          · (intro w hSw; obtain ⟨s1, s2⟩ := hSw; go_simp; try (with_reducible rfl))
          refine wpAnyL_take (i := 5) (v := ?_) rfl (by kernel_rfl) (by kernel_rfl) (by kernel_rfl) (by kernel_rfl) (fun _ _ _ h => h) (Or.inl ⟨by rfl, ?_⟩) (by assumption) ?_
          rotate_left 1
          · (intro w hSw; obtain ⟨s1, s2⟩ := hSw; go_simp; try (with_reducible rfl))
          refine wpAnyL_take (i := 6) (v := ?_) rfl (by kernel_rfl) (by kernel_rfl) (by kernel_rfl) (by kernel_rfl) (fun _ _ _ h => h) (Or.inl ⟨by rfl, ?_⟩) (by assumption) ?_
          rotate_left 1
          · (intro w hSw; obtain ⟨s1, s2⟩ := hSw; go_simp; try (with_reducible rfl))
          refine wpAnyL_one (i := 7) (by kernel_rfl) rfl (fun K hK' => ?_)
          go_simp
          refine (hsm _).mono ?_
          rintro e w8 ⟨rfl, b8⟩
          have b8' : Below wr.heap.size wr w8 := (Below.refl _ wr).drew.trans b8
          have hZ8 := hZ.below b8'
          have HF8 : Hid (FRow w8 B7 (.slice xb BO.length yb) BO) := HF.out.below b8'
          have hS8 : w8.cell? ⟨b', off' + k * 2, none⟩ = some (.string y1') ∧ w8.cell? ⟨gV + 1, 0, none⟩ = some (.string OW) := ⟨(b8'.cell (World.block_lt_of_cell? wr _ c0)).trans c0, (b8'.cell (World.block_lt_of_cell? wr _ cR)).trans cR⟩
          clear hsm b8 b8' hZ HF c0 cR
          go_wp2_with fail
          refine hK'.out _ _ hS8 (fun hH => ?_)
          clear hK' K hS8
          refine wpAnyL_done (by kernel_rfl) ?_
          clear hH
          cases hok : sameS y1' OW with
          | false =>
            have hkf := keyFr_miss HXK.out hok
            have HZ8 : Hid (ZSt w w8 gV bD (gV + 1) #[.int .i64 29, .bool true, .int .i64 (keyFr ks OW k), .string SS, .slice xb BO.length yb] #[.string TM, .string FD, .string SS, .string (cutS' r.dat 55 2)] #[.string OW, .int .i64 250, .int .i64 (r.cl : Int), .int .i64 (r.ttl : Int), .string DA]) := by
              rw [hkf]
              exact hZ8
            clear hok hkf hZ8
            go_wp2
            go_roundw
            case rel => exact ⟨k, by omega, by go_num, HZ8.out, HF8⟩
            case measure => simp [intOf]
          | true =>
            have hkf := keyFr_hit HXK.out hok
            have rV := fun i => blk_cell hZ8.kV i
            have fV := fun i => blk_frozen hZ8.kV i
            have z := hZ8.set hg8 2 (.int .i64 (k : Int))
            simp only [List.setIfInBounds_toArray, List.set_cons_zero, List.set_cons_succ] at z
            have HZ8 := Nm.hide z
            have HKF := Nm.hide hkf
            have o8 : Only gV w8 (w8.setCell ⟨gV, 2, none⟩ (.int .i64 (k : Int))) := (Only.refl _ _).set
            have HFz : Hid (FRow (w8.setCell ⟨gV, 2, none⟩ (.int .i64 (k : Int))) B7 (.slice xb BO.length yb) BO) := HF8.out.only o8 hgB
            clear hok hkf hZ8 z o8
            go_wp2
            go_roundw
            case rel => exact ⟨k, by omega, by go_num, by rw [HKF.out]; exact HZ8.out, HFz⟩
            case measure => simp [intOf]
end Go.Proofs.Ytilcbdhcojgcbaa
