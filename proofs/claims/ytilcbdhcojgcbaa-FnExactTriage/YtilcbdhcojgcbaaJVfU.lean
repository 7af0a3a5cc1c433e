import Derived.Test.YtilcbdhcojgcbaaVfT
/- spec.Verify by its contract: the keys. -/
namespace Go.Proofs.Ytilcbdhcojgcbaa
open Go.RowKit
set_option linter.unusedVariables false

/-- How the world is while the model looks at a call. -/
structure VKt (w wr : World) (gM : Nat) (MS : Array Value) (m : Mm) (q a u x : Value) : Prop where
  k8 : Blk wr w.heap.size vdZ 44
  kf : Blk wr (w.heap.size + 1) vdF 44
  kM : Blk wr gM MS 35
  rd : LRd wr m q a u x
  be : Below w.heap.size w wr
theorem VKt.below {w wr W : World} {gM : Nat} {MS : Array Value} {m : Mm} {q a u x : Value} (h : VKt w wr gM MS m q a u x) (hb : Below wr.heap.size wr W) : VKt w W gM MS m q a u x :=
  ⟨blk_below h.k8 hb, blk_below h.kf hb, blk_below h.kM hb, h.rd.below hb, Nm.below_two h.be hb⟩

theorem key_all {ks : List (ByteArray × ByteArray)} {k : Nat} {x : ByteArray × ByteArray} (h : ks[k]? = some x) (ha : (ks.take k).all (fun p => keyB p.1 p.2) = true) (hx : keyB x.1 x.2 = true) : (ks.take (k + 1)).all (fun p => keyB p.1 p.2) = true := by
  rw [ky_all h, ha, hx]; rfl

set_option maxRecDepth 100000 in
set_option maxHeartbeats 3200000 in
theorem specVerify_key (v vk : Value) (l : List UInt8) (ks : List (ByteArray × ByteArray)) (now : Int) (rq : ByteArray) (w : World) (h : BySl w v l) (hl : l.length ≤ 1048576) (hk : CRow w vk ks.length 2 (kyVs ks)) (hkx : ∀ x ∈ ks, x.1.size ≤ maxLen)
    (hC0 : (msO l).c = 0) (hlen : (msO l).m.an.length ≤ 400 ∧ (msO l).m.au.length ≤ 400 ∧ (msO l).m.ex.length ≤ 400) (h8 : ks.length ≤ 8) (hn : (decide (0 ≤ now) && decide (now ≤ 281474976710655)) = true) (hr : rq.size ≤ 32) (hst : strayB (msO l).m = false) (hbk : ks.all (fun p => keyB p.1 p.2) = false) :
    Calls Try.prog 11 #[v, vk, .int .i64 now, .string rq] w (VPost vd0 w) := by
  have k0 := blk_alloc (blk_new w vdZ 44) (.cells vdF 44)
  have kf := blk_new (w.alloc (.cells vdZ 44)) vdF 44
  rw [World.size_alloc] at kf
  have hB0 := (Below.refl w.heap.size w).alloc (Nat.le_refl _) (.cells vdZ 44)
  have hB0 := hB0.alloc hB0.size (.cells vdF 44)
  have hde := l04Read_one v l _ (h.below hB0) (by omega)
  have hin := fun W => l04In_any now 281474976710655 W
  obtain ⟨av, cv, rfl⟩ : ∃ a c, v = .slice a l.length c := by obtain ⟨_, a, c, e, _⟩ := h; exact ⟨a, c, e⟩
  obtain ⟨ak, ck, rfl⟩ : ∃ a c, vk = .slice a ks.length c := by obtain ⟨_, a, c, e, _⟩ := hk; exact ⟨a, c, e⟩
  simp only [vdZ, vdF] at hde k0 kf hB0
  go_enter Try.func11, Try.ntmps11
  go_wp2_with fail
  refine hde.mono ?_
  rintro e w1 ⟨b1, q, x, y, z, nl, rfl, L1⟩
  obtain ⟨x1, y1, rfl⟩ := row_val L1.rq
  obtain ⟨x2, y2, rfl⟩ := row_val L1.ra
  obtain ⟨x3, y3, rfl⟩ := row_val L1.ru
  obtain ⟨x4, y4, rfl⟩ := row_val L1.rx
  have k1 := blk_below k0 b1
  have kf1 := blk_below kf b1
  have hB1 := Nm.below_two hB0 b1
  have hs1 : w.heap.size + 1 < w1.heap.size := blk_lt kf1
  clear hde k0 hB0 b1 kf
  obtain ⟨MS, eMS⟩ : ∃ M, M = msA (msO l).d (msO l).f (.slice x1 (msO l).m.qs.length y1) (.slice x2 (msO l).m.an.length y2) (.slice x3 (msO l).m.au.length y3) (.slice x4 (msO l).m.ex.length y4) := ⟨_, rfl⟩
  have hMz : MS.size = 15 := by rw [eMS]; rfl
  have hM1 : MS.all (·.oneCell') = true := by rw [eMS]; exact msA_one _ _ _ _ _ _ _ _ _ _ _ _ _ _
  have hMi : (Try.prog.info? 35).map (·.size) = some MS.size := by rw [hMz]; kernel_rfl
  have HMz := Nm.hide hMz
  have HMi := Nm.hide hMi
  have kA := blk_alloc k1 (.cells ms0 35)
  have kfA := blk_alloc kf1 (.cells ms0 35)
  have hBA := hB1.alloc hB1.size (.cells ms0 35)
  have hsA : w.heap.size ≤ (w1.alloc (.cells ms0 35)).heap.size := hBA.size
  simp only [ms0] at kA hBA hsA kfA
  rw [← eMS]
  clear hMz
  have hsv := fun W (hW : Below w1.heap.size w1 W) => l09Stray_any (msO l).d (msO l).f (msO l).m _ _ _ _ W (L1.rd.below hW) hlen
  rw [← eMS, hst] at hsv
  rw [hC0]
  rw [hn] at hin
  have h8' : ¬ (8 : Int) < (ks.length : Int) := by omega
  have h3' : ¬ (32 : Int) < (rq.size : Int) := by omega
  have HL1 := Nm.hide L1
  have HMS := Nm.hide eMS
  clear eMS L1 hlen hC0 hst hn hr
  go_wp2_with (first
    | (refine wpList_store_blk (.tmp 10) (.tmp 26) 35 rfl rfl rfl w1.heap.size _ _ (blk_new _ _ _) rfl rfl hMi (by rw [HMz.out]; rfl) hM1 ?_; intro w2 k2 o2; have k02 := o2.blk kA (by omega); have kf2 := o2.blk kfA (by omega); have hB2 := o2.below hBA (by omega) hsA; have b2 := o2.below ((Below.refl w1.heap.size w1).alloc (Nat.le_refl _) _) (Nat.le_refl _) (by rw [World.size_alloc]; omega); clear o2 kA kfA hBA hsA hMi hM1)
    | (go_at_call 18; refine (hin _).mono ?_; rintro e wf ⟨rfl, hw⟩; obtain rfl := hw.symm; clear hw)
    | (go_at_call 19; refine (hsv _ b2).mono ?_; rintro e w3 ⟨rfl, b3⟩; have hS3 : VKt w w3 w1.heap.size MS (msO l).m (.slice x1 (msO l).m.qs.length y1) (.slice x2 (msO l).m.an.length y2) (.slice x3 (msO l).m.au.length y3) (.slice x4 (msO l).m.ex.length y4) := ⟨blk_below k02 b3, blk_below kf2 b3, blk_below k2 b3, HL1.out.rd.below (Nm.below_two b2 b3), Nm.below_two hB2 b3⟩; clear k02 kf2 hB2 b2 b3 k2 hsv)
    | (refine wpList_load_want (.tmp 10) 35 (by first | rfl | (simp [Region.wanted, yielded]; omega)) rfl w1.heap.size _ _ k2 rfl Try.underlying35 rfl HMi.out ?_))
  go_loopw [13] (fun i wr => ∃ k : Nat, k ≤ ks.length ∧ i = .int .i64 k ∧ Hid ((ks.take k).all (fun p => keyB p.1 p.2) = true) ∧ VKt w wr w1.heap.size MS (msO l).m (.slice x1 (msO l).m.qs.length y1) (.slice x2 (msO l).m.an.length y2) (.slice x3 (msO l).m.au.length y3) (.slice x4 (msO l).m.ex.length y4)) (fun i _ => ks.length - (intOf i).toNat)
  case atStart => exact ⟨0, Nat.zero_le _, rfl, by show _ = _; simp, hS3⟩
  case round =>
    clear hS3
    obtain ⟨k, hkl, rfl, HA, hS⟩ := hrel
    by_cases hlt : k < ks.length
    · obtain ⟨x, hxk⟩ : ∃ x, ks[k]? = some x := ⟨_, List.getElem?_eq_getElem hlt⟩
      obtain ⟨_, a', c', e', hcap, hmx, hcc⟩ := hk
      cases e'
      obtain ⟨b, off, rfl, hcell⟩ := hcc (by omega)
      have put : ∀ {O : Nat} {z : Value}, w.cell? ⟨b, O, none⟩ = some z → wr.cell? ⟨b, O, none⟩ = some z := fun h => (hS.be.cell (World.block_lt_of_cell? w _ h)).trans h
      have c0 : wr.cell? ⟨b, off + k * 2, none⟩ = some (.string x.1) := put (hcell _ _ (kyVs_at ks k 0 x hxk (by decide)))
      have c1 : wr.cell? ⟨b, off + k * 2 + 1, none⟩ = some (.string x.2) := put (hcell _ _ (kyVs_at ks k 1 x hxk (by decide)))
      have hmem := List.mem_of_getElem? hxk
      have i1 : (0 : Int) ≤ (k : Int) := by omega
      have i2 : (k : Int) < (ks.length : Int) := by omega
      have hone := fun W => l09KeyOK_any x.1 x.2 W (hkx x hmem)
      cases hok : keyB x.1 x.2 with
      | true =>
        have HA2 : Hid ((ks.take (k + 1)).all (fun p => keyB p.1 p.2) = true) := key_all hxk HA.out hok
        rw [hok] at hone
        clear hok hmem hxk hcell hcc put hbk
        obtain ⟨y1', y2'⟩ := x
        simp only at *
        go_wp2_with fail
        refine (hone _).mono ?_
        rintro e w4 ⟨rfl, b4⟩
        have hS4 := hS.below b4
        clear hS b4 c0 c1
        go_wp2
        go_roundw
        case rel => exact ⟨k + 1, by omega, by go_num, HA2, hS4⟩
        case measure => simp [intOf]; omega
      | false =>
        rw [hok] at hone
        clear hok hmem hxk hcell hcc put hbk
        obtain ⟨y1', y2'⟩ := x
        simp only at *
        go_wp2_with fail
        refine (hone _).mono ?_
        rintro e w4 ⟨rfl, b4⟩
        have hS4 := hS.below b4
        clear hS b4 c0 c1
        go_wp2_with (first
          | (refine wpList_load_blk (.tmp 9) 44 rfl rfl (w.heap.size + 1) _ _ hS4.kf rfl Try.underlying44 rfl (by kernel_rfl) ?_)
          | (refine wpList_store_blk (.tmp 8) (.tmp 63) 44 rfl rfl rfl w.heap.size _ _ hS4.k8 rfl rfl (by kernel_rfl) rfl (by kernel_rfl) ?_; intro w5 k5 o5))
        exact vs_back k5 (o5.below hS4.be (Nat.le_refl _) hS4.be.size) rfl rfl rfl (World.ownsRow_nil _ _ _ _)
    · exfalso
      have hkl2 : k = ks.length := by omega
      have := HA.out
      rw [hkl2, List.take_length, hbk] at this
      cases this
end Go.Proofs.Ytilcbdhcojgcbaa
/- spec.Verify by its contract: a message without a signature. -/
namespace Go.Proofs.Ytilcbdhcojgcbaa
open Go.RowKit
set_option linter.unusedVariables false

/-- What the model answers. -/
def SPost (V : Vd) (w : World) (e : Ending) (w' : World) : Prop := (∃ u, e = .returned (.agg (vdC V u)) ∧ BySl w' u V.body) ∧ Below w.heap.size w w'
theorem SPost.of {V : Vd} {w w' : World} {e : Ending} (h : VPost V w e w') : SPost V w e w' := by
  obtain ⟨⟨u, e1, ho⟩, hb⟩ := h
  exact ⟨⟨u, e1, CRow.of_owns ho⟩, hb⟩
theorem vq_back {w W : World} {V : Vd} {u : Value} {a : Act} {c : Array Value} (hk : Blk W w.heap.size c 44) (hB : Below w.heap.size w W) (h8 : a.tmps[8]?.getD undef = .pointer (some ⟨w.heap.size, 0, none⟩)) (hd : a.defers = []) (hc : c = vdC V u) (ho : BySl W u V.body) :
    bodyPost Try.prog Try.f11 (SPost V w) .ret a W := by
  subst hc
  exact bodyPost_ret (v := .agg (vdC V u)) (run_results_row Try.results11 h8 hk Try.underlying44 rfl (by kernel_rfl)) hd ⟨⟨_, rfl, ho⟩, hB⟩
theorem FRow.only {w w' : World} {p B : Nat} {v : Value} {l : List UInt8} (h : FRow w B v l) (ho : Only p w w') (hp : p < B) : FRow w' B v l := by
  obtain ⟨g, cap, rfl, h1, h2, h3, h4, h5, h6⟩ := h
  have hb := ho.block g h4 (by omega)
  have hc : ∀ j, w'.cell? ⟨g, j, none⟩ = w.cell? ⟨g, j, none⟩ := fun j => World.cell?_of_block hb
  have hfz : ∀ j, w'.frozen? ⟨g, j, none⟩ = w.frozen? ⟨g, j, none⟩ := fun j => World.frozen?_of_block hb
  refine ⟨g, cap, rfl, h1, h2, h3, Nat.lt_of_lt_of_le h4 ho.size, ?_, ?_⟩
  · intro j hj; rw [hc, hfz]; exact h5 j hj
  · intro j c hj; rw [hc]; exact h6 j c hj

set_option maxRecDepth 100000 in
set_option maxHeartbeats 3200000 in
theorem specVerify_none (v vk : Value) (l : List UInt8) (ks : List (ByteArray × ByteArray)) (now : Int) (rq : ByteArray) (w : World) (h : BySl w v l) (hl : l.length ≤ 1048576) (hk : CRow w vk ks.length 2 (kyVs ks)) (hkx : ∀ x ∈ ks, x.1.size ≤ maxLen)
    (hC0 : (msO l).c = 0) (hlen : (msO l).m.an.length ≤ 400 ∧ (msO l).m.au.length ≤ 400 ∧ (msO l).m.ex.length ≤ 400) (h8 : ks.length ≤ 8) (hn : (decide (0 ≤ now) && decide (now ≤ 281474976710655)) = true) (hr : rq.size ≤ 32) (hst : strayB (msO l).m = false) (hgk : ks.all (fun p => keyB p.1 p.2) = true)
    (hx0 : (msO l).m.ex.length = 0) :
    Calls Try.prog 11 #[v, vk, .int .i64 now, .string rq] w (SPost (vdU l) w) := by
  have k0 := blk_alloc (blk_new w vdZ 44) (.cells vdF 44)
  have kf := blk_new (w.alloc (.cells vdZ 44)) vdF 44
  rw [World.size_alloc] at kf
  have hB0 := (Below.refl w.heap.size w).alloc (Nat.le_refl _) (.cells vdZ 44)
  have hB0 := hB0.alloc hB0.size (.cells vdF 44)
  have hde := l04Read_one v l _ (h.below hB0) (by omega)
  have hin := fun W => l04In_any now 281474976710655 W
  obtain ⟨av, cv, rfl⟩ : ∃ a c, v = .slice a l.length c := by obtain ⟨_, a, c, e, _⟩ := h; exact ⟨a, c, e⟩
  obtain ⟨ak, ck, rfl⟩ : ∃ a c, vk = .slice a ks.length c := by obtain ⟨_, a, c, e, _⟩ := hk; exact ⟨a, c, e⟩
  simp only [vdZ, vdF] at hde k0 kf hB0
  go_enter Try.func11, Try.ntmps11
  go_wp2_with fail
  refine hde.mono ?_
  rintro e w1 ⟨b1, q, x, y, z, nl, rfl, L1⟩
  obtain ⟨x1, y1, rfl⟩ := row_val L1.rq
  obtain ⟨x2, y2, rfl⟩ := row_val L1.ra
  obtain ⟨x3, y3, rfl⟩ := row_val L1.ru
  obtain ⟨x4, y4, rfl⟩ := row_val L1.rx
  have k1 := blk_below k0 b1
  have kf1 := blk_below kf b1
  have hB1 := Nm.below_two hB0 b1
  have hs1 : w.heap.size + 1 < w1.heap.size := blk_lt kf1
  clear hde k0 hB0 b1 kf
  obtain ⟨MS, eMS⟩ : ∃ M, M = msA (msO l).d (msO l).f (.slice x1 (msO l).m.qs.length y1) (.slice x2 (msO l).m.an.length y2) (.slice x3 (msO l).m.au.length y3) (.slice x4 (msO l).m.ex.length y4) := ⟨_, rfl⟩
  have hMz : MS.size = 15 := by rw [eMS]; rfl
  have hM1 : MS.all (·.oneCell') = true := by rw [eMS]; exact msA_one _ _ _ _ _ _ _ _ _ _ _ _ _ _
  have hMi : (Try.prog.info? 35).map (·.size) = some MS.size := by rw [hMz]; kernel_rfl
  have HMz := Nm.hide hMz
  have HMi := Nm.hide hMi
  have kA := blk_alloc k1 (.cells ms0 35)
  have kfA := blk_alloc kf1 (.cells ms0 35)
  have hBA := hB1.alloc hB1.size (.cells ms0 35)
  have hsA : w.heap.size ≤ (w1.alloc (.cells ms0 35)).heap.size := hBA.size
  simp only [ms0] at kA hBA hsA kfA
  rw [← eMS]
  clear hMz
  have hsv := fun W (hW : Below w1.heap.size w1 W) => l09Stray_any (msO l).d (msO l).f (msO l).m _ _ _ _ W (L1.rd.below hW) hlen
  rw [← eMS, hst] at hsv
  rw [hC0]
  rw [hn] at hin
  have h8' : ¬ (8 : Int) < (ks.length : Int) := by omega
  have h3' : ¬ (32 : Int) < (rq.size : Int) := by omega
  have HL1 := Nm.hide L1
  have HMS := Nm.hide eMS
  clear eMS L1 hlen hC0 hst hn hr
  go_wp2_with (first
    | (refine wpList_store_blk (.tmp 10) (.tmp 26) 35 rfl rfl rfl w1.heap.size _ _ (blk_new _ _ _) rfl rfl hMi (by rw [HMz.out]; rfl) hM1 ?_; intro w2 k2 o2; have k02 := o2.blk kA (by omega); have kf2 := o2.blk kfA (by omega); have hB2 := o2.below hBA (by omega) hsA; have b2 := o2.below ((Below.refl w1.heap.size w1).alloc (Nat.le_refl _) _) (Nat.le_refl _) (by rw [World.size_alloc]; omega); clear o2 kA kfA hBA hsA hMi hM1)
    | (go_at_call 18; refine (hin _).mono ?_; rintro e wf ⟨rfl, hw⟩; obtain rfl := hw.symm; clear hw)
    | (go_at_call 19; refine (hsv _ b2).mono ?_; rintro e w3 ⟨rfl, b3⟩; have hS3 : VKt w w3 w1.heap.size MS (msO l).m (.slice x1 (msO l).m.qs.length y1) (.slice x2 (msO l).m.an.length y2) (.slice x3 (msO l).m.au.length y3) (.slice x4 (msO l).m.ex.length y4) := ⟨blk_below k02 b3, blk_below kf2 b3, blk_below k2 b3, HL1.out.rd.below (Nm.below_two b2 b3), Nm.below_two hB2 b3⟩; clear k02 kf2 hB2 b2 b3 k2 hsv)
    | (refine wpList_load_want (.tmp 10) 35 (by first | rfl | (simp [Region.wanted, yielded]; omega)) rfl w1.heap.size _ _ k2 rfl Try.underlying35 rfl HMi.out ?_))
  go_loopw [13] (fun i wr => ∃ k : Nat, k ≤ ks.length ∧ i = .int .i64 k ∧ VKt w wr w1.heap.size MS (msO l).m (.slice x1 (msO l).m.qs.length y1) (.slice x2 (msO l).m.an.length y2) (.slice x3 (msO l).m.au.length y3) (.slice x4 (msO l).m.ex.length y4)) (fun i _ => ks.length - (intOf i).toNat)
  case atStart => exact ⟨0, Nat.zero_le _, rfl, hS3⟩
  case round =>
    clear hS3
    obtain ⟨k, hkl, rfl, hS⟩ := hrel
    by_cases hlt : k < ks.length
    · obtain ⟨x, hxk⟩ : ∃ x, ks[k]? = some x := ⟨_, List.getElem?_eq_getElem hlt⟩
      obtain ⟨_, a', c', e', hcap, hmx, hcc⟩ := hk
      cases e'
      obtain ⟨b, off, rfl, hcell⟩ := hcc (by omega)
      have put : ∀ {O : Nat} {z : Value}, w.cell? ⟨b, O, none⟩ = some z → wr.cell? ⟨b, O, none⟩ = some z := fun h => (hS.be.cell (World.block_lt_of_cell? w _ h)).trans h
      have c0 : wr.cell? ⟨b, off + k * 2, none⟩ = some (.string x.1) := put (hcell _ _ (kyVs_at ks k 0 x hxk (by decide)))
      have c1 : wr.cell? ⟨b, off + k * 2 + 1, none⟩ = some (.string x.2) := put (hcell _ _ (kyVs_at ks k 1 x hxk (by decide)))
      have hmem := List.mem_of_getElem? hxk
      have i1 : (0 : Int) ≤ (k : Int) := by omega
      have i2 : (k : Int) < (ks.length : Int) := by omega
      have hone := fun W => l09KeyOK_any x.1 x.2 W (hkx x hmem)
      have hok : keyB x.1 x.2 = true := by
        rw [List.all_eq_true] at hgk
        exact hgk x hmem
      rw [hok] at hone
      clear hok hmem hxk hcell hcc put hgk
      obtain ⟨y1', y2'⟩ := x
      simp only at *
      go_wp2_with fail
      refine (hone _).mono ?_
      rintro e w4 ⟨rfl, b4⟩
      have hS4 := hS.below b4
      clear hS b4 c0 c1
      go_wp2
      go_roundw
      case rel => exact ⟨k + 1, by omega, by go_num, hS4⟩
      case measure => simp [intOf]; omega
    · have hkl2 : k = ks.length := by omega
      subst hkl2
      have i2 : ¬ (ks.length : Int) < (ks.length : Int) := by omega
      have hAl := (Below.refl wr.heap.size wr).alloc (Nat.le_refl _) (.cells #[.int .i64 0, .bool false, .int .i64 (-1), .string ⟨#[]⟩, .slice none 0 0] 44)
      have hS1 := hS.below hAl
      have kV := blk_new wr #[.int .i64 0, .bool false, .int .i64 (-1), .string ⟨#[]⟩, .slice none 0 0] 44
      have cM := (blk_cell hS1.kM 14).trans (by rw [HMS.out]; rfl : MS[14]? = some (.slice x4 (msO l).m.ex.length y4))
      rw [hx0] at cM
      obtain ⟨X, eX⟩ : ∃ X : ByteArray, X = ⟨l.toArray⟩ := ⟨_, rfl⟩
      have hcv := fun W (hW : Below w.heap.size w W) => row_strB (h.below hW)
      rw [← eX] at hcv
      have hcv1 := hcv _ hS1.be
      obtain ⟨v7, w7, r7, f7, b7⟩ := FRow.new X (wr.alloc (.cells #[.int .i64 0, .bool false, .int .i64 (-1), .string ⟨#[]⟩, .slice none 0 0] 44)) (by rw [eX, ba_size]; omega)
      have hXl : X.data.toList = l := by rw [eX]
      rw [hXl] at f7
      have hS7 := hS1.below b7
      have kV7 := blk_below kV b7
      have rV := fun i => blk_cell kV7 i
      have fV := fun i => blk_frozen kV7 i
      have hg8 : w.heap.size < wr.heap.size := blk_lt hS.k8
      obtain ⟨xb, yb, rfl⟩ : ∃ a c, v7 = .slice a l.length c := by obtain ⟨g, cap, e, _⟩ := f7; exact ⟨_, _, e⟩
      have kV8 := blk_set kV7 4 (.slice xb l.length yb)
      have k88 : Blk (w7.setCell ⟨wr.heap.size, 4, none⟩ (.slice xb l.length yb)) w.heap.size vdZ 44 := blk_far hS7.k8 (by omega)
      have o8 : Only wr.heap.size w7 (w7.setCell ⟨wr.heap.size, 4, none⟩ (.slice xb l.length yb)) := (Only.refl _ _).set
      have hB8 := o8.below hS7.be (by omega) hS7.be.size
      have f8 := f7.only o8 (by rw [World.size_alloc]; omega)
      simp only [List.setIfInBounds_toArray, List.set_cons_zero, List.set_cons_succ] at kV8
      have k89 : Blk (w7.setCell ⟨wr.heap.size, 4, none⟩ (.slice xb l.length yb)) w.heap.size #[.int .i64 0, .bool false, .int .i64 0, .string ByteArray.empty, .slice none 0 0] 44 := k88
      have r88 := fun i => blk_cell k89 i
      have f88 := fun i => blk_frozen k89 i
      have HZ := Nm.hide (And.intro (blk_set (blk_set (blk_set (blk_set (blk_set k89 0 (.int .i64 0)) 1 (.bool false)) 2 (.int .i64 (-1))) 3 (.string ⟨#[]⟩)) 4 (.slice xb l.length yb)) (Only.set (v := .slice xb l.length yb) (i := 4) (Only.set (v := .string ⟨#[]⟩) (i := 3) (Only.set (v := .int .i64 (-1)) (i := 2) (Only.set (v := .bool false) (i := 1) (Only.set (v := .int .i64 0) (i := 0) (Only.refl w.heap.size (w7.setCell ⟨wr.heap.size, 4, none⟩ (.slice xb l.length yb)))))))))
      simp only [List.setIfInBounds_toArray, List.set_cons_zero, List.set_cons_succ] at HZ
      have HF8 := Nm.hide f8
      have HB8 := Nm.hide hB8
      clear h hk hS hS1 hS7 hAl kV kV7 o8 b7 hcv hXl eX hkx f7 hgk k88 k89 f8 hB8 kV8
      go_wp2
      exact vq_back HZ.out.1 (HZ.out.2.below HB8.out (Nat.le_refl _) HB8.out.size) rfl rfl rfl (free_by (HF8.out.only HZ.out.2 (by rw [World.size_alloc]; omega)))
end Go.Proofs.Ytilcbdhcojgcbaa
