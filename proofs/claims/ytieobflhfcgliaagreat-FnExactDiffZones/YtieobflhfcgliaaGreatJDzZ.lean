import Derived.Test.YtieobflhfcgliaaGreatJCzC
import Derived.Test.YtieobflhfcgliaaGreatJFsB
import Derived.Test.YtieobflhfcgliaaGreatJBig1
/- spec.l10Serial by its contract. -/
namespace Go.Proofs.YtieobflhfcgliaaGreat
open Go.RowKit
set_option linter.unusedVariables false
set_option maxRecDepth 100000 in
set_option maxHeartbeats 1600000 in
theorem l10Serial_any (o : ByteArray) (v : Value) (ps : List Zp) (s : Sz) (d : ByteArray) (ds : List ByteArray) (w : World) (h : ZRow w v ps) (hl : ps.length ≤ 1048576) (hf : ∀ p ∈ ps, p.1.own.size ≤ 1048576 ∧ p.1.da.length ≤ 1048576) (ho : o.size ≤ maxLen) (hs : fndZ (ps.map (·.1)) o 6 = some s) (hd : s.da = d :: ds) (hdz : d.size ≤ 2000000) :
 Calls Tryz.prog 22 #[.agg #[.string o, v]] w fun e w' => e = .returned (.int .i64 (if cutCode 6 d = 0 then serS d else 0)) ∧ Below w.heap.size w w' := by
 obtain ⟨va, vc, rfl⟩ : ∃ va vc, v = .slice va ps.length vc := by obtain ⟨⟨_, a, c, e, _⟩, _⟩ := h; exact ⟨a, c, e⟩
 have b0 := (Below.refl w.heap.size w).alloc (Nat.le_refl _) (.cells #[.string o, .slice va ps.length vc] 35); have k0 := blk_new w #[.string o, .slice va ps.length vc] 35; have hfd := l06Find_any o o 6 (.slice va ps.length vc) ps _ (h.below b0) hl hf ho; rw [hs] at hfd; have r0 := fun i => blk_cell k0 i
 have hse := fun W => specSerial_any d W hdz
 generalize (if cutCode 6 d = 0 then serS d else 0) = N at *; generalize (if cutCode 6 d = 0 then (0 : Int) else 7) = M at *; clear h hf hs; obtain ⟨x, ty, tt, da⟩ := s; simp only at hd ⊢
 subst hd; go_enter Tryz.func22, Tryz.ntmps22; go_wp2_with fail
 refine hfd.mono ?_; rintro e w1 ⟨u, rfl, hou, hb1⟩; simp only [Option.getD_some, Option.isSome_some] at hou ⊢; obtain ⟨ua, uc, eu⟩ := own_sl hou; subst eu; have bw1 := Nm.below_two b0 hb1; have b2 := (Below.refl w1.heap.size w1).alloc (Nat.le_refl _) (.cells #[.string x, .int .i64 ty, .int .i64 tt, .slice ua (d :: ds).length uc] 75); have kB := blk_new w1 #[.string x, .int .i64 ty, .int .i64 tt, .slice ua (d :: ds).length uc] 75; have rB := fun i => blk_cell kB i
 have bw2 := Nm.hide (Nm.below_two bw1 b2); obtain ⟨a9, c9, e9, -, -, -, hc9⟩ := (Nm.SRow.of_owns hou).below b2; simp only [Value.slice.injEq] at e9; obtain ⟨rfl, _, rfl⟩ := e9; obtain ⟨gb, go, rfl, hcell⟩ := hc9 (by simp); have d0 := hcell 0 d rfl; rw [Nat.add_zero] at d0; have hn0 : (0 : Int) < (((d :: ds).length : Nat) : Int) := by simp; try omega
 generalize (d :: ds).length = RL at *; clear hfd k0 r0 b0 hb1 hou bw1 hcell hc9 kB b2; go_wp2_with (go_at_call 50; refine (hse _).mono ?_; rintro e w3 ⟨rfl, hb3⟩)
 go_ret; exact ⟨rfl, Nm.below_two bw2.out hb3⟩
/-- A change as one value. -/
abbrev cgV (a b : Rr) (d e : Value) : Value := .agg #[.string a.own, .int .i64 a.ty, .int .i64 a.cl, .int .i64 a.tt, .string a.da, .string b.own, .int .i64 b.ty, .int .i64 b.cl, .int .i64 b.tt, .string b.da, d, e]
/-- A change's two lists, of one's own and apart. -/
def COwn (w : World) (B : Nat) (d e : Value) (xs ys : List Rr) : Prop := ∃ M, B ≤ M ∧ w.ownsRow B 27 5 d xs.length (rvVs xs) ∧ w.ownsRow M 27 5 e ys.length (rvVs ys) ∧ ∀ g, d.ownBlock = some g → g < M
theorem partSOA_rest (o : ByteArray) (v : Value) (ps : List Zp) (r : Rr) (k : Nat) (R : List Rr) (w : World) (h : ZRow w v ps) (hs : zsum ps ≤ 1048576) (hf : ∀ p ∈ ps, ∀ x ∈ p.1.da, x.size ≤ 1048576) (hrk : (zoneRecs ps)[k]? = some r) (hsk : soI (zoneRecs ps) = (k : Int)) (hn : (zoneRecs ps).length ≤ 500) (he : (zoneRecs ps).take k ++ (zoneRecs ps).drop (k + 1) = R) :
 Calls Tryz.prog 55 #[.agg #[.string o, v]] w fun e w' => ∃ (ua : Option Addr) (uc : Nat), e = .returned (.tuple #[rvA r, .slice ua R.length uc]) ∧ w'.ownsRow w.heap.size 27 5 (.slice ua R.length uc) R.length (rvVs R) ∧ Below w.heap.size w w' := by
 refine (partSOA_row o v ps r k w h hs hf hrk hsk hn).mono ?_; rintro e w' ⟨ua, uc, rfl, ho, hb⟩; rw [he] at ho; obtain ⟨a, c, e⟩ := own_sl ho; rw [e] at ho ⊢; exact ⟨a, c, rfl, ho, hb⟩
theorem own_setA {B e s n g : Nat} {v : Value} {xs : List Value} (hg : g < B) : ∀ (vs : List Value) (i : Nat) (W : World), W.ownsRow B e s v n xs → (setAll W g i vs).ownsRow B e s v n xs
 | [], _, _, h => h
 | y :: vs, i, W, h => own_setA hg vs (i + 1) _ (own_far_lt h hg)
theorem below_setA {B g : Nat} {w : World} (hg : B ≤ g) : ∀ (vs : List Value) (i : Nat) (W : World), Below B w W → Below B w (setAll W g i vs)
 | [], _, _, h => h
 | y :: vs, i, W, h => below_setA hg vs (i + 1) _ (h.setCell hg _)
/-- The cells of a change. -/
abbrev cgL (a b : Rr) (d e : Value) : List Value := [.string a.own, .int .i64 a.ty, .int .i64 a.cl, .int .i64 a.tt, .string a.da, .string b.own, .int .i64 b.ty, .int .i64 b.cl, .int .i64 b.tt, .string b.da, d, e]
set_option maxRecDepth 100000 in
set_option maxHeartbeats 3200000 in
theorem diff_any (o1 o2 : ByteArray) (v1 v2 : Value) (ps1 ps2 : List Zp) (r1 r2 : Rr) (k1 k2 : Nat) (R1 R2 : List Rr) (w : World) (h1 : ZRow w v1 ps1) (h2 : ZRow w v2 ps2) (hs1 : zsum ps1 ≤ 1048576) (hs2 : zsum ps2 ≤ 1048576) (hf1 : ∀ p ∈ ps1, ∀ x ∈ p.1.da, x.size ≤ 1048576) (hf2 : ∀ p ∈ ps2, ∀ x ∈ p.1.da, x.size ≤ 1048576)
 (a1 : (zoneRecs ps1)[k1]? = some r1) (a2 : (zoneRecs ps2)[k2]? = some r2) (s1 : soI (zoneRecs ps1) = (k1 : Int)) (s2 : soI (zoneRecs ps2) = (k2 : Int)) (n1 : (zoneRecs ps1).length ≤ 500) (n2 : (zoneRecs ps2).length ≤ 500) (e1 : (zoneRecs ps1).take k1 ++ (zoneRecs ps1).drop (k1 + 1) = R1) (e2 : (zoneRecs ps2).take k2 ++ (zoneRecs ps2).drop (k2 + 1) = R2)
 (f1 : ∀ x ∈ R1, RFit x) (f2 : ∀ x ∈ R2, RFit x) (d1 : R1.Nodup) (d2 : R2.Nodup) (l1 : R1.length ≤ 1000000) (l2 : R2.length ≤ 1000000) :
 Calls Tryz.prog 28 #[.agg #[.string o1, v1], .agg #[.string o2, v2]] w fun e w' => ∃ d a, e = .returned (cgV r1 r2 d a) ∧ COwn w' w.heap.size d a (wthF R1 R2) (wthF R2 R1) ∧ Below w.heap.size w w' := by
 obtain ⟨va1, vc1, rfl⟩ : ∃ va vc, v1 = .slice va ps1.length vc := by obtain ⟨⟨_, a, c, e, _⟩, _⟩ := h1; exact ⟨a, c, e⟩
 obtain ⟨va2, vc2, rfl⟩ : ∃ va vc, v2 = .slice va ps2.length vc := by obtain ⟨⟨_, a, c, e, _⟩, _⟩ := h2; exact ⟨a, c, e⟩
 obtain ⟨W0, hW0⟩ : ∃ W0, W0 = ((w.alloc (.cells #[.string o1, .slice va1 ps1.length vc1] 35)).alloc (.cells #[.string o2, .slice va2 ps2.length vc2] 35)).alloc (.cells #[.string ⟨#[]⟩, .int .i64 0, .int .i64 0, .int .i64 0, .string ⟨#[]⟩, .string ⟨#[]⟩, .int .i64 0, .int .i64 0, .int .i64 0, .string ⟨#[]⟩, .slice none 0 0, .slice none 0 0] 30) := ⟨_, rfl⟩
 have b0 : Below w.heap.size w W0 := by
  rw [hW0]; exact (((Below.refl w.heap.size w).alloc (Nat.le_refl _) _).alloc (by simp) _).alloc (by simp; omega) _
 have kz : Blk W0 (w.heap.size + 1) #[.string o2, .slice va2 ps2.length vc2] 35 := by
  rw [hW0]; have := blk_new (w.alloc (.cells #[.string o1, .slice va1 ps1.length vc1] 35)) #[.string o2, .slice va2 ps2.length vc2] 35; rw [World.size_alloc] at this; exact blk_alloc this _
 have kc : Blk W0 (w.heap.size + 2) #[.string ⟨#[]⟩, .int .i64 0, .int .i64 0, .int .i64 0, .string ⟨#[]⟩, .string ⟨#[]⟩, .int .i64 0, .int .i64 0, .int .i64 0, .string ⟨#[]⟩, .slice none 0 0, .slice none 0 0] 30 := by
  rw [hW0]; have := blk_new ((w.alloc (.cells #[.string o1, .slice va1 ps1.length vc1] 35)).alloc (.cells #[.string o2, .slice va2 ps2.length vc2] 35)) #[.string ⟨#[]⟩, .int .i64 0, .int .i64 0, .int .i64 0, .string ⟨#[]⟩, .string ⟨#[]⟩, .int .i64 0, .int .i64 0, .int .i64 0, .string ⟨#[]⟩, .slice none 0 0, .slice none 0 0] 30; rw [World.size_alloc, World.size_alloc] at this; exact this
 have z0 : W0.heap.size = w.heap.size + 3 := by rw [hW0]; simp
 have hp1 := partSOA_rest o1 _ ps1 r1 k1 R1 W0 (h1.below b0) hs1 hf1 a1 s1 n1 e1; have hp2 := fun W (hW : Below w.heap.size w W) => partSOA_rest o2 _ ps2 r2 k2 R2 W (h2.below hW) hs2 hf2 a2 s2 n2 e2
 have hwt := fun v u xs ys W => without_any v u xs ys W
 rw [hW0] at hp1; clear a1 a2 s1 s2 n1 n2 e1 e2 h1 h2 hf1 hf2 hs1 hs2; go_enter Tryz.func28, Tryz.ntmps28; go_wp2_with fail
 rw [← hW0] at hp1 ⊢; clear hW0; go_at_call 55
 refine hp1.mono ?_; rintro e w1 ⟨ua, uc, rfl, o1', b1⟩; have kz1 := blk_alloc (blk_below kz b1) (.cells #[.string r1.own, .int .i64 r1.ty, .int .i64 r1.cl, .int .i64 r1.tt, .string r1.da] 27); have kc1 := blk_alloc (blk_below kc b1) (.cells #[.string r1.own, .int .i64 r1.ty, .int .i64 r1.cl, .int .i64 r1.tt, .string r1.da] 27); have kA1 := blk_new w1 #[.string r1.own, .int .i64 r1.ty, .int .i64 r1.cl, .int .i64 r1.tt, .string r1.da] 27; have bw1 := Nm.below_two b0 b1; have bw2 := bw1.alloc bw1.size (.cells #[.string r1.own, .int .i64 r1.ty, .int .i64 r1.cl, .int .i64 r1.tt, .string r1.da] 27); have o12 := o1'.alloc (.cells #[.string r1.own, .int .i64 r1.ty, .int .i64 r1.cl, .int .i64 r1.tt, .string r1.da] 27); have hp22 := hp2 _ bw2; have q1 := fun i => blk_cell kz1 i
 have z1 := b1.size; clear hp1 hp2 kz kc b1 bw1 o1'; go_wp2_with fail
 go_at_call 55
 refine hp22.mono ?_; rintro e w3 ⟨xa, xc, rfl, o2', b3⟩; have kc4 := blk_alloc (blk_below kc1 b3) (.cells #[.string r2.own, .int .i64 r2.ty, .int .i64 r2.cl, .int .i64 r2.tt, .string r2.da] 27); have kA4 := blk_alloc (blk_below kA1 b3) (.cells #[.string r2.own, .int .i64 r2.ty, .int .i64 r2.cl, .int .i64 r2.tt, .string r2.da] 27); have kB4 := blk_new w3 #[.string r2.own, .int .i64 r2.ty, .int .i64 r2.cl, .int .i64 r2.tt, .string r2.da] 27; have bw3 := Nm.below_two bw2 b3; have bw4 := bw3.alloc bw3.size (.cells #[.string r2.own, .int .i64 r2.ty, .int .i64 r2.cl, .int .i64 r2.tt, .string r2.da] 27); have o14 := (own_below o12 b3).alloc (.cells #[.string r2.own, .int .i64 r2.ty, .int .i64 r2.cl, .int .i64 r2.tt, .string r2.da] 27); have o24 := o2'.alloc (.cells #[.string r2.own, .int .i64 r2.ty, .int .i64 r2.cl, .int .i64 r2.tt, .string r2.da] 27); have z3 := b3.size; rw [World.size_alloc] at z3; clear hp22 kz1 kc1 kA1 bw2 bw3 o12 o2' b3 q1; go_upto_region 3 with fail
 generalize w3.alloc (.cells #[.string r2.own, .int .i64 r2.ty, .int .i64 r2.cl, .int .i64 r2.tt, .string r2.da] 27) = W4 at *; have hdr : Below W4.heap.size W4 W4.drew := (Below.refl _ _).drew; have hc1 := hwt _ _ R1 R2 W4.drew (CRow.of_owns (own_below o14 hdr)) (CRow.of_owns (own_below o24 hdr)) f1 f2 d2 l1 l2; have z4 : w3.heap.size + 1 ≤ W4.heap.size := blk_lt kB4; refine wp_region_last (fun X => Blk X w1.heap.size #[.string r1.own, .int .i64 r1.ty, .int .i64 r1.cl, .int .i64 r1.tt, .string r1.da] 27 ∧ Blk X w3.heap.size #[.string r2.own, .int .i64 r2.ty, .int .i64 r2.cl, .int .i64 r2.tt, .string r2.da] 27) 1000 (by kernel_rfl) ⟨blk_drew kA4, blk_drew kB4⟩ (fun hHeld => ?_); refine tkL (i := 0) (v := ?_) rfl ?_ ?_; rotate_left 1
 · (rintro W ⟨s1, s2⟩; have ss1 := (fun i => blk_cell s1 i); have ss2 := (fun i => blk_cell s2 i); go_simp; try (with_reducible rfl))
 refine tkL (i := 1) (v := ?_) rfl ?_ ?_; rotate_left 1
 · (rintro W ⟨s1, s2⟩; have ss1 := (fun i => blk_cell s1 i); have ss2 := (fun i => blk_cell s2 i); go_simp; try (with_reducible rfl))
 refine tkL (i := 2) (v := ?_) rfl ?_ ?_; rotate_left 1
 · (rintro W ⟨s1, s2⟩; have ss1 := (fun i => blk_cell s1 i); have ss2 := (fun i => blk_cell s2 i); go_simp; try (with_reducible rfl))
 refine tkL (i := 3) (v := ?_) rfl ?_ ?_; rotate_left 1
 · (rintro W ⟨s1, s2⟩; have ss1 := (fun i => blk_cell s1 i); have ss2 := (fun i => blk_cell s2 i); go_simp; try (with_reducible rfl))
 refine tkL (i := 5) (v := ?_) rfl ?_ ?_; rotate_left 1
 · (rintro W ⟨s1, s2⟩; have ss1 := (fun i => blk_cell s1 i); have ss2 := (fun i => blk_cell s2 i); go_simp; try (with_reducible rfl))
 refine tkL (i := 6) (v := ?_) rfl ?_ ?_; rotate_left 1
 · (rintro W ⟨s1, s2⟩; have ss1 := (fun i => blk_cell s1 i); have ss2 := (fun i => blk_cell s2 i); go_simp; try (with_reducible rfl))
 refine wpAnyL_one (i := 4) (by kernel_rfl) rfl (fun K hK => ?_); go_simp; refine hc1.mono ?_; rintro e w5 ⟨dz, rfl, od, b5⟩; have b45 := hdr.trans b5; have kA5 := blk_below kA4 b45; have kB5 := blk_below kB4 b45; have kc5 := blk_below kc4 b45; have hc2 := hwt _ _ R2 R1 w5 (CRow.of_owns (own_below o24 b45)) (CRow.of_owns (own_below o14 b45)) f2 f1 d1 l2 l1; go_wp2_with fail
 refine hK.out _ _ ⟨kA5, kB5⟩ (fun hH => ?_); clear hK K hc1; refine wpAnyL_one (i := 7) (by kernel_rfl) rfl (fun K hK => ?_); go_simp; refine hc2.mono ?_; rintro e w6 ⟨az, rfl, oa, b6⟩; have kA6 := blk_below kA5 b6; have kB6 := blk_below kB5 b6; have kc6 := blk_below kc5 b6; have od6 := own_below od b6; have bw6 := Nm.below_two (Nm.below_two bw4 b45) b6; have z5 := b45.size; have hdl : ∀ g, dz.ownBlock = some g → g < w5.heap.size := fun g hg => (od.lt g hg).2
 go_wp2_with fail
 refine hK.out _ _ ⟨kA6, kB6⟩ (fun hH2 => ?_); clear hK K hc2; obtain ⟨da, dc, rfl⟩ := own_sl od6; obtain ⟨aa, ac, rfl⟩ := own_sl oa; refine tkL (i := 8) (v := ?_) rfl ?_ ?_; rotate_left 1
 · (rintro W ⟨s1, s2⟩; have ss1 := (fun i => blk_cell s1 i); have ss2 := (fun i => blk_cell s2 i); go_simp; try (with_reducible rfl))
 have rk := fun i => blk_cell kc6 i
 have fk := fun i => blk_frozen kc6 i
 have kX := setAll_new (cgL r1 r2 (.slice da (wthF R1 R2).length dc) (.slice aa (wthF R2 R1).length ac)) kc6 rfl; have bX := below_setA (g := w.heap.size + 2) (Nat.le_add_right _ _) (cgL r1 r2 (.slice da (wthF R1 R2).length dc) (.slice aa (wthF R2 R1).length ac)) 0 _ bw6; have odX := own_setA (g := w.heap.size + 2) (by show w.heap.size + 2 < W4.heap.size; omega) (cgL r1 r2 (.slice da (wthF R1 R2).length dc) (.slice aa (wthF R2 R1).length ac)) 0 _ od6; have oaX := own_setA (g := w.heap.size + 2) (by omega) (cgL r1 r2 (.slice da (wthF R1 R2).length dc) (.slice aa (wthF R2 R1).length ac)) 0 _ oa
 have HO : Hid (COwn (setAll w6 (w.heap.size + 2) 0 (cgL r1 r2 (.slice da (wthF R1 R2).length dc) (.slice aa (wthF R2 R1).length ac))) w.heap.size (.slice da (wthF R1 R2).length dc) (.slice aa (wthF R2 R1).length ac) (wthF R1 R2) (wthF R2 R1) ∧ Below w.heap.size w (setAll w6 (w.heap.size + 2) 0 (cgL r1 r2 (.slice da (wthF R1 R2).length dc) (.slice aa (wthF R2 R1).length ac)))) :=
  ⟨⟨w5.heap.size, by omega, own_base odX (by show w.heap.size ≤ W4.heap.size; omega), oaX, hdl⟩, bX⟩
 have kAX := setAll_far (b := w1.heap.size) (c := w.heap.size + 2) (by omega) (cgL r1 r2 (.slice da (wthF R1 R2).length dc) (.slice aa (wthF R2 R1).length ac)) 0 _ kA6; have kBX := setAll_far (b := w3.heap.size) (c := w.heap.size + 2) (by omega) (cgL r1 r2 (.slice da (wthF R1 R2).length dc) (.slice aa (wthF R2 R1).length ac)) 0 _ kB6; clear odX oaX bX od6 oa od hdl; simp only [setAll, Nat.reduceAdd, Nat.zero_add] at kX HO kAX kBX; refine wpAnyL_one (i := 9) (by kernel_rfl) rfl (fun K hK => ?_); go_simp; refine hK.out _ _ ⟨kAX, kBX⟩ (fun hH3 => ?_); clear hK K; refine wpAnyL_done (by kernel_rfl) ?_; have rX := fun i => blk_cell kX i
 clear hH hH2 hH3 hHeld rk fk kAX kBX kX; go_wp2_with fail
 refine bodyPost_ret (v := cgV r1 r2 (.slice da (wthF R1 R2).length dc) (.slice aa (wthF R2 R1).length ac)) ?_ rfl ⟨_, _, rfl, HO.out.1, HO.out.2⟩; simp [results, Tryz.f28, go_sem, rX]
end Go.Proofs.YtieobflhfcgliaaGreat
