import Derived.Test.YtmaopfagkffccaaGreatCrJ
import Derived.Test.YtmaopfagkffccaaGreatCrQ
import Derived.Test.YtmaopfagkffccaaGreatJShM
import Derived.Test.YtmaopfagkffccaaGreatJCrI
import Derived.Test.YtmaopfagkffccaaGreatJMvM
/- (impl.Message).clone by its contract. -/
namespace Go.Proofs.YtmaopfagkffccaaGreat
open Go.RowKit
set_option linter.unusedVariables false

theorem own_rowQ {w : World} {B n : Nat} {v : Value} {xs : List Qr} (h : w.ownsRow B 63 3 v n (qvVs xs)) (hx : xs.length = n) (hp : 0 < n) : ∃ g cap cur, v = .slice (some ⟨g, 0, none⟩) n cap ∧ B ≤ g ∧ n ≤ cap ∧ cap ≤ maxLen ∧ Blk w g cur 63 ∧ ∀ (k j : Nat) (x : Qr), xs[k]? = some x → j < 3 → cur[k * 3 + j]? = [Value.string x.nm, .int .i64 x.ty, .int .i64 x.cl][j]? := by
  rcases h.2 with ⟨_, h0⟩ | ⟨g, cap, cur, rfl, hb, hh, hnc, hcm, hcs, htk⟩
  · omega
  · refine ⟨g, cap, cur, rfl, hb, hnc, hcm, hh, fun k j x hk hj => ?_⟩
    have hkl := (List.getElem?_eq_some_iff.1 hk).1
    have h1 := qvVs_at xs k j x hk hj
    rw [← htk, List.getElem?_take_of_lt (by omega)] at h1
    show cur[k * 3 + j]? = (qvV x)[j]?
    rw [← h1]
    simp

theorem own_onlyT {w w' : World} {p B e s m : Nat} {v : Value} {xs : List Value} {cs : Array Value} {T : TypeId} (h : w.ownsRow B e s v m xs) (ho : Only p w w') (hk : Blk w p cs T) (hne : e ≠ T := by decide) : w'.ownsRow B e s v m xs := by
  refine h.kept (row := some p) ⟨ho.os, ho.tape, ho.output, ho.size, fun k hk hne => ho.block k hk (fun e => hne (by rw [e]))⟩ ?_
  rcases h.2 with ⟨rfl, _⟩ | ⟨g, cap, cur, rfl, _, hh, _⟩
  · exact .inl rfl
  · right
    intro e2
    simp only [Value.ownBlock, Option.some.injEq] at e2
    subst e2
    have e3 := hk.symm.trans hh
    injection e3 with e3
    injection e3 with _ e4
    exact hne e4.symm
theorem run_results_rowM {P : Program} {fn : Func} {tmps : Array Value} {w : World} {r : Nat} {t : TypeId} {p : Nat} {cs : Array Value} {d : TypeDesc} (hf : fn.results = #[.cell r t]) (ht : tmps[r]?.getD undef = .pointer (some ⟨p, 0, none⟩)) (hk : Blk w p cs t)
    (hu : P.underlying t = some d) (hd : (match d with | .struct _ | .array _ _ => true | _ => false) = true) (hi : (P.info? t).map (·.size) = some cs.size) : (results fn tmps).run P w = .ok (.agg cs) w := by
  have hl := run_loadVar_row w p t t cs (0, 0) d hk hu hd hi
  simp [results, hf, ht, asAddr, hl]

set_option maxRecDepth 100000 in
set_option maxHeartbeats 3200000 in
theorem cloneM_any (m : Mg) (q a u x : Value) (w : World) (h : MRow w m q a u x) (hs : MSmall m) :
    Calls Tryz.prog 20 #[.agg (mgV m.hd q a u x)] w fun e w' => ∃ q' a' u' x', e = .returned (.agg (mgV m.hd q' a' u' x')) ∧ MOwn w' w.heap.size m q' a' u' x' ∧ (∀ g, a'.ownBlock = some g → u'.ownBlock ≠ some g) ∧ (∀ g, a'.ownBlock = some g → x'.ownBlock ≠ some g) ∧ (∀ g, u'.ownBlock = some g → x'.ownBlock ≠ some g) ∧ Below w.heap.size w w' := by
  obtain ⟨s1, s2, s3, s4, l1, l2, l3, l4⟩ := hs
  have hB0 := (Below.refl w.heap.size w).alloc (Nat.le_refl _) (.cells (mgV m.hd q a u x) 33)
  have hB1 := hB0.alloc hB0.size (.cells #[.int .i64 0, .bool false, .int .i64 0, .bool false, .bool false, .bool false, .bool false, .bool false, .bool false, .bool false, .int .i64 0, .slice none 0 0, .slice none 0 0, .slice none 0 0, .slice none 0 0] 33)
  have kM := blk_alloc (blk_new w (mgV m.hd q a u x) 33) (.cells #[.int .i64 0, .bool false, .int .i64 0, .bool false, .bool false, .bool false, .bool false, .bool false, .bool false, .bool false, .int .i64 0, .slice none 0 0, .slice none 0 0, .slice none 0 0, .slice none 0 0] 33)
  have kZ := blk_new (w.alloc (.cells (mgV m.hd q a u x) 33)) #[.int .i64 0, .bool false, .int .i64 0, .bool false, .bool false, .bool false, .bool false, .bool false, .bool false, .bool false, .int .i64 0, .slice none 0 0, .slice none 0 0, .slice none 0 0, .slice none 0 0] 33
  rw [World.size_alloc] at kZ
  have hcq := cloneQu_any q m.qs _ (h.rq.below hB1) l1
  have hca := fun W (hW : Below w.heap.size w W) => cloneRecords_any a m.an W (h.ra.below hW) l2 s2
  have hcu := fun W (hW : Below w.heap.size w W) => cloneRecords_any u m.au W (h.ru.below hW) l3 s3
  have hcx := fun W (hW : Below w.heap.size w W) => cloneRecords_any x m.ex W (h.rx.below hW) l4 s4
  obtain ⟨_, qa, qc, rfl, _⟩ := h.rq
  obtain ⟨_, aa, ac, rfl, _⟩ := h.ra
  obtain ⟨_, ua, uc, rfl, _⟩ := h.ru
  obtain ⟨_, xa, xc, rfl, _⟩ := h.rx
  clear h
  obtain ⟨⟨i0, b1, i2, b3, b4, b5, b6, b7, b8, b9, i10⟩, qs, an, au, ex⟩ := m
  simp only [mgV] at *
  have cM := (blk_cell kM 11).trans rfl
  go_enter Tryz.func20, Tryz.ntmps20
  go_wp2_with fail
  refine hcq.mono ?_
  rintro e w1 ⟨u1, rfl, ho1, c1⟩
  obtain ⟨va, vc, rfl⟩ := own_sl ho1
  have kM1 := blk_below kM c1
  have kZ1 := blk_below kZ c1
  have hb1 := Nm.below_two hB1 c1
  have fM := blk_frozen kM1 11
  have cM1 := (blk_cell kM1 11).trans rfl
  have kM2 := blk_set kM1 11 (.slice va qs.length vc)
  have kZ2 : Blk (w1.setCell ⟨w.heap.size, 11, none⟩ (.slice va qs.length vc)) (w.heap.size + 1) _ _ := blk_far kZ1 (by omega)
  have hO2 : Only w.heap.size w1 (w1.setCell ⟨w.heap.size, 11, none⟩ (.slice va qs.length vc)) := (Only.refl _ _).set
  have hb2 := hO2.below hb1 (Nat.le_refl _) hb1.size
  have ho2 : (w1.setCell ⟨w.heap.size, 11, none⟩ (.slice va qs.length vc)).ownsRow w.heap.size 63 3 (.slice va qs.length vc) qs.length (qvVs qs) := own_base (own_far_lt ho1 (by have := hB1.size; simp at this ⊢; omega)) hB1.size
  simp only [List.setIfInBounds_toArray, List.set_cons_zero, List.set_cons_succ] at kM2
  clear kM kZ hcq hB0 hB1 cM c1 ho1 hO2 hb1 kZ1
  go_wp2_with fail
  go_loopw [12] (fun i wr => ∃ k : Nat, k ≤ qs.length ∧ i = .int .i64 k ∧ Blk wr w.heap.size #[.int .i64 i0, .bool b1, .int .i64 i2, .bool b3, .bool b4, .bool b5, .bool b6, .bool b7, .bool b8, .bool b9, .int .i64 i10, .slice va qs.length vc, .slice aa an.length ac, .slice ua au.length uc, .slice xa ex.length xc] 33 ∧ Blk wr (w.heap.size + 1) #[.int .i64 0, .bool false, .int .i64 0, .bool false, .bool false, .bool false, .bool false, .bool false, .bool false, .bool false, .int .i64 0, .slice none 0 0, .slice none 0 0, .slice none 0 0, .slice none 0 0] 33 ∧ wr.ownsRow w.heap.size 63 3 (.slice va qs.length vc) qs.length (qvVs qs) ∧ Below w.heap.size w wr) (fun i _ => qs.length - (intOf i).toNat)
  case atStart => exact ⟨0, Nat.zero_le _, rfl, kM2, kZ2, ho2, hb2⟩
  case round =>
    clear kM2 kZ2 ho2 hb2 fM cM1 kM1
    obtain ⟨k, hk, rfl, kM, kZ, hown, hbel⟩ := hrel
    by_cases hlt : k < qs.length
    · obtain ⟨y, hyk⟩ : ∃ y, qs[k]? = some y := ⟨_, List.getElem?_eq_getElem hlt⟩
      obtain ⟨g, cp, cur, ev, hBg, hnc, hcm, hblk, hcur⟩ := own_rowQ hown rfl (by omega)
      simp only [Value.slice.injEq] at ev
      obtain ⟨rfl, _, rfl⟩ := ev
      have q0 := hcur k 0 y hyk (by decide)
      have q1 := hcur k 1 y hyk (by decide)
      have q2 := hcur k 2 y hyk (by decide)
      have hsy := s1 y (List.mem_of_getElem? hyk)
      have c0 := (blk_cell hblk (k * 3 + 0)).trans q0
      have c1 := (blk_cell hblk (k * 3 + 1)).trans q1
      have c2 := (blk_cell hblk (k * 3 + 2)).trans q2
      simp at c0 c1 c2 q0
      have n1 : (0 : Int) ≤ (k : Int) := by omega
      have n2 : (k : Int) < (qs.length : Int) := by omega
      have bA := (Below.refl wr.heap.size wr).alloc (Nat.le_refl _) (.cells #[.string y.nm, .int .i64 y.ty, .int .i64 y.cl] 63)
      have kR := blk_new wr #[.string y.nm, .int .i64 y.ty, .int .i64 y.cl] 63
      have kMA := blk_below kM bA
      have kZA := blk_below kZ bA
      have hbA := Nm.below_two hbel bA
      have hoA := own_below hown bA
      have hkA := blk_below hblk bA
      have hc1 := fun W => cloneStr_any y.nm W (by omega)
      have HQ := Nm.hide q0
      clear hcur q1 q2 q0 hyk hown hbel hblk kM kZ hca hcu hcx
      obtain ⟨o, ty, cl⟩ := y
      simp only at c0 c1 c2 bA kR hbA hoA hkA hc1 HQ kMA kZA
      go_wp2
      refine wp_region_last (S := fun W => Blk W w.heap.size #[.int .i64 i0, .bool b1, .int .i64 i2, .bool b3, .bool b4, .bool b5, .bool b6, .bool b7, .bool b8, .bool b9, .int .i64 i10, .slice (some ⟨g, 0, none⟩) qs.length vc, .slice aa an.length ac, .slice ua au.length uc, .slice xa ex.length xc] 33 ∧ Blk W wr.heap.size #[.string o, .int .i64 ty, .int .i64 cl] 63 ∧ Blk W g cur 63) (L := 1000) (by kernel_rfl) ⟨blk_below kMA (Below.refl _ _).drew, blk_below kR (Below.refl _ _).drew, blk_below hkA (Below.refl _ _).drew⟩ (fun hH => ?_)
      refine wpAnyL_take (i := 0) (v := ?_) rfl (by kernel_rfl) (by kernel_rfl) (by kernel_rfl) (by kernel_rfl) (fun _ _ _ h => h) (Or.inl ⟨by rfl, ?_⟩) (by assumption) ?_
      rotate_left 1
      · (intro w hSw; obtain ⟨s1, s2, s3⟩ := hSw; have t0 := (blk_cell s1 11).trans rfl; have t4 := (blk_cell s2 0).trans rfl; go_simp; try (with_reducible rfl))
      refine wpAnyL_take (i := 1) (v := ?_) rfl (by kernel_rfl) (by kernel_rfl) (by kernel_rfl) (by kernel_rfl) (fun _ _ _ h => h) (Or.inl ⟨by rfl, ?_⟩) (by assumption) ?_
      rotate_left 1
      · (intro w hSw; obtain ⟨s1, s2, s3⟩ := hSw; have t0 := (blk_cell s1 11).trans rfl; have t4 := (blk_cell s2 0).trans rfl; go_simp; try (with_reducible rfl))
      refine wpAnyL_take (i := 2) (v := ?_) rfl (by kernel_rfl) (by kernel_rfl) (by kernel_rfl) (by kernel_rfl) (fun _ _ _ h => h) (Or.inl ⟨by rfl, ?_⟩) (by assumption) ?_
      rotate_left 1
      · (intro w hSw; obtain ⟨s1, s2, s3⟩ := hSw; have t0 := (blk_cell s1 11).trans rfl; have t4 := (blk_cell s2 0).trans rfl; go_simp; try (with_reducible rfl))
      refine wpAnyL_take (i := 3) (v := ?_) rfl (by kernel_rfl) (by kernel_rfl) (by kernel_rfl) (by kernel_rfl) (fun _ _ _ h => h) (Or.inl ⟨by rfl, ?_⟩) (by assumption) ?_
      rotate_left 1
      · (intro w hSw; obtain ⟨s1, s2, s3⟩ := hSw; have t0 := (blk_cell s1 11).trans rfl; have t4 := (blk_cell s2 0).trans rfl; go_simp; try (with_reducible rfl))
      refine wpAnyL_take (i := 4) (v := ?_) rfl (by kernel_rfl) (by kernel_rfl) (by kernel_rfl) (by kernel_rfl) (fun _ _ _ h => h) (Or.inl ⟨by rfl, ?_⟩) (by assumption) ?_
      rotate_left 1
      · (intro w hSw; obtain ⟨s1, s2, s3⟩ := hSw; have t0 := (blk_cell s1 11).trans rfl; have t4 := (blk_cell s2 0).trans rfl; go_simp; try (with_reducible rfl))
      refine wpAnyL_one (i := 5) (by kernel_rfl) rfl (fun K hK' => ?_)
      go_simp
      refine (hc1 _).mono ?_
      rintro e w8 ⟨rfl, b8⟩
      have b8' := (Below.refl _ (wr.alloc (.cells #[.string o, .int .i64 ty, .int .i64 cl] 63))).drew.trans b8
      have kM8 := blk_below kMA b8'
      have kZ8 := blk_below kZA b8'
      have kR8 := blk_below kR b8'
      have hk8 := blk_below hkA b8'
      have hb8 := Nm.below_two hbA b8'
      have ho8 := own_below hoA b8'
      clear b8 b8' kR hkA hbA hoA hc1 c0 c1 c2 bA kMA kZA
      go_wp2_with fail
      refine hK'.out _ _ ⟨kM8, kR8, hk8⟩ (fun hH => ?_)
      clear hK' K
      refine wpAnyL_take (i := 6) (v := ?_) rfl (by kernel_rfl) (by kernel_rfl) (by kernel_rfl) (by kernel_rfl) (fun _ _ _ h => h) (Or.inl ⟨by rfl, ?_⟩) (by assumption) ?_
      rotate_left 1
      · (intro w hSw; obtain ⟨s1, s2, s3⟩ := hSw; have t0 := (blk_cell s1 11).trans rfl; have t4 := (blk_cell s2 0).trans rfl; go_simp; try (with_reducible rfl))
      refine wpAnyL_take (i := 7) (v := ?_) rfl (by kernel_rfl) (by kernel_rfl) (by kernel_rfl) (by kernel_rfl) (fun _ _ _ h => h) (Or.inl ⟨by rfl, ?_⟩) (by assumption) ?_
      rotate_left 1
      · (intro w hSw; obtain ⟨s1, s2, s3⟩ := hSw; have t0 := (blk_cell s1 11).trans rfl; have t4 := (blk_cell s2 0).trans rfl; go_simp; try (with_reducible rfl))
      have z0 := (blk_cell hk8 (k * 3)).trans HQ.out
      have y0 := blk_frozen hk8 (k * 3)
      have HS0 := Nm.hide (set_same hk8 HQ.out)
      refine wpAnyL_one (i := 8) (by kernel_rfl) rfl (fun K hK' => ?_)
      go_simp
      rw [HS0.out]
      refine hK'.out _ _ ⟨kM8, kR8, hk8⟩ (fun hH => ?_)
      clear hK' K z0 y0 HS0
      refine wpAnyL_done (by kernel_rfl) ?_
      clear hH
      go_wp2_with fail
      go_roundw
      case rel => exact ⟨k + 1, by omega, by go_num, kM8, kZ8, ho8, hb8⟩
      case measure => simp [intOf]; omega
    · have n2 : ¬ (k : Int) < (qs.length : Int) := by omega
      go_wp2
      refine wp_region_S (S := fun W => Blk W w.heap.size #[.int .i64 i0, .bool b1, .int .i64 i2, .bool b3, .bool b4, .bool b5, .bool b6, .bool b7, .bool b8, .bool b9, .int .i64 i10, .slice va qs.length vc, .slice aa an.length ac, .slice ua au.length uc, .slice xa ex.length xc] 33) (Ls := [10, 11, 12, 13, 14]) (by kernel_rfl) (blk_below kM (Below.refl _ _).drew) (fun hH => ?_)
      refine wpAnyS_take (i := 0) (v := ?_) rfl (by kernel_rfl) (by kernel_rfl) (by kernel_rfl) (by kernel_rfl) (fun _ _ _ h => h) (Or.inl ⟨by rfl, ?_⟩) (by assumption) ?_
      rotate_left 1
      · (intro w hSw; have t2 := (blk_cell hSw 12).trans rfl; have t3 := (blk_cell hSw 13).trans rfl; have t4 := (blk_cell hSw 14).trans rfl; go_simp; try (with_reducible rfl))
      refine wpAnyS_take (i := 1) (v := ?_) rfl (by kernel_rfl) (by kernel_rfl) (by kernel_rfl) (by kernel_rfl) (fun _ _ _ h => h) (Or.inl ⟨by rfl, ?_⟩) (by assumption) ?_
      rotate_left 1
      · (intro w hSw; have t2 := (blk_cell hSw 12).trans rfl; have t3 := (blk_cell hSw 13).trans rfl; have t4 := (blk_cell hSw 14).trans rfl; go_simp; try (with_reducible rfl))
      refine wpAnyS_take (i := 3) (v := ?_) rfl (by kernel_rfl) (by kernel_rfl) (by kernel_rfl) (by kernel_rfl) (fun _ _ _ h => h) (Or.inl ⟨by rfl, ?_⟩) (by assumption) ?_
      rotate_left 1
      · (intro w hSw; have t2 := (blk_cell hSw 12).trans rfl; have t3 := (blk_cell hSw 13).trans rfl; have t4 := (blk_cell hSw 14).trans rfl; go_simp; try (with_reducible rfl))
      refine wpAnyS_take (i := 4) (v := ?_) rfl (by kernel_rfl) (by kernel_rfl) (by kernel_rfl) (by kernel_rfl) (fun _ _ _ h => h) (Or.inl ⟨by rfl, ?_⟩) (by assumption) ?_
      rotate_left 1
      · (intro w hSw; have t2 := (blk_cell hSw 12).trans rfl; have t3 := (blk_cell hSw 13).trans rfl; have t4 := (blk_cell hSw 14).trans rfl; go_simp; try (with_reducible rfl))
      refine wpAnyS_take (i := 6) (v := ?_) rfl (by kernel_rfl) (by kernel_rfl) (by kernel_rfl) (by kernel_rfl) (fun _ _ _ h => h) (Or.inl ⟨by rfl, ?_⟩) (by assumption) ?_
      rotate_left 1
      · (intro w hSw; have t2 := (blk_cell hSw 12).trans rfl; have t3 := (blk_cell hSw 13).trans rfl; have t4 := (blk_cell hSw 14).trans rfl; go_simp; try (with_reducible rfl))
      refine wpAnyS_take (i := 7) (v := ?_) rfl (by kernel_rfl) (by kernel_rfl) (by kernel_rfl) (by kernel_rfl) (fun _ _ _ h => h) (Or.inl ⟨by rfl, ?_⟩) (by assumption) ?_
      rotate_left 1
      · (intro w hSw; have t2 := (blk_cell hSw 12).trans rfl; have t3 := (blk_cell hSw 13).trans rfl; have t4 := (blk_cell hSw 14).trans rfl; go_simp; try (with_reducible rfl))
      refine wpAnyS_one (i := 2) (by kernel_rfl) rfl (fun K hK' => ?_)
      go_simp
      have bd := (Below.refl wr.heap.size wr).drew
      refine (hca _ (Nm.below_two hbel bd)).mono ?_
      rintro e w3 ⟨a3, rfl, ho3, d3⟩
      have d3' := bd.trans d3
      have kM3 := blk_below kM d3'
      have kZ3 := blk_below kZ d3'
      have hb3 := Nm.below_two hbel d3'
      have hq3 := own_below hown d3'
      have ha3 := own_base ho3 (show w.heap.size ≤ wr.drew.heap.size from hbel.size)
      obtain ⟨a31, a32, rfl⟩ := own_sl ho3
      clear d3 d3' kM kZ hbel hown ho3 bd hca
      go_wp2_with fail
      refine hK'.out _ _ kM3 (fun hH => ?_)
      clear hK' K
      refine wpAnyS_take (i := 9) (v := ?_) rfl (by kernel_rfl) (by kernel_rfl) (by kernel_rfl) (by kernel_rfl) (fun _ _ _ h => h) (Or.inl ⟨by rfl, ?_⟩) (by assumption) ?_
      rotate_left 1
      · (intro w hSw; have t2 := (blk_cell hSw 12).trans rfl; have t3 := (blk_cell hSw 13).trans rfl; have t4 := (blk_cell hSw 14).trans rfl; go_simp; try (with_reducible rfl))
      refine wpAnyS_one (i := 5) (by kernel_rfl) rfl (fun K hK' => ?_)
      go_simp
      refine (hcu _ hb3).mono ?_
      rintro e w4 ⟨u4, rfl, ho4, d4⟩
      have kM4 := blk_below kM3 d4
      have kZ4 := blk_below kZ3 d4
      have hb4 := Nm.below_two hb3 d4
      have hq4 := own_below hq3 d4
      have ha4 := own_below ha3 d4
      have hu4 := own_base ho4 hb3.size
      obtain ⟨u41, u42, rfl⟩ := own_sl ho4
      have AU : ∀ g, (Value.slice a31 an.length a32).ownBlock = some g → (Value.slice u41 au.length u42).ownBlock ≠ some g := fun g h1 h2 => by have x1 := (ha3.lt g h1).2; have x2 := (ho4.lt g h2).1; omega
      clear d4 kM3 kZ3 hb3 hq3 ha3 ho4 hcu
      go_wp2_with fail
      refine hK'.out _ _ kM4 (fun hH => ?_)
      clear hK' K
      refine wpAnyS_one (i := 8) (by kernel_rfl) rfl (fun K hK' => ?_)
      go_simp
      refine (hcx _ hb4).mono ?_
      rintro e w5 ⟨x5, rfl, ho5, d5⟩
      have kM5 := blk_below kM4 d5
      have kZ5 := blk_below kZ4 d5
      have hb5 := Nm.below_two hb4 d5
      have hq5 := own_below hq4 d5
      have ha5 := own_below ha4 d5
      have hu5 := own_below hu4 d5
      have hx5 := own_base ho5 hb4.size
      obtain ⟨x51, x52, rfl⟩ := own_sl ho5
      have AX : ∀ g, (Value.slice a31 an.length a32).ownBlock = some g → (Value.slice x51 ex.length x52).ownBlock ≠ some g := fun g h1 h2 => by have y1 := (ha4.lt g h1).2; have y2 := (ho5.lt g h2).1; omega
      have UX : ∀ g, (Value.slice u41 au.length u42).ownBlock = some g → (Value.slice x51 ex.length x52).ownBlock ≠ some g := fun g h1 h2 => by have y1 := (hu4.lt g h1).2; have y2 := (ho5.lt g h2).1; omega
      clear d5 kM4 kZ4 hb4 hq4 ha4 hu4 ho5 hcx
      go_wp2_with fail
      refine hK'.out _ _ kM5 (fun hH => ?_)
      clear hK' K hH
      have lt1 : w.heap.size + 1 < w5.heap.size := blk_lt kZ5
      have f5 := blk_frozen kM5 12
      have g5 := (blk_cell kM5 12).trans rfl
      have kM6 := blk_set kM5 12 (.slice a31 an.length a32)
      have kZ6 : Blk (w5.setCell ⟨w.heap.size, 12, none⟩ (.slice a31 an.length a32)) (w.heap.size + 1) _ _ := blk_far kZ5 (by omega)
      have O6 : Only w.heap.size w5 (w5.setCell ⟨w.heap.size, 12, none⟩ (.slice a31 an.length a32)) := (Only.refl _ _).set
      simp only [List.setIfInBounds_toArray, List.set_cons_zero, List.set_cons_succ] at kM6
      refine wpAnyS_late (i := 10) (by kernel_rfl) rfl (by kernel_rfl) (fun K hK' => ?_)
      go_simp
      refine hK'.out _ _ ?_
      clear hK' K f5 g5
      generalize w5.setCell ⟨w.heap.size, 12, none⟩ (.slice a31 an.length a32) = w6 at *
      refine wpAnyS_late (i := 11) (by kernel_rfl) rfl (by kernel_rfl) (fun K hK' => ?_)
      go_simp
      refine hK'.out _ _ ?_
      clear hK' K
      have f6 := blk_frozen kM6 13
      have g6 := (blk_cell kM6 13).trans rfl
      have kM7 := blk_set kM6 13 (.slice u41 au.length u42)
      have kZ7 : Blk (w6.setCell ⟨w.heap.size, 13, none⟩ (.slice u41 au.length u42)) (w.heap.size + 1) _ _ := blk_far kZ6 (by omega)
      have O7 : Only w.heap.size w5 (w6.setCell ⟨w.heap.size, 13, none⟩ (.slice u41 au.length u42)) := O6.set
      simp only [List.setIfInBounds_toArray, List.set_cons_zero, List.set_cons_succ] at kM7
      refine wpAnyS_late (i := 12) (by kernel_rfl) rfl (by kernel_rfl) (fun K hK' => ?_)
      go_simp
      refine hK'.out _ _ ?_
      clear hK' K f6 g6 kM6 kZ6 O6
      generalize w6.setCell ⟨w.heap.size, 13, none⟩ (.slice u41 au.length u42) = w7 at *
      refine wpAnyS_late (i := 13) (by kernel_rfl) rfl (by kernel_rfl) (fun K hK' => ?_)
      go_simp
      refine hK'.out _ _ ?_
      clear hK' K
      have f7 := blk_frozen kM7 14
      have g7 := (blk_cell kM7 14).trans rfl
      have kM8 := blk_set kM7 14 (.slice x51 ex.length x52)
      have kZ8 : Blk (w7.setCell ⟨w.heap.size, 14, none⟩ (.slice x51 ex.length x52)) (w.heap.size + 1) _ _ := blk_far kZ7 (by omega)
      have O8 : Only w.heap.size w5 (w7.setCell ⟨w.heap.size, 14, none⟩ (.slice x51 ex.length x52)) := O7.set
      simp only [List.setIfInBounds_toArray, List.set_cons_zero, List.set_cons_succ] at kM8
      refine wpAnyS_late (i := 14) (by kernel_rfl) rfl (by kernel_rfl) (fun K hK' => ?_)
      go_simp
      refine hK'.out _ _ ?_
      clear hK' K f7 g7 kM7 kZ7 O7
      generalize w7.setCell ⟨w.heap.size, 14, none⟩ (.slice x51 ex.length x52) = w8 at *
      refine wpAnyS_done (by kernel_rfl) ?_
      have hb8 := O8.below hb5 (Nat.le_refl _) hb5.size
      have HO := Nm.hide (And.intro (own_onlyT hq5 O8 kM5) (And.intro (own_onlyT ha5 O8 kM5) (And.intro (own_onlyT hu5 O8 kM5) (own_onlyT hx5 O8 kM5))))
      clear hq5 ha5 hu5 hx5 hb5 kM5 kZ5 O8
      go_wp2_with (first
        | (refine wpList_load_blk (.tmp 1) 33 rfl rfl w.heap.size _ _ kM8 rfl Tryz.underlying33 rfl (by kernel_rfl) ?_)
        | (refine wpList_store_blk (.tmp 2) (.tmp 38) 33 rfl rfl rfl (w.heap.size + 1) _ _ kZ8 rfl rfl (by kernel_rfl) rfl (by kernel_rfl) ?_; intro wz kz oz))
      refine bodyPost_ret (v := .agg #[.int .i64 i0, .bool b1, .int .i64 i2, .bool b3, .bool b4, .bool b5, .bool b6, .bool b7, .bool b8, .bool b9, .int .i64 i10, .slice va qs.length vc, .slice a31 an.length a32, .slice u41 au.length u42, .slice x51 ex.length x52]) (run_results_rowM Tryz.results20 rfl kz Tryz.underlying33 rfl (by kernel_rfl)) rfl ?_
      obtain ⟨p1, p2, p3, p4⟩ := HO.out
      exact ⟨_, _, _, _, rfl, ⟨own_onlyT p1 oz kZ8, own_onlyT p2 oz kZ8, own_onlyT p3 oz kZ8, own_onlyT p4 oz kZ8⟩, AU, AX, UX, oz.below hb8 (Nat.le_succ _) hb8.size⟩
end Go.Proofs.YtmaopfagkffccaaGreat
