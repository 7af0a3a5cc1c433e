import Derived.Test.YtmaopfagkffccaaGreatJCrI
import Derived.Test.YtmaopfagkffccaaGreatJPtM
import Derived.Test.YtmaopfagkffccaaGreatJMvM
import Derived.RegionTactic
import Derived.Deep.CutRange
/- impl.cloneRecords by its contract. -/
namespace Go.Proofs.YtmaopfagkffccaaGreat
open Go.RowKit
set_option linter.unusedVariables false

/-- What is laid where it lies already changes nothing. -/
theorem set_same {w : World} {g i : Nat} {v : Value} {cs : Array Value} {T : TypeId} (h : Blk w g cs T) (hv : cs[i]? = some v) : w.setCell ⟨g, i, none⟩ v = w := by
  have e : (w.setCell ⟨g, i, none⟩ v).heap = w.heap := by
    apply Array.ext_getElem?
    intro k
    by_cases hk : k = g
    · subst hk
      have hc : cs.setIfInBounds i v = cs := by
        apply Array.ext_getElem?
        intro j
        rw [Array.getElem?_setIfInBounds]
        split
        · rename_i e
          subst e
          obtain ⟨hi, _⟩ := Array.getElem?_eq_some_iff.1 hv
          rw [if_pos hi, hv]
        · rfl
      rw [heap_setCell_same w k i cs T v h, h, hc]
    · exact heap_setCell_other w ⟨g, i, none⟩ k _ hk
  show ({ w with heap := (w.setCell ⟨g, i, none⟩ v).heap } : World) = w
  rw [e]

theorem own_row {w : World} {B n : Nat} {v : Value} {xs : List Rr} (h : w.ownsRow B 72 5 v n (rvVs xs)) (hx : xs.length = n) (hp : 0 < n) : ∃ g cap cur, v = .slice (some ⟨g, 0, none⟩) n cap ∧ B ≤ g ∧ n ≤ cap ∧ cap ≤ maxLen ∧ Blk w g cur 72 ∧ ∀ (k j : Nat) (x : Rr), xs[k]? = some x → j < 5 → cur[k * 5 + j]? = [Value.string x.own, .int .i64 x.ty, .int .i64 x.cl, .int .i64 x.tt, .string x.da][j]? := by
  rcases h.2 with ⟨_, h0⟩ | ⟨g, cap, cur, rfl, hb, hh, hnc, hcm, hcs, htk⟩
  · omega
  · refine ⟨g, cap, cur, rfl, hb, hnc, hcm, hh, fun k j x hk hj => ?_⟩
    have hkl := (List.getElem?_eq_some_iff.1 hk).1
    have h1 := rvVs_at xs k j x hk hj
    rw [← htk, List.getElem?_take_of_lt (by omega)] at h1
    show cur[k * 5 + j]? = (rvV x)[j]?
    rw [← h1]
    simp

set_option maxRecDepth 100000 in
set_option maxHeartbeats 3200000 in
theorem cloneRecords_any (v : Value) (xs : List Rr) (w : World) (h : CRow w v xs.length 5 (rvVs xs)) (hl : xs.length ≤ 1048576) (hs : ∀ r ∈ xs, r.own.size ≤ 1048576 ∧ r.da.size ≤ 1048576) :
    Calls Tryz.prog 46 #[v] w fun e w' => ∃ u, e = .returned u ∧ w'.ownsRow w.heap.size 72 5 u xs.length (rvVs xs) ∧ Below w.heap.size w w' := by
  have hcl := cloneRR_any v xs w h hl
  obtain ⟨_, a, cap, rfl, _⟩ := h
  go_enter Tryz.func46, Tryz.ntmps46
  go_wp2_with fail
  refine hcl.mono ?_
  rintro e w1 ⟨u, rfl, ho1, b1⟩
  obtain ⟨ua, uc, rfl⟩ := own_sl ho1
  clear hcl
  go_wp2_with fail
  go_loopw [10] (fun i wr => ∃ k : Nat, k ≤ xs.length ∧ i = .int .i64 k ∧ wr.ownsRow w.heap.size 72 5 (.slice ua xs.length uc) xs.length (rvVs xs) ∧ Below w.heap.size w wr) (fun i _ => xs.length - (intOf i).toNat)
  case atStart => exact ⟨0, Nat.zero_le _, rfl, ho1, b1⟩
  case round =>
    clear ho1 b1
    obtain ⟨k, hk, rfl, hown, hbel⟩ := hrel
    by_cases hlt : k < xs.length
    · obtain ⟨x, hxk⟩ : ∃ x, xs[k]? = some x := ⟨_, List.getElem?_eq_getElem hlt⟩
      obtain ⟨g, cp, cur, ev, hBg, hnc, hcm, hblk, hcur⟩ := own_row hown rfl (by omega)
      simp only [Value.slice.injEq] at ev
      obtain ⟨rfl, _, rfl⟩ := ev
      have q0 := hcur k 0 x hxk (by decide)
      have q1 := hcur k 1 x hxk (by decide)
      have q2 := hcur k 2 x hxk (by decide)
      have q3 := hcur k 3 x hxk (by decide)
      have q4 := hcur k 4 x hxk (by decide)
      have hsx := hs x (List.mem_of_getElem? hxk)
      have c0 := (blk_cell hblk (k * 5 + 0)).trans q0
      have c1 := (blk_cell hblk (k * 5 + 1)).trans q1
      have c2 := (blk_cell hblk (k * 5 + 2)).trans q2
      have c3 := (blk_cell hblk (k * 5 + 3)).trans q3
      have c4 := (blk_cell hblk (k * 5 + 4)).trans q4
      simp at c0 c1 c2 c3 c4 q0 q4
      have i1 : (0 : Int) ≤ (k : Int) := by omega
      have i2 : (k : Int) < (xs.length : Int) := by omega
      have hgw := blk_lt hblk
      have bA := (Below.refl wr.heap.size wr).alloc (Nat.le_refl _) (.cells #[.string x.own, .int .i64 x.ty, .int .i64 x.cl, .int .i64 x.tt, .string x.da] 72)
      have kR := blk_new wr #[.string x.own, .int .i64 x.ty, .int .i64 x.cl, .int .i64 x.tt, .string x.da] 72
      have hbA := Nm.below_two hbel bA
      have hoA := own_below hown bA
      have hkA := blk_below hblk bA
      have hc1 := fun W => cloneStr_any x.own W (by omega)
      have hc2 := fun W => cloneStr_any x.da W (by omega)
      have HQ := Nm.hide (And.intro q0 q4)
      clear hcur q1 q2 q3 q0 q4 hxk hown hbel hblk
      obtain ⟨o, ty, cl, tt, da⟩ := x
      simp only at c0 c1 c2 c3 c4 bA kR hbA hoA hkA hc1 hc2 HQ
      go_wp2
      refine wp_region_last (S := fun W => Blk W wr.heap.size #[.string o, .int .i64 ty, .int .i64 cl, .int .i64 tt, .string da] 72 ∧ Blk W g cur 72) (L := 1000) (by kernel_rfl) ⟨blk_below kR (Below.refl _ _).drew, blk_below hkA (Below.refl _ _).drew⟩ (fun hH => ?_)
      refine wpAnyL_take (i := 0) (v := ?_) rfl (by kernel_rfl) (by kernel_rfl) (by kernel_rfl) (by kernel_rfl) (fun _ _ _ h => h) (Or.inl ⟨by rfl, ?_⟩) (by assumption) ?_
      rotate_left 1
      · (intro w hSw; obtain ⟨s1, s2⟩ := hSw; have t0 := (blk_cell s1 0).trans rfl; have t4 := (blk_cell s1 4).trans rfl; go_simp; try (with_reducible rfl))
      refine wpAnyL_take (i := 1) (v := ?_) rfl (by kernel_rfl) (by kernel_rfl) (by kernel_rfl) (by kernel_rfl) (fun _ _ _ h => h) (Or.inl ⟨by rfl, ?_⟩) (by assumption) ?_
      rotate_left 1
      · (intro w hSw; obtain ⟨s1, s2⟩ := hSw; have t0 := (blk_cell s1 0).trans rfl; have t4 := (blk_cell s1 4).trans rfl; go_simp; try (with_reducible rfl))
      refine wpAnyL_take (i := 2) (v := ?_) rfl (by kernel_rfl) (by kernel_rfl) (by kernel_rfl) (by kernel_rfl) (fun _ _ _ h => h) (Or.inl ⟨by rfl, ?_⟩) (by assumption) ?_
      rotate_left 1
      · (intro w hSw; obtain ⟨s1, s2⟩ := hSw; have t0 := (blk_cell s1 0).trans rfl; have t4 := (blk_cell s1 4).trans rfl; go_simp; try (with_reducible rfl))
      refine wpAnyL_take (i := 3) (v := ?_) rfl (by kernel_rfl) (by kernel_rfl) (by kernel_rfl) (by kernel_rfl) (fun _ _ _ h => h) (Or.inl ⟨by rfl, ?_⟩) (by assumption) ?_
      rotate_left 1
      · (intro w hSw; obtain ⟨s1, s2⟩ := hSw; have t0 := (blk_cell s1 0).trans rfl; have t4 := (blk_cell s1 4).trans rfl; go_simp; try (with_reducible rfl))
      refine wpAnyL_take (i := 4) (v := ?_) rfl (by kernel_rfl) (by kernel_rfl) (by kernel_rfl) (by kernel_rfl) (fun _ _ _ h => h) (Or.inl ⟨by rfl, ?_⟩) (by assumption) ?_
      rotate_left 1
      · (intro w hSw; obtain ⟨s1, s2⟩ := hSw; have t0 := (blk_cell s1 0).trans rfl; have t4 := (blk_cell s1 4).trans rfl; go_simp; try (with_reducible rfl))
      refine wpAnyL_take (i := 5) (v := ?_) rfl (by kernel_rfl) (by kernel_rfl) (by kernel_rfl) (by kernel_rfl) (fun _ _ _ h => h) (Or.inl ⟨by rfl, ?_⟩) (by assumption) ?_
      rotate_left 1
      · (intro w hSw; obtain ⟨s1, s2⟩ := hSw; have t0 := (blk_cell s1 0).trans rfl; have t4 := (blk_cell s1 4).trans rfl; go_simp; try (with_reducible rfl))
      refine wpAnyL_take (i := 7) (v := ?_) rfl (by kernel_rfl) (by kernel_rfl) (by kernel_rfl) (by kernel_rfl) (fun _ _ _ h => h) (Or.inl ⟨by rfl, ?_⟩) (by assumption) ?_
      rotate_left 1
      · (intro w hSw; obtain ⟨s1, s2⟩ := hSw; have t0 := (blk_cell s1 0).trans rfl; have t4 := (blk_cell s1 4).trans rfl; go_simp; try (with_reducible rfl))
      refine wpAnyL_take (i := 8) (v := ?_) rfl (by kernel_rfl) (by kernel_rfl) (by kernel_rfl) (by kernel_rfl) (fun _ _ _ h => h) (Or.inl ⟨by rfl, ?_⟩) (by assumption) ?_
      rotate_left 1
      · (intro w hSw; obtain ⟨s1, s2⟩ := hSw; have t0 := (blk_cell s1 0).trans rfl; have t4 := (blk_cell s1 4).trans rfl; go_simp; try (with_reducible rfl))
      refine wpAnyL_one (i := 6) (by kernel_rfl) rfl (fun K hK' => ?_)
      go_simp
      refine (hc1 _).mono ?_
      rintro e w8 ⟨rfl, b8⟩
      have b8' := (Below.refl _ (wr.alloc (.cells #[.string o, .int .i64 ty, .int .i64 cl, .int .i64 tt, .string da] 72))).drew.trans b8
      have kR8 := blk_below kR b8'
      have hk8 := blk_below hkA b8'
      have hb8 := Nm.below_two hbA b8'
      have ho8 := own_below hoA b8'
      clear b8 b8' kR hkA hbA hoA hc1 c0 c1 c2 c3 c4 bA
      go_wp2_with fail
      refine hK'.out _ _ ⟨kR8, hk8⟩ (fun hH => ?_)
      clear hK' K
      refine wpAnyL_one (i := 9) (by kernel_rfl) rfl (fun K hK' => ?_)
      go_simp
      refine (hc2 _).mono ?_
      rintro e w9 ⟨rfl, b9⟩
      have kR9 := blk_below kR8 b9
      have hk9 := blk_below hk8 b9
      have hb9 := Nm.below_two hb8 b9
      have ho9 := own_below ho8 b9
      clear b9 kR8 hk8 hb8 ho8 hc2
      go_wp2_with fail
      refine hK'.out _ _ ⟨kR9, hk9⟩ (fun hH => ?_)
      clear hK' K
      refine wpAnyL_take (i := 10) (v := ?_) rfl (by kernel_rfl) (by kernel_rfl) (by kernel_rfl) (by kernel_rfl) (fun _ _ _ h => h) (Or.inl ⟨by rfl, ?_⟩) (by assumption) ?_
      rotate_left 1
      · (intro w hSw; obtain ⟨s1, s2⟩ := hSw; have t0 := (blk_cell s1 0).trans rfl; have t4 := (blk_cell s1 4).trans rfl; go_simp; try (with_reducible rfl))
      refine wpAnyL_take (i := 11) (v := ?_) rfl (by kernel_rfl) (by kernel_rfl) (by kernel_rfl) (by kernel_rfl) (fun _ _ _ h => h) (Or.inl ⟨by rfl, ?_⟩) (by assumption) ?_
      rotate_left 1
      · (intro w hSw; obtain ⟨s1, s2⟩ := hSw; have t0 := (blk_cell s1 0).trans rfl; have t4 := (blk_cell s1 4).trans rfl; go_simp; try (with_reducible rfl))
      have z0 := (blk_cell hk9 (k * 5)).trans HQ.out.1
      have y0 := blk_frozen hk9 (k * 5)
      have HS0 := Nm.hide (set_same hk9 HQ.out.1)
      have HS4 := Nm.hide (set_same hk9 HQ.out.2)
      refine wpAnyL_one (i := 12) (by kernel_rfl) rfl (fun K hK' => ?_)
      go_simp
      rw [HS0.out]
      refine hK'.out _ _ ⟨kR9, hk9⟩ (fun hH => ?_)
      clear hK' K z0 y0 HS0
      refine wpAnyL_take (i := 13) (v := ?_) rfl (by kernel_rfl) (by kernel_rfl) (by kernel_rfl) (by kernel_rfl) (fun _ _ _ h => h) (Or.inl ⟨by rfl, ?_⟩) (by assumption) ?_
      rotate_left 1
      · (intro w hSw; obtain ⟨s1, s2⟩ := hSw; have t0 := (blk_cell s1 0).trans rfl; have t4 := (blk_cell s1 4).trans rfl; go_simp; try (with_reducible rfl))
      refine wpAnyL_take (i := 14) (v := ?_) rfl (by kernel_rfl) (by kernel_rfl) (by kernel_rfl) (by kernel_rfl) (fun _ _ _ h => h) (Or.inl ⟨by rfl, ?_⟩) (by assumption) ?_
      rotate_left 1
      · (intro w hSw; obtain ⟨s1, s2⟩ := hSw; have t0 := (blk_cell s1 0).trans rfl; have t4 := (blk_cell s1 4).trans rfl; go_simp; try (with_reducible rfl))
      have z4 := (blk_cell hk9 (k * 5 + 4)).trans HQ.out.2
      have y4 := blk_frozen hk9 (k * 5 + 4)
      refine wpAnyL_one (i := 15) (by kernel_rfl) rfl (fun K hK' => ?_)
      go_simp
      rw [HS4.out]
      refine hK'.out _ _ ⟨kR9, hk9⟩ (fun hH => ?_)
      clear hK' K
      refine wpAnyL_done (by kernel_rfl) ?_
      clear hH
      go_wp2_with fail
      go_roundw
      case rel => exact ⟨k + 1, by omega, by go_num, ho9, hb9⟩
      case measure => simp [intOf]; omega
    · have i2 : ¬ (k : Int) < (xs.length : Int) := by omega
      go_wp2
      go_ret
      exact ⟨_, rfl, hown, hbel⟩
end Go.Proofs.YtmaopfagkffccaaGreat
