import Derived.Test.YtkiadnglbjamfaaPfV
/- (link).closest by its contract. -/
namespace Go.Proofs.Ytkiadnglbjamfaa
open Go.RowKit
set_option linter.unusedVariables false

def slLenP : Value → Nat
  | .slice _ k _ => k
  | _ => 0

/-- A row of labels without its first one. -/
theorem srow_one {w : World} {b off n cap : Nat} {y : List ByteArray} (h : Nm.SRow w (.slice (some ⟨b, off, none⟩) n cap) y) (hn : 0 < n) : n = y.length ∧ n ≤ cap ∧ (cap = 1 → Nm.SRow w (.slice (some ⟨b, off, none⟩) 0 0) (y.drop 1)) ∧ Nm.SRow w (.slice (some ⟨b, off + 1, none⟩) (n - 1) (cap - 1)) (y.drop 1) := by
  have e : n = y.length := by
    obtain ⟨a', cap', e, _⟩ := h
    simp only [Value.slice.injEq] at e
    exact e.2.1
  have hc : n ≤ cap := by
    obtain ⟨a', cap', e2, h1, _⟩ := h
    simp only [Value.slice.injEq] at e2
    omega
  subst e
  refine ⟨rfl, hc, fun hcap => ?_, h.drop (k := 1) (by omega)⟩
  have := h.drop_all hcap
  rw [show y.length - 1 = 0 by omega] at this
  exact this

theorem srow_at {w : World} {v : Value} {y : List ByteArray} (h : Nm.SRow w v y) (hy : 0 < y.length) : ∃ b off cap, v = .slice (some ⟨b, off, none⟩) y.length cap := by
  obtain ⟨a, cap, rfl, _, _, _, hc⟩ := h
  obtain ⟨b, off, rfl, _⟩ := hc (by intro e; subst e; simp at hy)
  exact ⟨b, off, cap, rfl⟩

set_option maxRecDepth 100000 in
set_option maxHeartbeats 1600000 in
theorem closest_any (a b c u : Value) (l : Lk) (x : List ByteArray) (w : World) (h : LkV w a b c l) (hu : Nm.SRow w u x) (hx : Few x) (h1 : 0 < x.length) :
    Calls Try.prog 40 #[.agg #[a, b, c], u] w fun e w' => ∃ v, e = .returned v ∧ Nm.SRow w' v (nearB l (x.drop 1)) ∧ Below w.heap.size w w' := by
  have hB0 := (Below.refl w.heap.size w).alloc (Nat.le_refl _) (.cells #[a, b, c] 68)
  have k0 := blk_new w #[a, b, c] 68
  have hso := h.so
  have hsn := h.sn
  have z1 := hso.2
  have z2 := hsn.2
  have hun1 := fun W (hW : Below w.heap.size w W) (V : Value) (y : List ByteArray) (hV : Nm.SRow W V y) (hy : Few y) => under_any a V l.ow y W (h.ro.below hW) hV hso.1 (by omega) (by have := hy.2; omega)
  have hun2 := fun W (hW : Below w.heap.size w W) (V : Value) (y : List ByteArray) (hV : Nm.SRow W V y) (hy : Few y) => under_any b V l.nx y W (h.rn.below hW) hV hsn.1 (by omega) (by have := hy.2; omega)
  obtain ⟨⟨x1, y1, rfl⟩, ⟨x2, y2, rfl⟩, ⟨x3, y3, rfl⟩⟩ := lk_form h
  have hfd := few_drop hx 1
  have hrow := hu
  obtain ⟨ub, uo, yu, rfl⟩ := srow_at hu h1
  have hone := srow_one hu h1
  have hcu := hone.2.1
  have HO := Nm.hide hone
  obtain ⟨R, hR⟩ : ∃ R, nearB l (x.drop 1) = R := ⟨_, rfl⟩
  rw [hR]
  have HR := Nm.hide hR
  clear h hso hsn hR hone hrow hu
  have h1' : (1 : Int) ≤ (x.length : Int) := by omega
  go_enter Try.func40, Try.ntmps40
  by_cases hyu : yu = 1
  · subst hyu
    have HS := Nm.hide (HO.out.2.2.1 rfl)
    go_wp2
    go_loopw [5] (fun v wr => ∃ y : List ByteArray, Nm.SRow wr v y ∧ Few y ∧ nearB l y = R ∧ Blk wr w.heap.size #[.slice x1 l.ow.length y1, .slice x2 l.nx.length y2, .slice x3 l.ty.length y3] 68 ∧ Below w.heap.size w wr) (fun v _ => slLenP v)
    case atStart => exact ⟨_, HS.out.below hB0, hfd, HR.out, k0, hB0⟩
    case round =>
      obtain ⟨y, hy, hfy, hny, kr, hbel⟩ := hrel
      have HY := Nm.hide (And.intro hfy hny)
      have HY2 := Nm.hide hy
      have rr := fun i => blk_cell kr i
      obtain ⟨ya, yc, rfl, _⟩ := hy
      have hc1 := hun1 _ hbel _ _ HY2.out hfy
      clear k0 hB0 hfd hfy hny
      cases hU1 : underB l.ow y with
      | true =>
        rw [hU1] at hc1
        have HN := Nm.hide (near_stop (l := l) (x := y) (by rw [hU1]; rfl))
        clear hU1
        go_wp2_with fail
        refine hc1.mono ?_
        rintro e w1 ⟨rfl, m, rfl⟩
        go_wp2
        go_ret
        refine ⟨_, rfl, ?_, Nm.below_two hbel (below_drewN _ _)⟩
        rw [← HY.out.2, HN.out]
        exact HY2.out.below (below_drewN _ _)
      | false =>
        rw [hU1] at hc1
        go_wp2_with fail
        refine hc1.mono ?_
        rintro e w1 ⟨rfl, m, rfl⟩
        have bm := below_drewN wr m
        have hy1 := HY2.out.below bm
        have k1 := blk_below kr bm
        have hbel1 := Nm.below_two hbel bm
        generalize wr.drewN m = w1 at *
        have rr := fun i => blk_cell k1 i
        have hc2 := hun2 _ hbel1 _ _ hy1 HY.out.1
        clear hc1 kr bm HY2
        have HY2 := Nm.hide hy1
        clear hy1
        cases hU2 : underB l.nx y with
        | true =>
          rw [hU2] at hc2
          have HN := Nm.hide (near_stop (l := l) (x := y) (by rw [hU1, hU2]; rfl))
          clear hU1 hU2
          go_wp2_with fail
          refine hc2.mono ?_
          rintro e w2 ⟨rfl, m2, rfl⟩
          go_wp2
          go_ret
          refine ⟨_, rfl, ?_, Nm.below_two hbel1 (below_drewN _ _)⟩
          rw [← HY.out.2, HN.out]
          exact HY2.out.below (below_drewN _ _)
        | false =>
          rw [hU2] at hc2
          obtain ⟨hn1, hn2⟩ := near_go (l := l) (x := y) (by rw [hU1, hU2]; rfl)
          have HN := Nm.hide hn1
          clear hU1 hU2 hn1
          obtain ⟨yb, yo, yc2, ev⟩ := srow_at HY2.out hn2
          simp only [Value.slice.injEq, true_and] at ev
          obtain ⟨rfl, rfl⟩ := ev
          have hone := srow_one HY2.out hn2
          have hcl := hone.2.1
          have HO := Nm.hide hone
          clear hone
          have hl1 : (1 : Int) ≤ (y.length : Int) := by omega
          by_cases hc1' : yc = 1
          · subst hc1'
            have HS1 := Nm.hide (HO.out.2.2.1 rfl)
            go_wp2_with fail
            refine hc2.mono ?_
            rintro e w2 ⟨rfl, m2, rfl⟩
            have bm2 := below_drewN w1 m2
            have k2 := blk_below k1 bm2
            have hbel2 := Nm.below_two hbel1 bm2
            have hs2 := HS1.out.below bm2
            generalize w1.drewN m2 = w2 at *
            clear bm2 k1 hbel1
            go_wp2
            go_roundw
            case rel => exact ⟨y.drop 1, hs2, few_drop HY.out.1 1, by rw [← HN.out]; exact HY.out.2, k2, hbel2⟩
            case measure => simp only [slLenP]; omega
          · have hgt : 1 < yc := by omega
            go_wp2_with fail
            refine hc2.mono ?_
            rintro e w2 ⟨rfl, m2, rfl⟩
            have bm2 := below_drewN w1 m2
            have k2 := blk_below k1 bm2
            have hbel2 := Nm.below_two hbel1 bm2
            have hs2 := (HO.out.2.2.2).below bm2
            generalize w1.drewN m2 = w2 at *
            clear bm2 k1 hbel1
            go_wp2
            go_roundw
            case rel => exact ⟨y.drop 1, hs2, few_drop HY.out.1 1, by rw [← HN.out]; exact HY.out.2, k2, hbel2⟩
            case measure => simp only [slLenP]; omega
  · have hgt : 1 < yu := by omega
    have HS := Nm.hide HO.out.2.2.2
    go_wp2
    go_loopw [5] (fun v wr => ∃ y : List ByteArray, Nm.SRow wr v y ∧ Few y ∧ nearB l y = R ∧ Blk wr w.heap.size #[.slice x1 l.ow.length y1, .slice x2 l.nx.length y2, .slice x3 l.ty.length y3] 68 ∧ Below w.heap.size w wr) (fun v _ => slLenP v)
    case atStart => exact ⟨_, HS.out.below hB0, hfd, HR.out, k0, hB0⟩
    case round =>
      obtain ⟨y, hy, hfy, hny, kr, hbel⟩ := hrel
      have HY := Nm.hide (And.intro hfy hny)
      have HY2 := Nm.hide hy
      have rr := fun i => blk_cell kr i
      obtain ⟨ya, yc, rfl, _⟩ := hy
      have hc1 := hun1 _ hbel _ _ HY2.out hfy
      clear k0 hB0 hfd hfy hny
      cases hU1 : underB l.ow y with
      | true =>
        rw [hU1] at hc1
        have HN := Nm.hide (near_stop (l := l) (x := y) (by rw [hU1]; rfl))
        clear hU1
        go_wp2_with fail
        refine hc1.mono ?_
        rintro e w1 ⟨rfl, m, rfl⟩
        go_wp2
        go_ret
        refine ⟨_, rfl, ?_, Nm.below_two hbel (below_drewN _ _)⟩
        rw [← HY.out.2, HN.out]
        exact HY2.out.below (below_drewN _ _)
      | false =>
        rw [hU1] at hc1
        go_wp2_with fail
        refine hc1.mono ?_
        rintro e w1 ⟨rfl, m, rfl⟩
        have bm := below_drewN wr m
        have hy1 := HY2.out.below bm
        have k1 := blk_below kr bm
        have hbel1 := Nm.below_two hbel bm
        generalize wr.drewN m = w1 at *
        have rr := fun i => blk_cell k1 i
        have hc2 := hun2 _ hbel1 _ _ hy1 HY.out.1
        clear hc1 kr bm HY2
        have HY2 := Nm.hide hy1
        clear hy1
        cases hU2 : underB l.nx y with
        | true =>
          rw [hU2] at hc2
          have HN := Nm.hide (near_stop (l := l) (x := y) (by rw [hU1, hU2]; rfl))
          clear hU1 hU2
          go_wp2_with fail
          refine hc2.mono ?_
          rintro e w2 ⟨rfl, m2, rfl⟩
          go_wp2
          go_ret
          refine ⟨_, rfl, ?_, Nm.below_two hbel1 (below_drewN _ _)⟩
          rw [← HY.out.2, HN.out]
          exact HY2.out.below (below_drewN _ _)
        | false =>
          rw [hU2] at hc2
          obtain ⟨hn1, hn2⟩ := near_go (l := l) (x := y) (by rw [hU1, hU2]; rfl)
          have HN := Nm.hide hn1
          clear hU1 hU2 hn1
          obtain ⟨yb, yo, yc2, ev⟩ := srow_at HY2.out hn2
          simp only [Value.slice.injEq, true_and] at ev
          obtain ⟨rfl, rfl⟩ := ev
          have hone := srow_one HY2.out hn2
          have hcl := hone.2.1
          have HO := Nm.hide hone
          clear hone
          have hl1 : (1 : Int) ≤ (y.length : Int) := by omega
          by_cases hc1' : yc = 1
          · subst hc1'
            have HS1 := Nm.hide (HO.out.2.2.1 rfl)
            go_wp2_with fail
            refine hc2.mono ?_
            rintro e w2 ⟨rfl, m2, rfl⟩
            have bm2 := below_drewN w1 m2
            have k2 := blk_below k1 bm2
            have hbel2 := Nm.below_two hbel1 bm2
            have hs2 := HS1.out.below bm2
            generalize w1.drewN m2 = w2 at *
            clear bm2 k1 hbel1
            go_wp2
            go_roundw
            case rel => exact ⟨y.drop 1, hs2, few_drop HY.out.1 1, by rw [← HN.out]; exact HY.out.2, k2, hbel2⟩
            case measure => simp only [slLenP]; omega
          · have hgt : 1 < yc := by omega
            go_wp2_with fail
            refine hc2.mono ?_
            rintro e w2 ⟨rfl, m2, rfl⟩
            have bm2 := below_drewN w1 m2
            have k2 := blk_below k1 bm2
            have hbel2 := Nm.below_two hbel1 bm2
            have hs2 := (HO.out.2.2.2).below bm2
            generalize w1.drewN m2 = w2 at *
            clear bm2 k1 hbel1
            go_wp2
            go_roundw
            case rel => exact ⟨y.drop 1, hs2, few_drop HY.out.1 1, by rw [← HN.out]; exact HY.out.2, k2, hbel2⟩
            case measure => simp only [slLenP]; omega
end Go.Proofs.Ytkiadnglbjamfaa
