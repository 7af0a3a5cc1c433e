import Derived.Test.YtdcbhohlglncnaaGreatJMath
import Derived.Test.YtdcbhohlglncnaaGreatJTbBL
import Derived.Test.YtdcbhohlglncnaaGreatJBzR
import Derived.RegionTactic
import Derived.BigRegion
import Derived.Deep.RegionHeld3
import Derived.Maps.AppendAt
import Derived.Test.YtdcbhohlglncnaaGreatJSSmall
import Derived.Test.YtdcbhohlglncnaaGreatRows
import Derived.WalkSpells
import Derived.WalkLawsBesides
import Derived.ChangeAlike
/- spec.l06SetRecords, l06Join, l06Count by their contracts. -/
namespace Go.Proofs.YtdcbhohlglncnaaGreat
open Go.RowKit
set_option linter.unusedVariables false
theorem Tryz.infoRrq : (Tryz.prog.info? 90).map (fun i => (i.zero, i.size, i.bytes)) = some (some (.agg #[.string ByteArray.empty, .int .i64 0, .int .i64 0, .int .i64 0, .string ByteArray.empty]), 5, 56) := by kernel_rfl
set_option maxRecDepth 100000 in
set_option maxHeartbeats 3200000 in
theorem l06SetRecords_any (s : Sz) (dv : Value) (w : World) (h : Nm.SRow w dv s.da) (hl : s.da.length ≤ 1048576) :
 Calls Tryz.prog 72 #[.agg #[.string s.own, .int .i64 s.ty, .int .i64 s.tt, dv]] w fun e w' => ∃ u, e = .returned u ∧ w'.ownsRow w.heap.size 90 5 u (recsOf s).length (rvVs (recsOf s)) ∧ Below w.heap.size w w' := by
 obtain ⟨i0, hi, hz0, hz1, hz2⟩ := info_parts Tryz.infoRrq
 have hrl := recsOf_len s
 have hget := fun (k : Nat) (d : ByteArray) (h : s.da[k]? = some d) => recsOf_get (s := s) h
 generalize recsOf s = rs at *
 obtain ⟨o, ty, tt, da⟩ := s
 simp only at *
 have hB0 := (Below.refl w.heap.size w).alloc (Nat.le_refl _) (.cells #[.string o, .int .i64 ty, .int .i64 tt, dv] 87)
 have hrow := h.below hB0
 have hbx := blk_new w #[.string o, .int .i64 ty, .int .i64 tt, dv] 87
 obtain ⟨a, cap, rfl, hcap, hmx, hnl, hc⟩ := hrow
 clear h
 unfold maxLen at hmx
 go_enter Tryz.func72, Tryz.ntmps72
 go_wp2
 have hsz0 : (w.alloc (.cells #[.string o, .int .i64 ty, .int .i64 tt, .slice a da.length cap] 87)).heap.size = w.heap.size + 1 := by simp
 generalize w.alloc (.cells #[.string o, .int .i64 ty, .int .i64 tt, .slice a da.length cap] 87) = w0 at *
 have o0 := World.ownsRow_lit (base := w0.heap.size) (e := 90) (size := 5) w0 #[] 0 (Nat.le_refl _) (by decide) rfl
 have hall : ∀ W, Below w0.heap.size w0 W → ∀ (k : Nat) (x : ByteArray), da[k]? = some x → ∃ b off, a = some ⟨b, off, none⟩ ∧ W.cell? ⟨b, off + k, none⟩ = some (.string x) := by
  intro W hW k x hx
  obtain ⟨b, off, rfl, hcell⟩ := hc (by intro h; rw [h] at hx; simp at hx)
  have h0 := hcell k x hx
  exact ⟨b, off, rfl, (hW.cell (World.block_lt_of_cell? w0 _ h0)).trans h0⟩
 have hbox : ∀ W, Below w0.heap.size w0 W → W.cell? ⟨w.heap.size, 0, none⟩ = some (.string o) ∧ W.cell? ⟨w.heap.size, 1, none⟩ = some (.int .i64 ty) ∧ W.cell? ⟨w.heap.size, 2, none⟩ = some (.int .i64 tt) ∧ W.cell? ⟨w.heap.size, 3, none⟩ = some (.slice a da.length cap) := by
  intro W hW
  have hb := blk_below hbx hW
  exact ⟨(blk_cell hb 0).trans rfl, (blk_cell hb 1).trans rfl, (blk_cell hb 2).trans rfl, (blk_cell hb 3).trans rfl⟩
 clear hc hbx
 go_loopw [3, 4] (fun vo vi wr => ∃ k : Nat, k ≤ da.length ∧ vi = .int .i64 k ∧ wr.ownsRow w0.heap.size 90 5 vo k (rvVs (rs.take k)) ∧ Below w0.heap.size w0 wr) (fun _ vi _ => da.length - (intOf vi).toNat)
 case atStart => exact ⟨0, Nat.zero_le _, rfl, by rw [← hsz0]; exact o0, (Below.refl _ _).alloc (Nat.le_refl _) _⟩
 case round =>
  obtain ⟨k, hk, rfl, oO, hbel⟩ := hrel
  clear o0
  obtain ⟨q0, q1, q2, q3⟩ := hbox wr hbel
  by_cases hlt : k < da.length
  · obtain ⟨x, hx⟩ : ∃ x, da[k]? = some x := ⟨_, List.getElem?_eq_getElem hlt⟩
    obtain ⟨b, off, rfl, _⟩ := hall wr hbel k x hx
    have hcx : ∀ W, Below w0.heap.size w0 W → W.cell? ⟨w.heap.size, 0, none⟩ = some (.string o) ∧ W.cell? ⟨w.heap.size, 1, none⟩ = some (.int .i64 ty) ∧ W.cell? ⟨w.heap.size, 2, none⟩ = some (.int .i64 tt) ∧ W.cell? ⟨w.heap.size, 3, none⟩ = some (.slice (some ⟨b, off, none⟩) da.length cap) ∧ W.cell? ⟨b, off + k, none⟩ = some (.string x) := by
     intro W hW
     obtain ⟨y0, y1, y2, y3⟩ := hbox W hW
     obtain ⟨b', off', he, hcc⟩ := hall W hW k x hx
     cases he
     exact ⟨y0, y1, y2, y3, hcc⟩
    have HT : Hid (rvVs (rs.take k) ++ [.string o, .int .i64 ty, .int .i64 1, .int .i64 tt, .string x] = rvVs (rs.take (k + 1))) := by
     show _ = _
     rw [hget k x hx, rvVs_app]; rfl
    have i1 : (0 : Int) ≤ (k : Int) := by omega
    have i2 : (k : Int) < (da.length : Int) := by omega
    clear hall hbox hget hx
    go_wp2_with fail
    refine wp_region_held_drew (S := fun W => Below w0.heap.size w0 W) (by kernel_rfl) hbel.drew (fun hHeld => ?_)
    clear q0 q1 q2 q3
    refine wpAnyH_take (i := 0) (v := ?_) rfl (by kernel_rfl) (by kernel_rfl) (by kernel_rfl) (fun _ _ _ h => h) (Or.inl ⟨by rfl, ?_⟩) (by assumption) ?_
    rotate_left 1
    · (intro W hSW; obtain ⟨z0, z1, z2, z3, z4⟩ := hcx W hSW; go_simp; try (with_reducible rfl))
    refine wpAnyH_take (i := 1) (v := ?_) rfl (by kernel_rfl) (by kernel_rfl) (by kernel_rfl) (fun _ _ _ h => h) (Or.inl ⟨by rfl, ?_⟩) (by assumption) ?_
    rotate_left 1
    · (intro W hSW; obtain ⟨z0, z1, z2, z3, z4⟩ := hcx W hSW; go_simp; try (with_reducible rfl))
    refine wpAnyH_take (i := 2) (v := ?_) rfl (by kernel_rfl) (by kernel_rfl) (by kernel_rfl) (fun _ _ _ h => h) (Or.inl ⟨by rfl, ?_⟩) (by assumption) ?_
    rotate_left 1
    · (intro W hSW; obtain ⟨z0, z1, z2, z3, z4⟩ := hcx W hSW; go_simp; try (with_reducible rfl))
    refine wpAnyH_take (i := 3) (v := ?_) rfl (by kernel_rfl) (by kernel_rfl) (by kernel_rfl) (fun _ _ _ h => h) (Or.inl ⟨by rfl, ?_⟩) (by assumption) ?_
    rotate_left 1
    · (intro W hSW; obtain ⟨z0, z1, z2, z3, z4⟩ := hcx W hSW; go_simp; try (with_reducible rfl))
    refine wpAnyH_take (i := 4) (v := ?_) rfl (by kernel_rfl) (by kernel_rfl) (by kernel_rfl) (fun _ _ _ h => h) (Or.inl ⟨by rfl, ?_⟩) (by assumption) ?_
    rotate_left 1
    · (intro W hSW; obtain ⟨z0, z1, z2, z3, z4⟩ := hcx W hSW; go_simp; try (with_reducible rfl))
    refine wpAnyH_take (i := 5) (v := ?_) rfl (by kernel_rfl) (by kernel_rfl) (by kernel_rfl) (fun _ _ _ h => h) (Or.inl ⟨by rfl, ?_⟩) (by assumption) ?_
    rotate_left 1
    · (intro W hSW; obtain ⟨z0, z1, z2, z3, z4⟩ := hcx W hSW; go_simp; try (with_reducible rfl))
    refine wpAnyH_take (i := 6) (v := ?_) rfl (by kernel_rfl) (by kernel_rfl) (by kernel_rfl) (fun _ _ _ h => h) (Or.inl ⟨by rfl, ?_⟩) (by assumption) ?_
    rotate_left 1
    · (intro W hSW; obtain ⟨z0, z1, z2, z3, z4⟩ := hcx W hSW; go_simp; try (with_reducible rfl))
    refine wpAnyH_take (i := 7) (v := ?_) rfl (by kernel_rfl) (by kernel_rfl) (by kernel_rfl) (fun _ _ _ h => h) (Or.inl ⟨by rfl, ?_⟩) (by assumption) ?_
    rotate_left 1
    · (intro W hSW; obtain ⟨z0, z1, z2, z3, z4⟩ := hcx W hSW; go_simp; try (with_reducible rfl))
    refine wpAnyH_take (i := 8) (v := ?_) rfl (by kernel_rfl) (by kernel_rfl) (by kernel_rfl) (fun _ _ _ h => h) (Or.inl ⟨by rfl, ?_⟩) (by assumption) ?_
    rotate_left 1
    · (intro W hSW; obtain ⟨z0, z1, z2, z3, z4⟩ := hcx W hSW; go_simp; try (with_reducible rfl))
    refine wpAnyH_take (i := 9) (v := ?_) rfl (by kernel_rfl) (by kernel_rfl) (by kernel_rfl) (fun _ _ _ h => h) (Or.inl ⟨by rfl, ?_⟩) (by assumption) ?_
    rotate_left 1
    · (intro W hSW; obtain ⟨z0, z1, z2, z3, z4⟩ := hcx W hSW; go_simp; try (with_reducible rfl))
    refine wpAnyH_take (i := 10) (v := ?_) rfl (by kernel_rfl) (by kernel_rfl) (by kernel_rfl) (fun _ _ _ h => h) (Or.inl ⟨by rfl, ?_⟩) (by assumption) ?_
    rotate_left 1
    · (intro W hSW; obtain ⟨z0, z1, z2, z3, z4⟩ := hcx W hSW; go_simp; try (with_reducible rfl))
    refine wpAnyH_take (i := 11) (v := ?_) rfl (by kernel_rfl) (by kernel_rfl) (by kernel_rfl) (fun _ _ _ h => h) (Or.inl ⟨by rfl, ?_⟩) (by assumption) ?_
    rotate_left 1
    · (intro W hSW; obtain ⟨z0, z1, z2, z3, z4⟩ := hcx W hSW; go_simp; try (with_reducible rfl))
    refine wpAnyH_take (i := 12) (v := ?_) rfl (by kernel_rfl) (by kernel_rfl) (by kernel_rfl) (fun _ _ _ h => h) (Or.inl ⟨by rfl, ?_⟩) (by assumption) ?_
    rotate_left 1
    · (intro W hSW; obtain ⟨z0, z1, z2, z3, z4⟩ := hcx W hSW; go_simp; try (with_reducible rfl))
    refine wpAnyH_ready (rs := [13]) (by kernel_rfl) (by simp) ?_
    refine AllReadyH.cons rfl (fun K hK => ?_) AllReadyH.nil
    go_simp
    refine hK.out _ _ (hHeld.alloc hHeld.size _) (fun _ => ?_)
    clear hK K
    refine wpAnyH_ready (rs := [14]) (by kernel_rfl) (by simp) ?_
    refine AllReadyH.cons rfl (fun K hK => ?_) AllReadyH.nil
    refine step_append_own rfl (.tmp 13) (.tmp 26) 75 rfl w0.heap.size 90 i0 _ 5 56 Tryz.underlying75 hi hz0 hz1 hz2 rfl (by decide) _ _ _ (by rfl) (own_below oO ((Below.refl _ _).drew.alloc (Nat.le_refl _) _)) ⟨wr.drew.heap.size, 0, none⟩ 1 1 [.string o, .int .i64 ty, .int .i64 1, .int .i64 tt, .string x] (by rfl) rfl (cell_newV _ _ _) (by intro u hu; simp at hu; rcases hu with rfl | rfl | rfl | rfl | rfl <;> rfl) (by unfold maxLen; omega) (by omega) (by have := hHeld.size; simp at this ⊢; omega) ?_
    intro va wa hown' hgrow _
    rw [HT.out] at hown'
    have b4 : Below w0.heap.size w0 wa := (hHeld.alloc hHeld.size _).grown hgrow (by have := hHeld.size; simp at this ⊢; omega) (fun k hk => (oO.lt k hk).1)
    refine hK.out _ _ b4 (fun _ => ?_)
    clear hK K hgrow oO hHeld
    refine wpAnyH_take (i := 15) (v := ?_) rfl (by kernel_rfl) (by kernel_rfl) (by kernel_rfl) (fun _ _ _ h => h) (Or.inl ⟨by rfl, ?_⟩) (by assumption) ?_
    rotate_left 1
    · (intro W hSW; obtain ⟨z0, z1, z2, z3, z4⟩ := hcx W hSW; go_simp; try (with_reducible rfl))
    refine wpAnyH_done (by kernel_rfl) ?_ _
    obtain ⟨z0, z1, z2, z3, z4⟩ := hcx _ b4
    go_wp2
    go_roundw
    case rel => exact ⟨k + 1, by omega, by go_num, hown', b4⟩
    case measure => simp [intOf]; omega
  · have hkl : k = da.length := by omega
    subst hkl
    have i2 : (da.length : Int) ≤ (da.length : Int) := by omega
    clear hall hbox hget
    rw [List.take_of_length_le (by omega)] at oO
    go_wp2
    go_ret
    refine ⟨_, rfl, ?_, Nm.below_two hB0 hbel⟩
    rw [hrl]
    exact own_base oO hB0.size
set_option maxRecDepth 100000 in
set_option maxHeartbeats 3200000 in
theorem l06Join_any (a b : Value) (xs ys : List Rr) (B B2 : Nat) (w : World) (h : w.ownsRow B 90 5 a xs.length (rvVs xs)) (h' : w.ownsRow B2 90 5 b ys.length (rvVs ys)) (hB : B ≤ w.heap.size) (hlt : ∀ g, a.ownBlock = some g → g < B2) (hn : xs.length + ys.length ≤ 2000000) :
 Calls Tryz.prog 71 #[a, b] w fun e w' => ∃ u, e = .returned u ∧ w'.ownsRow B 90 5 u (xs ++ ys).length (rvVs (xs ++ ys)) ∧ Below B w w' := by
 obtain ⟨i0, hi, hz0, hz1, hz2⟩ := info_parts Tryz.infoRrq
 obtain ⟨ba, bc, rfl⟩ := own_sl h'
 go_enter Tryz.func71, Tryz.ntmps71
 go_wp2
 go_loopw [0, 5] (fun vo vi wr => ∃ k : Nat, k ≤ ys.length ∧ vi = .int .i64 k ∧ wr.ownsRow B 90 5 vo (xs.length + k) (rvVs (xs ++ ys.take k)) ∧ wr.ownsRow B2 90 5 (.slice ba ys.length bc) ys.length (rvVs ys) ∧ (∀ g, vo.ownBlock = some g → (Value.slice ba ys.length bc).ownBlock ≠ some g) ∧ B ≤ wr.heap.size ∧ Below B w wr) (fun _ vi _ => ys.length - (intOf vi).toNat)
 case atStart =>
  refine ⟨0, Nat.zero_le _, rfl, by simpa using h, h', fun g hg e => ?_, hB, Below.refl _ _⟩
  have h1 := hlt g hg
  have h2 := (h'.lt g e).1
  omega
 case round =>
  obtain ⟨k, hk, rfl, oO, oY, hap, hBw, hbel⟩ := hrel
  clear h h' hlt hB
  by_cases hlt : k < ys.length
  · obtain ⟨x, hx⟩ : ∃ x, ys[k]? = some x := ⟨_, List.getElem?_eq_getElem hlt⟩
    obtain ⟨_, ya, yc, hyv, hycap, hymx, hyc⟩ := CRow.of_owns oY
    simp only [Value.slice.injEq] at hyv
    obtain ⟨rfl, _, rfl⟩ := hyv
    obtain ⟨b, off, rfl, hcell⟩ := hyc (by omega)
    obtain ⟨c0, c1, c2, c3, c4⟩ := rv_cells hcell hx
    have HT : Hid (rvVs (xs ++ ys.take k) ++ [.string x.own, .int .i64 x.ty, .int .i64 x.cl, .int .i64 x.tt, .string x.da] = rvVs (xs ++ ys.take (k + 1))) := by
     show _ = _
     rw [List.take_add_one, hx, ← List.append_assoc, rvVs_app (xs ++ ys.take k)]; rfl
    have i1 : (0 : Int) ≤ (k : Int) := by omega
    have i2 : (k : Int) < (ys.length : Int) := by omega
    clear hcell hyc hx
    obtain ⟨o, ty, cl, tt, da⟩ := x
    simp only at c0 c1 c2 c3 c4 HT
    obtain ⟨oa, oc, hov⟩ := own_sl oO
    subst hov
    go_wp2_with (at_builtin; refine wpList_append_own_at _ rfl (.tmp 12) (.tmp 17) 75 rfl B 90 i0 _ 5 56 Tryz.underlying75 hi hz0 hz1 hz2 rfl (by decide) (.slice oa (xs.length + k) oc) (xs.length + k) (rvVs (xs ++ ys.take k)) rfl (own_below oO ((Below.refl _ _).alloc (Nat.le_refl _) _)) ⟨wr.heap.size, 0, none⟩ 1 1 [.string o, .int .i64 ty, .int .i64 cl, .int .i64 tt, .string da] rfl rfl (cell_newV _ _ _) (by intro u hu; simp at hu; rcases hu with rfl | rfl | rfl | rfl | rfl <;> rfl) (by unfold maxLen; omega) (by omega) (by simp; omega) ?_; intro va wa ho9 hg9 hnl9 hat9)
    rw [HT.out] at ho9
    have oY2 := own_below oY ((Below.refl _ _).alloc (Nat.le_refl _) (.cells #[.string o, .int .i64 ty, .int .i64 cl, .int .i64 tt, .string da] 90))
    have oY3 : wa.ownsRow B2 90 5 (.slice (some ⟨b, off, none⟩) ys.length bc) ys.length (rvVs ys) := by
     refine oY2.kept hg9 ?_
     cases hoa : (Value.slice oa (xs.length + k) oc).ownBlock with
     | none => right; simp [Value.ownBlock]
     | some g => right; exact hap g hoa
    have hlty := (oY.lt b rfl).2
    have hap2 : ∀ g, va.ownBlock = some g → (Value.slice (some ⟨b, off, none⟩) ys.length bc).ownBlock ≠ some g := by
     intro g hg
     rcases hat9 with h9 | h9
     · exact hap g (by rw [← h9]; exact hg)
     · rw [h9] at hg
       simp only [Option.some.injEq, Value.ownBlock, ne_eq] at hg ⊢
       simp at hg
       omega
    have b4 : Below B w wa := (hbel.alloc hBw _).grown hg9 (by simp; omega) (fun g hg => (oO.lt g hg).1)
    have hB4 : B ≤ wa.heap.size := by have := hg9.size; simp at this; omega
    clear hat9 hnl9 hg9 oY oY2 oO hap
    go_wp2
    go_roundw
    case rel => exact ⟨k + 1, by omega, by go_num, ho9, oY3, hap2, hB4, b4⟩
    case measure => simp [intOf]; omega
  · have hkl : k = ys.length := by omega
    subst hkl
    have i2 : (ys.length : Int) ≤ (ys.length : Int) := by omega
    rw [List.take_length] at oO
    clear oY hap
    go_wp2
    go_ret
    refine ⟨_, rfl, ?_, hbel⟩
    rw [List.length_append]
    exact oO
set_option maxRecDepth 100000 in
set_option maxHeartbeats 1600000 in
theorem l06Count_any (o : ByteArray) (v : Value) (ps : List Zp) (w : World) (h : ZRow w v ps) (hs : zsum ps ≤ 1048576) (hl : ps.length ≤ 1048576) :
 Calls Tryz.prog 39 #[.agg #[.string o, v]] w fun e w' => e = .returned (.int .i64 (dsum ps : Int)) ∧ Below w.heap.size w w' := by
 have hds := dsum_le ps
 have hB0 := (Below.refl w.heap.size w).alloc (Nat.le_refl _) (.cells #[.string o, v] 28)
 have hbx := blk_new w #[.string o, v] 28
 obtain ⟨⟨_, a, cap, rfl, hcap, hmx, hc⟩, hd⟩ := h
 unfold maxLen at hmx
 have hb1 := (blk_cell hbx 1).trans rfl
 go_enter Tryz.func39, Tryz.ntmps39
 go_wp2
 go_loop [3, 4] (fun t i => ∃ k : Nat, k ≤ ps.length ∧ i = .int .i64 k ∧ t = .int .i64 (dsum (ps.take k) : Int)) (fun _ i => ps.length - (intOf i).toNat)
 case atStart => exact ⟨0, Nat.zero_le _, rfl, by simp [dsum]⟩
 case round =>
  obtain ⟨k, hk, rfl, rfl⟩ := hrel
  by_cases hlt : k < ps.length
  · obtain ⟨x, hxk⟩ : ∃ x, ps[k]? = some x := ⟨_, List.getElem?_eq_getElem hlt⟩
    obtain ⟨b, off, rfl, hcell⟩ := hc (by omega)
    obtain ⟨c0, c1, c2, c3⟩ := zp_cells hcell hxk
    have c3' := (hB0.cell (World.block_lt_of_cell? w _ c3)).trans c3
    have HS := dsum_step ps k x hxk
    have hs1 := dsum_take_le ps (k + 1)
    obtain ⟨da', dc, hdv, _⟩ := hd x (List.mem_of_getElem? hxk)
    have i1 : (0 : Int) ≤ (k : Int) := by omega
    have i2 : (k : Int) < (ps.length : Int) := by omega
    have hfin : ((dsum (ps.take (k + 1)) : Nat) : Int) = (dsum (ps.take k) : Int) + (x.1.da.length : Int) := by omega
    have hbd : (dsum (ps.take k) : Int) + (x.1.da.length : Int) ≤ 1048576 := by omega
    clear hxk hcell hc hd
    obtain ⟨⟨o1, ty, tt, da⟩, dv⟩ := x
    simp only at c3' hdv hfin hbd
    subst hdv
    generalize hz : dsum (ps.take (k + 1)) = z1 at *
    generalize dsum (ps.take k) = z0 at *
    go_wp2
    go_round
    case rel => exact ⟨k + 1, by omega, by go_num, by rw [hz, hfin]⟩
    case measure => simp [intOf]; omega
  · have hkl : k = ps.length := by omega
    subst hkl
    clear hc hd
    have i2 : (ps.length : Int) ≤ (ps.length : Int) := by omega
    rw [List.take_length]
    go_wp2
    go_ret
    exact ⟨rfl, hB0⟩
end Go.Proofs.YtdcbhohlglncnaaGreat
/- laws.markText, laws.markStringS, laws.heldStringS by their contracts. -/
namespace Go.Proofs.YtdcbhohlglncnaaGreat
open Go.RowKit
def dgF : Nat → Nat → List UInt8
 | 0, _ => []
 | f + 1, k => if k = 0 then [] else dgF f (k / 10) ++ [UInt8.ofNat (48 + k % 10)]
def mkS (k : Nat) : ByteArray := if k = 0 then ⟨#[109, 48]⟩ else ⟨(109 :: dgF (k + 1) k).toArray⟩
def MkAt (k j : Nat) (t : ByteArray) : Prop := ∃ f, j < f ∧ dgF (k + 1) k = dgF f j ++ t.data.toList
theorem mk_start (k : Nat) : MkAt k k ⟨#[]⟩ := ⟨k + 1, by omega, by simp⟩
theorem mk_step {k j : Nat} {t : ByteArray} (h : MkAt k j t) (hj : 0 < j) : MkAt k (j / 10) (⟨#[UInt8.ofNat (48 + j % 10)]⟩ ++ t) := by
 obtain ⟨f, hf, e⟩ := h
 obtain ⟨g, rfl⟩ : ∃ g, f = g + 1 := ⟨f - 1, by omega⟩
 refine ⟨g, by omega, ?_⟩
 rw [e, dgF, if_neg (by omega)]
 simp
theorem mk_end {k j : Nat} {t : ByteArray} (h : MkAt k j t) (hj : j = 0) (hk : 0 < k) : (⟨#[109]⟩ : ByteArray) ++ t = mkS k := by
 obtain ⟨f, hf, e⟩ := h
 obtain ⟨g, rfl⟩ : ∃ g, f = g + 1 := ⟨f - 1, by omega⟩
 have z : dgF (g + 1) j = [] := by rw [dgF, if_pos hj]
 rw [z, List.nil_append] at e
 rw [mkS, if_neg (by omega), e]
 apply ba_ext
 simp
theorem mk_len {k j : Nat} {t : ByteArray} (h : MkAt k j t) : t.size ≤ k + 1 := by
 have hl : ∀ f k, (dgF f k).length ≤ f := by
  intro f
  induction f with
  | zero => intro k; simp [dgF]
  | succ f ih =>
    intro k
    rw [dgF]
    split
    · simp
    · have := ih (k / 10); simp; omega
 obtain ⟨f, hf, e⟩ := h
 have := congrArg List.length e
 rw [List.length_append, size_list] at this
 have := hl (k + 1) k
 omega
set_option maxRecDepth 100000 in
set_option maxHeartbeats 800000 in
theorem markText_any (k : Nat) (w : World) (hk : k ≤ 1000000000) :
 Calls Tryz.prog 55 #[.int .i64 (k : Int)] w fun e w' => e = .returned (.string (mkS k)) ∧ Below w.heap.size w w' := by
 by_cases h0 : k = 0
 · have HE : Hid (mkS k = ⟨#[109, 48]⟩) := by show _ = _; rw [mkS, if_pos h0]
   have h0' : (k : Int) ≤ 0 := by omega
   clear h0
   go_enter Tryz.func55, Tryz.ntmps55
   go_wp2
   go_ret
   rw [HE.out]
   exact ⟨rfl, Below.refl _ _⟩
 · have hpos : 0 < k := by omega
   have h0' : (0 : Int) < (k : Int) := by omega
   have hst := mk_start k
   go_enter Tryz.func55, Tryz.ntmps55
   go_wp2
   go_loopw [0, 3] (fun i v wr => ∃ (j : Nat) (t : ByteArray), i = .int .i64 (j : Int) ∧ j ≤ k ∧ v = .string t ∧ MkAt k j t ∧ Below w.heap.size w wr)
    (fun i _ _ => (intOf i).toNat)
   case atStart => exact ⟨k, _, rfl, Nat.le_refl _, rfl, hst, Below.refl _ _⟩
   case round =>
    obtain ⟨j, t, rfl, hjk, rfl, hat, hbel⟩ := hrel
    have hsz := hbel.size
    have hts := mk_len hat
    have hone : (ByteArray.mk #[109]).size = 1 := rfl
    clear hst
    by_cases hj : 0 < j
    · have HN := Nm.hide (mk_step hat hj)
      have hj' : (0 : Int) < (j : Int) := by omega
      have hcv := fun n => conv_one n wr
      have hn1 : ∀ c, (ByteArray.mk #[c]).size = 1 := fun _ => rfl
      have hmod : (48 + (j : Int) % 10) % 256 = 48 + (j : Int) % 10 := by omega
      have htn : (48 + (j : Int) % 10).toNat = 48 + j % 10 := by omega
      clear hat
      go_wp2
      go_roundw
      case rel => exact ⟨j / 10, _, by go_num, by omega, rfl, by simpa using HN.out, hbel.alloc hsz _⟩
      case measure => simp [intOf]; omega
    · have HE := Nm.hide (mk_end hat (by omega) hpos)
      have hj' : (j : Int) ≤ 0 := by omega
      clear hat
      go_wp2
      go_ret
      rw [← HE.out]
      exact ⟨rfl, hbel⟩
end Go.Proofs.YtdcbhohlglncnaaGreat
/- laws.markStringS, markSetS, markZone: what they leave as it was. -/
namespace Go.Proofs.YtdcbhohlglncnaaGreat
open Go.RowKit
set_option linter.unusedVariables false
/-- Only blocks from B up to C are written, and they keep their shape; those of another type than T stay. -/
structure Mk (B C : Nat) (T : TypeId) (w w' : World) : Prop where
 os : w'.os = w.os
 tape : w'.tape = w.tape
 output : w'.output = w.output
 size : w.heap.size ≤ w'.heap.size
 block : ∀ k, k < w.heap.size → (k < B ∨ C ≤ k) → w'.heap[k]? = w.heap[k]?
 shape : ∀ (g : Nat) (cur : Array Value) (e : TypeId), w.heap[g]? = some (.cells cur e (0, 0)) → ∃ cur' : Array Value, w'.heap[g]? = some (.cells cur' e (0, 0)) ∧ cur'.size = cur.size
 other : ∀ (g : Nat) (cur : Array Value) (e : TypeId), w.heap[g]? = some (.cells cur e (0, 0)) → e ≠ T → w'.heap[g]? = some (.cells cur e (0, 0))
theorem Mk.refl (B C T : Nat) (w : World) : Mk B C T w w := ⟨rfl, rfl, rfl, Nat.le_refl _, fun _ _ _ => rfl, fun _ cur _ h => ⟨cur, h, rfl⟩, fun _ _ _ h _ => h⟩
theorem heap_lt {w : World} {g : Nat} {x : Obj} (h : w.heap[g]? = some x) : g < w.heap.size := (Array.getElem?_eq_some_iff.1 h).1
theorem Mk.below {B C T : Nat} {w w1 w2 : World} (h : Mk B C T w w1) (hb : Below w1.heap.size w1 w2) : Mk B C T w w2 := by
 refine ⟨hb.os.trans h.os, hb.tape.trans h.tape, hb.output.trans h.output, Nat.le_trans h.size hb.size, fun k hk hr => (hb.block k (Nat.lt_of_lt_of_le hk h.size)).trans (h.block k hk hr), fun g cur e hg => ?_, fun g cur e hg hne => ?_⟩
 · obtain ⟨cur', h1, h2⟩ := h.shape g cur e hg
   exact ⟨cur', (hb.block g (heap_lt h1)).trans h1, h2⟩
 · have h1 := h.other g cur e hg hne
   exact (hb.block g (heap_lt h1)).trans h1
theorem Mk.set {B C T : Nat} {w w1 : World} {g i : Nat} {cur : Array Value} (h : Mk B C T w w1) (hB : B ≤ g) (hC : g < C) (hg : w1.heap[g]? = some (.cells cur T (0, 0))) (y : Value) : Mk B C T w (w1.setCell ⟨g, i, none⟩ y) := by
 refine ⟨h.os, h.tape, h.output, by simpa using h.size, fun k hk hr => ?_, fun g' cur' e hg' => ?_, fun g' cur' e hg' hne => ?_⟩
 · rw [heap_setCell_other w1 ⟨g, i, none⟩ k _ (by simp; omega)]
   exact h.block k hk hr
 · obtain ⟨c1, h1, h2⟩ := h.shape g' cur' e hg'
   by_cases hgg : g' = g
   · subst hgg
     rw [h1] at hg
     simp only [Option.some.injEq, Obj.cells.injEq] at hg
     obtain ⟨rfl, rfl, _⟩ := hg
     exact ⟨_, heap_setCell_same w1 g' i _ _ y h1, by simpa using h2⟩
   · exact ⟨c1, by rw [heap_setCell_other w1 ⟨g, i, none⟩ g' _ (by simpa using hgg)]; exact h1, h2⟩
 · have h1 := h.other g' cur' e hg' hne
   have hgg : g' ≠ g := by
    intro e1
    subst e1
    rw [h1] at hg
    simp only [Option.some.injEq, Obj.cells.injEq] at hg
    exact hne hg.2.1
   rw [heap_setCell_other w1 ⟨g, i, none⟩ g' _ (by simpa using hgg)]; exact h1
/-- A row that may be written, in a block from B up to C. -/
def WR (w : World) (B C : Nat) (e s : Nat) (v : Value) (n : Nat) : Prop := ∃ a cap, v = .slice a n cap ∧ n ≤ cap ∧ (0 < n → ∃ (g : Nat) (cur : Array Value), a = some ⟨g, 0, none⟩ ∧ B ≤ g ∧ g < C ∧ w.heap[g]? = some (.cells cur e (0, 0)) ∧ n * s ≤ cur.size)
theorem WR.of_owns {w : World} {B e s n : Nat} {v : Value} {xs : List Value} (h : w.ownsRow B e s v n xs) : WR w B w.heap.size e s v n := by
 rcases h.2 with ⟨rfl, rfl⟩ | ⟨g, cap, cur, rfl, hb, hg, hn, hm, hs, ht⟩
 · exact ⟨none, 0, rfl, Nat.le_refl _, fun h => by omega⟩
 · exact ⟨_, cap, rfl, hn, fun _ => ⟨g, cur, rfl, hb, heap_lt hg, hg, by rw [hs]; exact Nat.mul_le_mul_right _ hn⟩⟩
theorem WR.of_ownsC {w : World} {B C e s n : Nat} {v : Value} {xs : List Value} (h : w.ownsRow B e s v n xs) (hC : ∀ g, v.ownBlock = some g → g < C) : WR w B C e s v n := by
 rcases h.2 with ⟨rfl, rfl⟩ | ⟨g, cap, cur, rfl, hb, hg, hn, hm, hs, ht⟩
 · exact ⟨none, 0, rfl, Nat.le_refl _, fun h => by omega⟩
 · exact ⟨_, cap, rfl, hn, fun _ => ⟨g, cur, rfl, hb, hC g rfl, hg, by rw [hs]; exact Nat.mul_le_mul_right _ hn⟩⟩
theorem WR.shape {w w' : World} {B C e s n : Nat} {v : Value} (h : WR w B C e s v n) (hs : ∀ (g : Nat) (cur : Array Value) (e : TypeId), w.heap[g]? = some (.cells cur e (0, 0)) → ∃ cur' : Array Value, w'.heap[g]? = some (.cells cur' e (0, 0)) ∧ cur'.size = cur.size) : WR w' B C e s v n := by
 obtain ⟨a, cap, rfl, hn, hr⟩ := h
 refine ⟨a, cap, rfl, hn, fun hp => ?_⟩
 obtain ⟨g, cur, rfl, hB, hC, hg, hz⟩ := hr hp
 obtain ⟨cur', h1, h2⟩ := hs g cur e hg
 exact ⟨g, cur', rfl, hB, hC, h1, by omega⟩
set_option maxRecDepth 100000 in
set_option maxHeartbeats 800000 in
theorem markStringS_mk (v : Value) (n B C k : Nat) (w : World) (h : WR w B C 9 1 v n) (hn : n ≤ 10000000) (hk : k ≤ 100000000) :
 Calls Tryz.prog 56 #[v, .int .i64 (k : Int)] w fun e w' => e = .returned (.int .i64 ((k + n : Nat) : Int)) ∧ Mk B C 9 w w' := by
 obtain ⟨a, cap, rfl, hcap, hr⟩ := h
 have hmt := fun (j : Nat) (hj : j ≤ 1000000000) W => markText_any j W hj
 go_enter Tryz.func56, Tryz.ntmps56
 go_wp2
 go_loopw [1, 5] (fun t i wr => ∃ j : Nat, j ≤ n ∧ i = .int .i64 (j : Int) ∧ t = .int .i64 ((k : Int) + (j : Int)) ∧ Mk B C 9 w wr) (fun _ i _ => n - (intOf i).toNat)
 case atStart => exact ⟨0, Nat.zero_le _, rfl, by simp, Mk.refl _ _ _ _⟩
 case round =>
  obtain ⟨j, hj, rfl, rfl, hm⟩ := hrel
  by_cases hlt : j < n
  · obtain ⟨g, cur, rfl, hB, hC, hg, hz⟩ := hr (by omega)
    obtain ⟨cur', hg', hz'⟩ := hm.shape g cur _ hg
    have hone := hmt (k + j) (by omega) wr
    rw [show ((k + j : Nat) : Int) = (k : Int) + (j : Int) by omega] at hone
    have i1 : (0 : Int) ≤ (j : Int) := by omega
    have i2 : (j : Int) < (n : Int) := by omega
    have hcl : j < cur'.size := by omega
    clear hmt hr
    go_wp2_with (go_at_call 55; refine hone.mono ?_; rintro e w1 ⟨rfl, hb1⟩; have hg1 := (hb1.block g (heap_lt hg')).trans hg'; have hc1 : w1.cell? ⟨g, j, none⟩ = some cur'[j] := (cell_of_row _ _ _ _ _ _ hg1).trans (Array.getElem?_eq_getElem hcl); have hf1 := frozen_of_row w1 g j _ _ hg1)
    go_roundw
    case rel => exact ⟨j + 1, by omega, by go_num, by congr 1 <;> omega, (hm.below hb1).set hB hC hg1 _⟩
    case measure => simp [intOf]; omega
  · have hjn : j = n := by omega
    subst hjn
    clear hr hmt
    have i2 : (j : Int) ≤ (j : Int) := by omega
    go_wp2
    go_ret
    exact ⟨by rw [show ((k + j : Nat) : Int) = (k : Int) + (j : Int) by omega]; rfl, hm⟩
/-- Only blocks from B up to C are written, and all keep their shape. -/
structure Mj (B C : Nat) (w w' : World) : Prop where
 os : w'.os = w.os
 tape : w'.tape = w.tape
 output : w'.output = w.output
 size : w.heap.size ≤ w'.heap.size
 block : ∀ k, k < w.heap.size → (k < B ∨ C ≤ k) → w'.heap[k]? = w.heap[k]?
 shape : ∀ (g : Nat) (cur : Array Value) (e : TypeId), w.heap[g]? = some (.cells cur e (0, 0)) → ∃ cur' : Array Value, w'.heap[g]? = some (.cells cur' e (0, 0)) ∧ cur'.size = cur.size
theorem Mj.refl (B C : Nat) (w : World) : Mj B C w w := ⟨rfl, rfl, rfl, Nat.le_refl _, fun _ _ _ => rfl, fun _ cur _ h => ⟨cur, h, rfl⟩⟩
theorem Mj.step {B C T : Nat} {w w1 w2 : World} (h : Mj B C w w1) (h2 : Mk B C T w1 w2) : Mj B C w w2 := by
 refine ⟨h2.os.trans h.os, h2.tape.trans h.tape, h2.output.trans h.output, Nat.le_trans h.size h2.size, fun k hk hr => (h2.block k (Nat.lt_of_lt_of_le hk h.size) hr).trans (h.block k hk hr), fun g cur e hg => ?_⟩
 obtain ⟨c1, h3, h4⟩ := h.shape g cur e hg
 obtain ⟨c2, h5, h6⟩ := h2.shape g c1 e h3
 exact ⟨c2, h5, by omega⟩
theorem Mj.down {B C : Nat} {w w' : World} (h : Mj B C w w') {D : Nat} (h1 : D ≤ B) (h2 : D ≤ w.heap.size) : Below D w w' := ⟨h.os, h.tape, h.output, h.size, fun k hk => h.block k (by omega) (.inl (by omega))⟩
def zl : List Zp → Nat
 | [] => 0
 | x :: xs => x.1.da.length + 3 + zl xs
theorem zl_step : ∀ (xs : List Zp) (k : Nat) (x : Zp), xs[k]? = some x → zl (xs.take (k + 1)) = zl (xs.take k) + (x.1.da.length + 3) := by
 intro xs
 induction xs with
 | nil => intro k x h; simp at h
 | cons y xs ih =>
   intro k x h
   cases k with
   | zero => simp at h; subst h; simp [zl]
   | succ k =>
     simp at h
     have := ih k x h
     simp only [List.take_succ_cons, zl]; omega
theorem zl_take_le : ∀ (xs : List Zp) (k : Nat), zl (xs.take k) ≤ zl xs := by
 intro xs
 induction xs with
 | nil => intro k; simp [zl]
 | cons y xs ih =>
   intro k
   cases k with
   | zero => simp [zl]
   | succ k => have := ih k; simp only [List.take_succ_cons, zl]; omega
theorem zl_len (xs : List Zp) : xs.length ≤ zl xs := by
 induction xs with
 | nil => simp [zl]
 | cons y xs ih => simp only [zl, List.length_cons]; omega
/-- The sets' row: the slices of data stand in their places. -/
def SV (w : World) (g : Nat) (qs : List Zp) (cur : Array Value) : Prop := Blk w g cur 87 ∧ qs.length * 4 ≤ cur.size ∧ ∀ (j : Nat) (q : Zp), qs[j]? = some q → cur[j * 4 + 3]? = some q.2
theorem SV.set {w : World} {g i : Nat} {qs : List Zp} {cur : Array Value} (h : SV w g qs cur) (y : Value) (hc : i % 4 ≠ 3) : SV (w.setCell ⟨g, i, none⟩ y) g qs (cur.setIfInBounds i y) := by
 refine ⟨blk_set h.1 _ _, by simpa using h.2.1, fun j q hj => ?_⟩
 rw [Array.getElem?_setIfInBounds_ne (by omega)]
 exact h.2.2 j q hj
theorem SV.below {w W : World} {g : Nat} {qs : List Zp} {cur : Array Value} (h : SV w g qs cur) (hb : Below w.heap.size w W) : SV W g qs cur := ⟨blk_below h.1 hb, h.2⟩
theorem SV.mk {w W : World} {B C g : Nat} {qs : List Zp} {cur : Array Value} (h : SV w g qs cur) (hb : Mk B C 9 w W) : SV W g qs cur := ⟨hb.other g cur _ h.1 (by decide), h.2⟩
set_option maxRecDepth 100000 in
set_option maxHeartbeats 1600000 in
theorem markSetS_mk (v : Value) (qs : List Zp) (B C k : Nat) (w : World) (h : OZ w B v qs) (hC : ∀ g, v.ownBlock = some g → g < C) (hCD : ∀ q ∈ qs, ∀ g, q.2.ownBlock = some g → g < C) (hn : zl qs ≤ 10000000) (hk : k ≤ 1000000) :
 Calls Tryz.prog 31 #[v, .int .i64 (k : Int)] w fun e w' => e = .returned (.int .i64 ((k + zl qs : Nat) : Int)) ∧ Mj B C w w' := by
 have hW0 := WR.of_ownsC h.1 hC
 have hql := zl_len qs
 have hD0 : ∀ q ∈ qs, WR w B C 9 1 q.2 q.1.da.length := fun q hq => WR.of_ownsC (h.2 q hq) (hCD q hq)
 have hSV0 : 0 < qs.length → ∃ g cap cur, v = .slice (some ⟨g, 0, none⟩) qs.length cap ∧ B ≤ g ∧ g < C ∧ SV w g qs cur := by
  intro hp
  rcases h.1.2 with ⟨_, h0⟩ | ⟨g, cap, cur, rfl, hb, hg, hn, hm, hs, ht⟩
  · omega
  · refine ⟨g, cap, cur, rfl, hb, hC g rfl, hg, by rw [hs]; exact Nat.mul_le_mul_right _ hn, fun j q hj => ?_⟩
    have hjl : j < qs.length := (List.getElem?_eq_some_iff.1 hj).1
    have e := (zpVs_at qs j 3 q hj (by decide))
    rw [← ht, List.getElem?_take_of_lt (by omega)] at e
    have e2 : cur.toList[j * 4 + 3]? = some q.2 := e
    simpa using e2
 have hmt := fun (j : Nat) (hj : j ≤ 1000000000) W => markText_any j W hj
 have hms := fun (q : Zp) W (hWr : WR W B C 9 1 q.2 q.1.da.length) (j : Nat) (hj : j ≤ 100000000) (hl : q.1.da.length ≤ 10000000) => markStringS_mk q.2 q.1.da.length B C j W hWr hl hj
 obtain ⟨a, cap, rfl⟩ := own_sl h.1
 clear h hW0 hC hCD
 go_enter Tryz.func31, Tryz.ntmps31
 go_wp2
 go_loopw [1, 5] (fun t i wr => ∃ j : Nat, j ≤ qs.length ∧ i = .int .i64 (j : Int) ∧ t = .int .i64 ((k : Int) + (zl (qs.take j) : Int)) ∧ Mj B C w wr ∧ Hid (∀ g, a = some ⟨g, 0, none⟩ → 0 < qs.length → ∃ cur, SV wr g qs cur)) (fun _ i _ => qs.length - (intOf i).toNat)
 case atStart =>
  refine ⟨0, Nat.zero_le _, rfl, by simp [zl], Mj.refl _ _ _, ?_⟩
  intro g hg hp
  obtain ⟨g', cap', cur, e1, _, _, hsv⟩ := hSV0 hp
  subst hg
  simp only [Value.slice.injEq, Option.some.injEq, Addr.mk.injEq] at e1
  obtain ⟨⟨rfl, _⟩, _⟩ := e1
  exact ⟨cur, hsv⟩
 case round =>
  obtain ⟨j, hj, rfl, rfl, hm, HV⟩ := hrel
  by_cases hlt : j < qs.length
  · obtain ⟨q, hq⟩ : ∃ q, qs[j]? = some q := ⟨_, List.getElem?_eq_getElem hlt⟩
    obtain ⟨g, cap', cur0, e1, hBg, hgC, _⟩ := hSV0 (by omega)
    simp only [Value.slice.injEq] at e1
    obtain ⟨rfl, _, rfl⟩ := e1
    obtain ⟨cur, hsv⟩ := HV.out g rfl (by omega)
    have hst := zl_step qs j q hq
    have hle := zl_take_le qs (j + 1)
    have hone := hmt (k + zl (qs.take j)) (by omega) wr
    rw [show ((k + zl (qs.take j) : Nat) : Int) = (k : Int) + (zl (qs.take j) : Int) by omega] at hone
    have hms1 := fun W hWr => hms q W hWr (k + zl (qs.take j) + 3) (by omega) (by omega)
    rw [show ((k + zl (qs.take j) + 3 : Nat) : Int) = (k : Int) + (zl (qs.take j) : Int) + 1 + 1 + 1 by omega] at hms1
    have hwr := (hD0 q (List.mem_of_getElem? hq)).shape hm.shape
    have hdv := hsv.2.2 j q hq
    have i1 : (0 : Int) ≤ (j : Int) := by omega
    have i2 : (j : Int) < (qs.length : Int) := by omega
    have hfin : ((k + zl (qs.take j) + 3 + q.1.da.length : Nat) : Int) = (k : Int) + (zl (qs.take (j + 1)) : Int) := by omega
    have hcs : j * 4 + 3 < cur.size := by have := hsv.2.1; omega
    obtain ⟨qa, qc, hqv⟩ : ∃ qa qc, q.2 = .slice qa q.1.da.length qc := by
     obtain ⟨qa, qc, e, _⟩ := hwr
     exact ⟨qa, qc, e⟩
    clear hmt hms hSV0 HV hq hD0
    generalize zl (qs.take j) = z0 at *
    generalize hz1 : zl (qs.take (j + 1)) = z1 at *
    obtain ⟨⟨o, ty, tt, da⟩, dv⟩ := q
    simp only at hqv hms1 hwr hdv hfin
    subst hqv
    go_wp2_with (first | (go_at_call 55; refine hone.mono ?_; rintro e w1 ⟨rfl, hb1⟩; have hs1 := hsv.below hb1; have f1 := blk_frozen hs1.1; have c0 : w1.cell? ⟨g, j * 4, none⟩ = some cur[j * 4] := (blk_cell hs1.1 _).trans (Array.getElem?_eq_getElem (by omega)); have c1 : w1.cell? ⟨g, j * 4 + 1, none⟩ = some cur[j * 4 + 1] := (blk_cell hs1.1 _).trans (Array.getElem?_eq_getElem (by omega)); have c2 : w1.cell? ⟨g, j * 4 + 2, none⟩ = some cur[j * 4 + 2] := (blk_cell hs1.1 _).trans (Array.getElem?_eq_getElem (by omega)); have c3 : w1.cell? ⟨g, j * 4 + 3, none⟩ = some (.slice qa da.length qc) := (blk_cell hs1.1 _).trans hdv) | (go_at_call 56; refine (hms1 _ (hwr.shape (((((Mk.refl B C 87 wr).below hb1).set hBg hgC hs1.1 _).set hBg hgC (hs1.set _ (by omega)).1 _).set hBg hgC ((hs1.set _ (by omega)).set _ (by omega)).1 _).shape)).mono ?_; rintro e w5 ⟨rfl, hk5⟩))
    have hs5 := (((hs1.set (.string (mkS (k + z0))) (i := j * 4) (by omega)).set (.int .i64 ((k : Int) + (z0 : Int) + 1)) (i := j * 4 + 1) (by omega)).set (.int .i64 ((k : Int) + (z0 : Int) + 1 + 1)) (i := j * 4 + 2) (by omega)).mk hk5
    have hm5 := (hm.step (((((Mk.refl B C 87 wr).below hb1).set hBg hgC hs1.1 _).set hBg hgC (hs1.set _ (by omega)).1 _).set hBg hgC ((hs1.set _ (by omega)).set _ (by omega)).1 _)).step hk5
    go_roundw
    case rel =>
     refine ⟨j + 1, by omega, by go_num, ?_, hm5, ?_⟩
     · rw [hz1]; congr 1 <;> omega
     · intro g' hg' hp
       cases hg'
       exact ⟨_, hs5⟩
    case measure => simp [intOf]; omega
  · have hjn : j = qs.length := by omega
    subst hjn
    clear hmt hms hSV0 HV hD0
    have i2 : (qs.length : Int) ≤ (qs.length : Int) := by omega
    rw [List.take_length]
    go_wp2
    go_ret
    exact ⟨by rw [show ((k + zl qs : Nat) : Int) = (k : Int) + (zl qs : Int) by omega]; rfl, hm⟩
set_option maxRecDepth 100000 in
set_option maxHeartbeats 800000 in
theorem markZone_mk (o : ByteArray) (v : Value) (qs : List Zp) (B C k : Nat) (w : World) (h : OZ w B v qs) (hC : ∀ g, v.ownBlock = some g → g < C) (hCD : ∀ q ∈ qs, ∀ g, q.2.ownBlock = some g → g < C) (hn : zl qs ≤ 10000000) (hk : k ≤ 1000000) :
 Calls Tryz.prog 11 #[.agg #[.string o, v], .int .i64 (k : Int)] w fun e w' => e = .returned (.int .i64 ((k + zl qs : Nat) : Int)) ∧ Mj B C w w' := by
 have hB := (Below.refl w.heap.size w).alloc (Nat.le_refl _) (.cells #[.string o, v] 28)
 have hone := markSetS_mk v qs B C k _ (h.below hB) hC hCD hn hk
 obtain ⟨a, cap, rfl⟩ := own_sl h.1
 have hsz : (w.alloc (.cells #[.string o, .slice a qs.length cap] 28)).heap.size = w.heap.size + 1 := by simp
 clear h hC hCD
 go_enter Tryz.func11, Tryz.ntmps11
 go_wp2_with (go_at_call 31; refine hone.mono ?_; rintro e w1 ⟨rfl, hm⟩)
 go_ret
 refine ⟨rfl, hm.os, hm.tape, hm.output, by have := hm.size; omega, fun k hk hr => (hm.block k (by omega) hr).trans (hB.block k hk), fun g cur e hg => ?_⟩
 exact hm.shape g cur e ((hB.block g (heap_lt hg)).trans hg)
theorem own_mj {w w' : World} {B C B' e s n : Nat} {v : Value} {xs : List Value} (h : w.ownsRow B' e s v n xs) (hr : ∀ g, v.ownBlock = some g → g < B ∨ C ≤ g) (hm : Mj B C w w') : w'.ownsRow B' e s v n xs := by
 refine ⟨h.1, ?_⟩
 rcases h.2 with h0 | ⟨g, cap, cur, rfl, hb, hg, r⟩
 · exact .inl h0
 · exact .inr ⟨g, cap, cur, rfl, hb, (hm.block g (heap_lt hg) (hr g rfl)).trans hg, r⟩
theorem OZ.lt {w : World} {B : Nat} {v : Value} {qs : List Zp} (h : OZ w B v qs) : (∀ g, v.ownBlock = some g → g < w.heap.size) ∧ ∀ q ∈ qs, ∀ g, q.2.ownBlock = some g → g < w.heap.size :=
 ⟨fun g hg => (h.1.lt g hg).2, fun q hq g hg => ((h.2 q hq).lt g hg).2⟩
theorem zsum_same {ps qs : List Zp} (h : qs.map (·.1) = ps.map (·.1)) : zsum qs = zsum ps := by
 have e : ∀ xs : List Zp, zsum xs = ((xs.map (·.1)).map zs1).sum := by
  intro xs
  induction xs with
  | nil => rfl
  | cons y xs ih => simp only [zsum, List.map_cons, List.sum_cons, ih]
 rw [e, e, h]
theorem zl_le (ps : List Zp) : zl ps ≤ zsum ps + 3 * ps.length := by
 induction ps with
 | nil => simp [zl]
 | cons y ps ih => simp only [zl, zsum, zs1, List.length_cons]; omega
set_option maxRecDepth 100000 in
set_option maxHeartbeats 3200000 in
theorem specZoneRecords_any (o : ByteArray) (v : Value) (ps : List Zp) (w : World) (h : ZRow w v ps) (hs : zsum ps ≤ 1048576) (hl : ps.length ≤ 1048576) :
 Calls Tryz.prog 41 #[.agg #[.string o, v]] w fun e w' => ∃ u, e = .returned u ∧ w'.ownsRow w.heap.size 90 5 u (zoneRecs ps).length (rvVs (zoneRecs ps)) ∧ Below w.heap.size w w' := by
 obtain ⟨RS, hRS⟩ : ∃ R, R = zoneRecs ps := ⟨_, rfl⟩
 rw [← hRS]
 unfold zoneRecs at hRS
 have hB0 := (Below.refl w.heap.size w).alloc (Nat.le_refl _) (.cells #[.string o, v] 28)
 have hbx := blk_new w #[.string o, v] 28
 have hrow := h.below hB0
 have hrowW := h
 have hsz0 : (w.alloc (.cells #[.string o, v] 28)).heap.size = w.heap.size + 1 := by simp
 have o0 := World.ownsRow_lit (base := (w.alloc (.cells #[.string o, v] 28)).heap.size) (e := 90) (size := 5) (w.alloc (.cells #[.string o, v] 28)) #[] 0 (Nat.le_refl _) (by decide) rfl
 obtain ⟨⟨_, a, cap, rfl, hcap, hmx, _⟩, _⟩ := h
 unfold maxLen at hmx
 by_cases hbig : 500 < ps.length
 · have hbig' : (500 : Int) < (ps.length : Int) := by omega
   obtain rfl : RS = [] := by rw [hRS, if_pos (.inl hbig)]
   clear hRS hrow
   go_enter Tryz.func41, Tryz.ntmps41
   go_wp2
   go_ret
   refine ⟨_, rfl, ?_, hB0.alloc hB0.size _⟩
   rw [hsz0] at o0
   exact own_base o0 (by omega)
 · have hbig' : (ps.length : Int) ≤ 500 := by omega
   have hcnt := fun W (hW : Below (w.alloc (.cells #[.string o, .slice a ps.length cap] 28)).heap.size (w.alloc (.cells #[.string o, .slice a ps.length cap] 28)) W) => l06Count_any o (.slice a ps.length cap) ps W (hrow.below hW) hs hl
   by_cases hd : 500 < dsum ps
   · have hd' : (500 : Int) < (dsum ps : Int) := by omega
     obtain rfl : RS = [] := by rw [hRS, if_pos (.inr hd)]
     clear hRS hrow
     generalize dsum ps = D at *
     go_enter Tryz.func41, Tryz.ntmps41
     go_wp2_with (go_at_call 39; refine (hcnt _ ((Below.refl _ _).alloc (Nat.le_refl _) _)).mono ?_; rintro e w1 ⟨rfl, hb1⟩)
     go_ret
     refine ⟨_, rfl, ?_, Nm.below_two (hB0.alloc hB0.size _) hb1⟩
     have o1 := own_below o0 hb1
     rw [hsz0] at o1
     exact own_base o1 (by omega)
   · have hd' : (dsum ps : Int) ≤ 500 := by omega
     have hRS2 : RS = recsAll ps := by rw [hRS, if_neg (by omega)]
     clear hRS
     have hdd : ∀ k, dsum (ps.take k) ≤ 500 := fun k => by have := dsum_take_le ps k; omega
     have hrl := fun k => recsAll_len (ps.take k)
     have hstep := fun (k : Nat) (x : Zp) (h : ps[k]? = some x) => recsAll_step h
     have hdst := fun (k : Nat) (x : Zp) (h : ps[k]? = some x) => dsum_step ps k x h
     have hrun := hcnt
     generalize hDP : dsum ps = D at hrun hd'
     go_enter Tryz.func41, Tryz.ntmps41
     go_wp2_with (go_at_call 39; refine (hrun _ ((Below.refl _ _).alloc (Nat.le_refl _) _)).mono ?_; rintro e w1 ⟨rfl, hb1⟩)
     have hbx1 := blk_below (blk_alloc hbx (.cells #[] 90)) hb1
     have hB1 := Nm.below_two (hB0.alloc hB0.size (.cells #[] 90)) hb1
     have o1 := own_below o0 hb1
     have hb01 : Below (w.alloc (.cells #[.string o, .slice a ps.length cap] 28)).heap.size (w.alloc (.cells #[.string o, .slice a ps.length cap] 28)) w1 := Nm.below_two ((Below.refl _ _).alloc (Nat.le_refl _) _) hb1
     have hrow1 := hrow.below hb01
     rw [hsz0] at o1
     clear hcnt hrun hb1 hb01 o0 hrow hbx hB0 hsz0
     obtain ⟨wb, hwb⟩ : ∃ wb, wb = w1 := ⟨w1, rfl⟩
     have hw1b : w.heap.size + 1 ≤ w1.heap.size := blk_lt hbx1
     go_loopw [3, 4] (fun vo vi wr => ∃ k : Nat, k ≤ ps.length ∧ vi = .int .i64 k ∧ wr.ownsRow (w.heap.size + 1) 90 5 vo (recsAll (ps.take k)).length (rvVs (recsAll (ps.take k))) ∧ Below (w.heap.size + 1) w1 wr) (fun _ vi _ => ps.length - (intOf vi).toNat)
     case atStart => exact ⟨0, Nat.zero_le _, rfl, o1, Below.refl _ _⟩
     case round =>
      obtain ⟨k, hk, rfl, oO, hbel⟩ := hrel
      clear o1
      have hW : Below w.heap.size w wr := hB1.trans (hbel.mono (by omega))
      have hbr : Blk wr w.heap.size #[.string o, .slice a ps.length cap] 28 := (hbel.block _ (by omega)).trans hbx1
      have q1 : wr.cell? ⟨w.heap.size, 1, none⟩ = some (.slice a ps.length cap) := (blk_cell hbr 1).trans rfl
      have hwsz : w.heap.size + 1 ≤ wr.heap.size := blk_lt hbr
      by_cases hlt : k < ps.length
      · obtain ⟨x, hxk⟩ : ∃ x, ps[k]? = some x := ⟨_, List.getElem?_eq_getElem hlt⟩
        obtain ⟨⟨_, a', cap', hv, _, _, hc⟩, hsr⟩ := hrowW.below hW
        simp only [Value.slice.injEq] at hv
        obtain ⟨rfl, _, rfl⟩ := hv
        obtain ⟨b, off, rfl, hcell⟩ := hc (by omega)
        obtain ⟨c0, c1, c2, c3⟩ := zp_cells hcell hxk
        have hmem := List.mem_of_getElem? hxk
        have hxl : x.1.da.length ≤ 1048576 := by have := zsum_mem ps x hmem; unfold zs1 at this; omega
        have hone := l06SetRecords_any x.1 x.2 wr (hsr x hmem) hxl
        have hsp := hstep k x hxk
        have hld := hdst k x hxk
        have hd1 := hdd (k + 1)
        have hl0 := hrl k
        have hl1 := recsOf_len x.1
        have hjn := fun U W (h1 : W.ownsRow (w.heap.size + 1) 90 5 _ (recsAll (ps.take k)).length (rvVs (recsAll (ps.take k)))) (h2 : W.ownsRow wr.heap.size 90 5 U (recsOf x.1).length (rvVs (recsOf x.1))) hB => l06Join_any _ U (recsAll (ps.take k)) (recsOf x.1) (w.heap.size + 1) wr.heap.size W h1 h2 hB (fun g hg => (oO.lt g hg).2) (by omega)
        rw [← hsp] at hjn
        have i1 : (0 : Int) ≤ (k : Int) := by omega
        have i2 : (k : Int) < (ps.length : Int) := by omega
        clear hcell hc hsr hrowW hstep hdst hrl hdd hsp hld hl0 hl1 hmem hxk
        generalize recsAll (ps.take k) = R0 at *
        generalize hR1 : recsAll (ps.take (k + 1)) = R1 at *
        generalize recsOf x.1 = R2 at *
        obtain ⟨⟨o1, ty, tt, da⟩, dv⟩ := x
        simp only at c0 c1 c2 c3 hone
        obtain ⟨oa, oc, hov⟩ := own_sl oO
        subst hov
        go_wp2_with (first | (go_at_call 72; refine hone.mono ?_; rintro e w2 ⟨u, rfl, hu, hb2⟩; have oO2 := own_below oO hb2) | (go_at_call 71; refine (hjn _ _ oO2 hu (by have := hb2.size; omega)).mono ?_; rintro e w3 ⟨u3, rfl, hu3, hb3⟩))
        go_roundw
        case rel => exact ⟨k + 1, by omega, by go_num, by rw [hR1]; exact hu3, (hbel.trans (hb2.mono (by omega))).trans hb3⟩
        case measure => simp [intOf]; omega
      · have hkl : k = ps.length := by omega
        subst hkl
        have i2 : (ps.length : Int) ≤ (ps.length : Int) := by omega
        rw [List.take_length, ← hRS2] at oO
        clear hrowW hstep hdst hrl hdd hRS2
        go_wp2
        go_ret
        exact ⟨_, rfl, own_base oO (by omega), hW⟩
end Go.Proofs.YtdcbhohlglncnaaGreat
