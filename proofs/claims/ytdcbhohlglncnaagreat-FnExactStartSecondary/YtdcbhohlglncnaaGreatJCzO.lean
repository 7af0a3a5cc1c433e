import Derived.Test.YtdcbhohlglncnaaGreatCzE
import Derived.Test.YtdcbhohlglncnaaGreatJZrI
import Derived.Test.YtdcbhohlglncnaaGreatJCzM
import Derived.Test.YtdcbhohlglncnaaGreatJClone
import Derived.Test.YtdcbhohlglncnaaGreatJMath
import Derived.Test.YtdcbhohlglncnaaGreatRows
import Derived.WalkSpells
import Derived.WalkLawsBesides
import Derived.RegionTactic
import Derived.BigRegion
import Derived.BigQuiet
import Derived.Deep.QuietTactic
/- impl.openZone, impl.CheckZone by their contracts. -/
namespace Go.Proofs.YtdcbhohlglncnaaGreat
open Go.RowKit
set_option linter.unusedVariables false
/-- The builder as openZone and BuildZone make it, and what build leaves. -/
theorem built_any (bb : Nat) (la : Option Addr) (lc : Nat) (list : List Rr) (apex : ByteArray) (w : World) (hk : Blk w bb #[.slice la list.length lc, .string apex, .slice none 0 0, .slice none 0 0, .pointer none, .slice none 0 0] 132) (h : w.ownsRow 0 90 5 (.slice la list.length lc) list.length (rvVs list)) (ha : apex.size ≤ 1000000000) (ho : ∀ r ∈ list, r.own.size ≤ 1000000000 ∧ r.da.size ≤ 2000000) :
 Calls Tryz.prog 77 #[.pointer (some ⟨bb, 0, none⟩)] w fun e w' => e = rsV (bldE list apex).1 (bldE list apex).2 ∧ Outs [bb] w w' ∧ ((bldE list apex).1 = 0 → ∃ th ys aa ac labv rv os kv ks B, P3 list apex bb (.slice la list.length lc) th ys aa ac labv rv os kv ks B w') :=
 build_any bb la lc list apex w hk (CRow.of_owns h) (fun _ e => own_nb h hk (by decide) (by have := rowBlk_own h e; simpa using this)) (fun _ b hb => own_lt h b (rowBlk_own h hb)) (by unfold maxLen; omega) ho
theorem outs_low {fp : List Nat} {B : Nat} {w w' : World} (h : Outs fp w w') (hB : B ≤ w.heap.size) (hf : ∀ b ∈ fp, B ≤ b) : Below B w w' :=
 ⟨h.os, h.tape, h.output, h.size, fun k hk => h.block k (by omega) (fun hm => by have := hf k hm; omega)⟩
theorem outs_six {w : World} {b : Nat} {x0 x1 x2 x3 x4 x5 : Value} : Outs [b] w ((((((w.setCell ⟨b, 0, none⟩ x0).setCell ⟨b, 1, none⟩ x1).setCell ⟨b, 2, none⟩ x2).setCell ⟨b, 3, none⟩ x3).setCell ⟨b, 4, none⟩ x4).setCell ⟨b, 5, none⟩ x5) := by
 have t : ∀ {A C : World} {i : Nat} {x : Value}, Outs [b] A C → Outs [b] A (C.setCell ⟨b, i, none⟩ x) := fun h => h.trans outs_set (fun k hk => .inl hk)
 exact t (t (t (t (t outs_set))))
theorem own_six {w : World} {B b n : Nat} {v : Value} {cs : Array Value} {xs : List Value} {x0 x1 x2 x3 x4 x5 : Value} (h : w.ownsRow B 90 5 v n xs) (k : Blk w b cs 132) : ((((((w.setCell ⟨b, 0, none⟩ x0).setCell ⟨b, 1, none⟩ x1).setCell ⟨b, 2, none⟩ x2).setCell ⟨b, 3, none⟩ x3).setCell ⟨b, 4, none⟩ x4).setCell ⟨b, 5, none⟩ x5).ownsRow B 90 5 v n xs :=
 own_outs h outs_six (fun c hc hm => own_nb h k (by decide) (by rw [← List.mem_singleton.1 hc]; simpa using hm))
theorem zone_field (x : ByteArray) (a : Option Addr) (n c : Nat) (W : World) : (Instr.field 28 (.agg #[.string x, .slice a n c]) 1).run Tryz.prog W = .ok (.slice a n c) W := by kernel_rfl
/-- What openZone leaves. -/
def OzPost (ps : List Zp) (o : ByteArray) (w : World) (e : Ending) (w' : World) : Prop := Below w.heap.size w w' ∧
 ((zOK ps o = false ∧ e = .returned (.tuple #[.pointer none, .bool false])) ∨
 (zOK ps o = true ∧ ∃ bb lv th ys aa ac labv rv os kv ks B, e = .returned (.tuple #[.pointer (some ⟨bb, 3, none⟩), .bool true]) ∧ P3 (zoneRecs ps) o bb lv th ys aa ac labv rv os kv ks B w'))
set_option maxRecDepth 100000 in
set_option maxHeartbeats 3200000 in
theorem openZone_any (o : ByteArray) (v : Value) (ps : List Zp) (w : World) (h : ZRow w v ps) (hs : zsum ps ≤ 1048576) (hf : ∀ p ∈ ps, p.1.own.size ≤ 1048576 ∧ ∀ x ∈ p.1.da, x.size ≤ 1048576) (ha : o.size ≤ 1000000000) :
 Calls Tryz.prog 47 #[.agg #[.string o, v]] w (OzPost ps o w) := by
 have k0 := blk_new w #[.string o, v] 28
 have b0 := (Below.refl w.heap.size w).alloc (Nat.le_refl _) (.cells #[.string o, v] 28)
 have hzr := fun W (hW : Below w.heap.size w W) => implZoneRecords_any o v ps W (h.below hW) hs (fun p hp => (hf p hp).2)
 have hrf := recs_fit hf
 have hbt := fun bb la lc W hk hr => built_any bb la lc (zoneRecs ps) o W hk hr ha (fun r hr => by have := hrf r hr; exact ⟨by omega, by omega⟩)
 have HZ : Hid (∀ bb lv th ys aa ac labv rv os kv ks B W, P3 (zoneRecs ps) o bb lv th ys aa ac labv rv os kv ks B W → Calls Tryz.prog 50 #[.pointer (some ⟨bb, 3, none⟩), .string o] W fun e W' => ∃ v qs, e = .returned (.agg #[.string o, v]) ∧ qs.map (·.1) = bldZ (zoneRecs ps) ∧ ZOwn W' W.heap.size v qs ∧ Below W.heap.size W W') := by
  intro bb lv th ys aa ac labv rv os kv ks B W hP
  have hl5 := hP.hl
  have hol := hP.st.inv.len.1
  rw [List.length_map] at hol
  rw [zone_eq hP.st.inv hP.good.1 hP.mix]
  exact zone_any bb 3 th rv os B o W hP.st.tr (hP.st.inv.trs (by rw [List.length_map]; omega)) (by omega) hP.st.lab ((blk_cell hP.kb 4).trans rfl) ha
 have hzv : ∃ va vc, v = .slice va ps.length vc := by obtain ⟨⟨_, a, c, e, _⟩, _⟩ := h; exact ⟨a, c, e⟩
 obtain ⟨va, vc, rfl⟩ := hzv
 have HH := Nm.hide (And.intro h (And.intro hzr hbt))
 obtain ⟨E, hE⟩ : ∃ E, E = bldE (zoneRecs ps) o := ⟨_, rfl⟩
 have HE := Nm.hide hE
 clear h hzr hbt hrf hf hE
 go_enter Tryz.func47, Tryz.ntmps47
 go_upto_region 1 with fail
 go_cut [4] from 7 to 11 (fun p wx => ∃ (bb : Nat) (la : Option Addr) (lc : Nat), p = .pointer (some ⟨bb, 0, none⟩) ∧ w.heap.size < bb ∧ Blk wx bb #[.slice la (zoneRecs ps).length lc, .string o, .slice none 0 0, .slice none 0 0, .pointer none, .slice none 0 0] 132 ∧ wx.ownsRow 0 90 5 (.slice la (zoneRecs ps).length lc) (zoneRecs ps).length (rvVs (zoneRecs ps)) ∧ Below w.heap.size w wx ∧ Blk wx w.heap.size #[.string o, .slice va ps.length vc] 28)
 case first =>
  have hd : Below w.heap.size w (w.alloc (.cells #[.string o, .slice va ps.length vc] 28)).drew := b0.drew
  have kS : Hid (∀ X, Below (w.heap.size + 1) (w.alloc (.cells #[.string o, .slice va ps.length vc] 28)) X → X.cell? ⟨w.heap.size, 0, none⟩ = some (.string o) ∧ X.cell? ⟨w.heap.size, 1, none⟩ = some (.slice va ps.length vc)) := by
   intro X hX
   have kx := blk_below k0 (by simpa using hX)
   exact ⟨(blk_cell kx 0).trans rfl, (blk_cell kx 1).trans rfl⟩
  have e0 : Below (w.heap.size + 1) (w.alloc (.cells #[.string o, .slice va ps.length vc] 28)) (w.alloc (.cells #[.string o, .slice va ps.length vc] 28)).drew := (Below.refl _ _).drew
  refine wp_region_last (fun X => X.cell? ⟨w.heap.size, 0, none⟩ = some (.string o) ∧ X.cell? ⟨w.heap.size, 1, none⟩ = some (.slice va ps.length vc)) 1000 (by kernel_rfl) (kS.out _ e0) (fun hHeld => ?_)
  refine wpAnyL_take (i := 0) (v := ?_) rfl (by kernel_rfl) (by kernel_rfl) (by kernel_rfl) (by kernel_rfl) (fun _ _ _ h => h) (Or.inl ⟨by rfl, ?_⟩) (by assumption) ?_
  rotate_left 1
  · (intro W hSW; obtain ⟨z0, z1⟩ := hSW; go_simp; try (with_reducible rfl))
  refine wpAnyL_take (i := 2) (v := ?_) rfl (by kernel_rfl) (by kernel_rfl) (by kernel_rfl) (by kernel_rfl) (fun _ _ _ h => h) (Or.inl ⟨by rfl, ?_⟩) (by assumption) ?_
  rotate_left 1
  · (intro W hSW; obtain ⟨z0, z1⟩ := hSW; go_simp; try (with_reducible rfl))
  refine wpAnyL_take (i := 3) (v := ?_) rfl (by kernel_rfl) (by kernel_rfl) (by kernel_rfl) (by kernel_rfl) (fun _ _ _ h => h) (Or.inl ⟨by rfl, ?_⟩) (by assumption) ?_
  rotate_left 1
  · (intro W hSW; obtain ⟨z0, z1⟩ := hSW; go_simp; try (with_reducible rfl))
  refine wpAnyL_two (i := 1) (j := 5) (by kernel_rfl) rfl rfl (fun K hK => ?_) (fun K hK => ?_)
  · go_simp
    refine (HH.out.2.1 _ hd).mono ?_
    rintro e w1 ⟨u, rfl, hown, b1⟩
    obtain ⟨la, lc, rfl⟩ := own_sl hown
    have hs1 : w.heap.size + 1 ≤ w1.heap.size := by have := b1.size; simpa [World.drew] using this
    have e1 : Below (w.heap.size + 1) (w.alloc (.cells #[.string o, .slice va ps.length vc] 28)) w1 := e0.trans (b1.mono (by show w.heap.size + 1 ≤ (w.alloc _).heap.size; simp))
    have bw1 : Below w.heap.size w w1 := Nm.below_two b0 (by simpa using e1)
    go_wp2_with fail
    refine hK.out _ _ (kS.out _ e1) (fun hHeld => ?_)
    clear hK K
    refine wpAnyL_take (i := 4) (v := ?_) rfl (by kernel_rfl) (by kernel_rfl) (by kernel_rfl) (by kernel_rfl) (fun _ _ _ h => h) (Or.inl ⟨by rfl, ?_⟩) (by assumption) ?_
    rotate_left 1
    · (intro W hSW; obtain ⟨z0, z1⟩ := hSW; go_simp; try (with_reducible rfl))
    refine wpAnyL_one (i := 5) (by kernel_rfl) rfl (fun K hK => ?_)
    go_simp
    have bz := (Below.refl w1.heap.size w1).alloc (Nat.le_refl _) (.cells #[.slice none 0 0, .string ⟨#[]⟩, .slice none 0 0, .slice none 0 0, .pointer none, .slice none 0 0] 132)
    have kz := blk_new w1 #[.slice none 0 0, .string ⟨#[]⟩, .slice none 0 0, .slice none 0 0, .pointer none, .slice none 0 0] 132
    have rz := fun i => blk_cell kz i
    have fz := fun i => blk_frozen kz i
    refine hK.out _ _ (kS.out _ (e1.trans (bz.mono hs1))) (fun hHeld => ?_)
    clear hK K
    refine wpAnyL_one (i := 6) (by kernel_rfl) rfl (fun K hK => ?_)
    go_simp
    have bn := (Below.refl w1.heap.size w1).alloc (Nat.le_refl _) (.cells #[.slice la (zoneRecs ps).length lc, .string o, .slice none 0 0, .slice none 0 0, .pointer none, .slice none 0 0] 132)
    have kn := blk_new w1 #[.slice la (zoneRecs ps).length lc, .string o, .slice none 0 0, .slice none 0 0, .pointer none, .slice none 0 0] 132
    have en := e1.trans (bn.mono hs1)
    refine hK.out _ _ (kS.out _ en) (fun hHeld => ?_)
    clear hK K
    refine wpAnyL_done (by kernel_rfl) ?_
    go_wp2_with fail
    go_meet
    case rel => exact ⟨w1.heap.size, la, lc, rfl, by omega, kn, own_base (own_below hown bn) (Nat.zero_le _), Nm.below_two bw1 bn, blk_below k0 (by simpa using en)⟩
  · go_simp
    have kz0 := blk_new (w.alloc (.cells #[.string o, .slice va ps.length vc] 28)) #[.slice none 0 0, .string ⟨#[]⟩, .slice none 0 0, .slice none 0 0, .pointer none, .slice none 0 0] 132
    rw [World.size_alloc] at kz0
    have kz := blk_drew kz0
    have bA : Below (w.heap.size + 1) (w.alloc (.cells #[.string o, .slice va ps.length vc] 28)) ((w.alloc (.cells #[.string o, .slice va ps.length vc] 28)).alloc (.cells #[.slice none 0 0, .string ⟨#[]⟩, .slice none 0 0, .slice none 0 0, .pointer none, .slice none 0 0] 132)).drew := ((Below.refl _ _).alloc (by simp) _).drew
    have bA' : Below w.heap.size w ((w.alloc (.cells #[.string o, .slice va ps.length vc] 28)).alloc (.cells #[.slice none 0 0, .string ⟨#[]⟩, .slice none 0 0, .slice none 0 0, .pointer none, .slice none 0 0] 132)).drew := Nm.below_two b0 (by simpa using bA)
    have hsA : ((w.alloc (.cells #[.string o, .slice va ps.length vc] 28)).alloc (.cells #[.slice none 0 0, .string ⟨#[]⟩, .slice none 0 0, .slice none 0 0, .pointer none, .slice none 0 0] 132)).drew.heap.size = w.heap.size + 2 := by
     show ((w.alloc _).alloc _).heap.size = _
     simp
    have HSA := Nm.hide hsA
    clear kz0 hsA
    refine hK.out _ _ (kS.out _ bA) (fun hHeld => ?_)
    clear hK K
    refine wpAnyL_one (i := 1) (by kernel_rfl) rfl (fun K hK => ?_)
    go_simp
    refine (HH.out.2.1 _ bA').mono ?_
    rintro e w1 ⟨u, rfl, hown, b1⟩
    obtain ⟨la, lc, rfl⟩ := own_sl hown
    have hs1 : w.heap.size + 2 ≤ w1.heap.size := by have := b1.size; have := HSA.out; omega
    have e1 : Below (w.heap.size + 1) (w.alloc (.cells #[.string o, .slice va ps.length vc] 28)) w1 := bA.trans (b1.mono (by have := HSA.out; omega))
    have bw1 : Below w.heap.size w w1 := Nm.below_two b0 (by simpa using e1)
    have kz1 := blk_below kz b1
    have HOW := Nm.hide hown
    clear hown kz b1
    go_wp2_with fail
    refine hK.out _ _ (kS.out _ e1) (fun hHeld => ?_)
    clear hK K
    refine wpAnyL_take (i := 4) (v := ?_) rfl (by kernel_rfl) (by kernel_rfl) (by kernel_rfl) (by kernel_rfl) (fun _ _ _ h => h) (Or.inl ⟨by rfl, ?_⟩) (by assumption) ?_
    rotate_left 1
    · (intro W hSW; obtain ⟨z0, z1⟩ := hSW; go_simp; try (with_reducible rfl))
    refine wpAnyL_one (i := 6) (by kernel_rfl) rfl (fun K hK => ?_)
    have rz := fun i => blk_cell kz1 i
    have fz := fun i => blk_frozen kz1 i
    go_simp
    have kn := blk_set (blk_set (blk_set (blk_set (blk_set (blk_set kz1 0 (.slice la (zoneRecs ps).length lc)) 1 (.string o)) 2 (.slice none 0 0)) 3 (.slice none 0 0)) 4 (.pointer none)) 5 (.slice none 0 0)
    simp only [List.setIfInBounds_toArray, List.set_cons_zero, List.set_cons_succ] at kn
    have on := own_six (v := .slice la (zoneRecs ps).length lc) (x0 := .slice la (zoneRecs ps).length lc) (x1 := .string o) (x2 := .slice none 0 0) (x3 := .slice none 0 0) (x4 := .pointer none) (x5 := .slice none 0 0) HOW.out kz1
    have oo : Outs [w.heap.size + 1] w1 ((((((w1.setCell ⟨w.heap.size + 1, 0, none⟩ (.slice la (zoneRecs ps).length lc)).setCell ⟨w.heap.size + 1, 1, none⟩ (.string o)).setCell ⟨w.heap.size + 1, 2, none⟩ (.slice none 0 0)).setCell ⟨w.heap.size + 1, 3, none⟩ (.slice none 0 0)).setCell ⟨w.heap.size + 1, 4, none⟩ (.pointer none)).setCell ⟨w.heap.size + 1, 5, none⟩ (.slice none 0 0)) := outs_six
    have en := e1.trans (outs_low oo (by omega) (fun b hb => by rw [List.mem_singleton.1 hb]; exact Nat.le_refl _))
    clear rz fz kz1
    refine hK.out _ _ (kS.out _ en) (fun hHeld => ?_)
    clear hK K
    refine wpAnyL_done (by kernel_rfl) ?_
    go_wp2_with fail
    go_meet
    case rel => exact ⟨w.heap.size + 1, la, lc, rfl, by omega, kn, own_base on (Nat.zero_le _), Nm.below_two b0 (by simpa using en), blk_below k0 (by simpa using en)⟩
 case rest =>
  obtain ⟨bb, la, lc, rfl, hbb, kb, hown, bwc, kZ⟩ := hcut
  have hbd := HH.out.2.2 bb la lc wc kb hown
  unfold rsV at hbd
  rw [← HE.out] at hbd
  obtain ⟨C, I⟩ := E
  simp only at hbd
  have HB := Nm.hide (And.intro hbb bwc)
  clear hown kb bwc hbb k0 b0
  by_cases hC : C = 0
  · subst hC
    go_wp2_with fail
    refine hbd.mono ?_
    rintro e w2 ⟨rfl, hou, hp⟩
    obtain ⟨th, ys, aa, ac, labv, rv, os, kv, ks, B, hP⟩ := hp trivial
    have kZ2 := blk_outs kZ hou (fun hm => by have := List.mem_singleton.1 hm; have := HB.out.1; omega)
    have b2 : Below w.heap.size w w2 := HB.out.2.trans (outs_low hou HB.out.2.size (fun b hb => by rw [List.mem_singleton.1 hb]; have := HB.out.1; omega))
    have HP := Nm.hide (And.intro hP b2)
    clear hbd hou hp hP b2 kZ
    go_wp2_with fail
    have kS : Hid (∀ X, Below w2.heap.size w2 X → X.cell? ⟨w.heap.size, 0, none⟩ = some (.string o) ∧ X.cell? ⟨w.heap.size, 1, none⟩ = some (.slice va ps.length vc)) := by
     intro X hX
     have kx := blk_below kZ2 hX
     exact ⟨(blk_cell kx 0).trans rfl, (blk_cell kx 1).trans rfl⟩
    have bd := (Below.refl w2.heap.size w2).drew
    clear kZ2
    go_cut [26] from 18 to 26 (fun p wx => p = .bool (!eqZs (bldZ (zoneRecs ps)) (ps.map (·.1))) ∧ Below w2.heap.size w2 wx)
    case first =>
     refine wp_region_last (fun X => X.cell? ⟨w.heap.size, 0, none⟩ = some (.string o) ∧ X.cell? ⟨w.heap.size, 1, none⟩ = some (.slice va ps.length vc)) 1000 (by kernel_rfl) (kS.out _ bd) (fun hHeld => ?_)
     refine wpAnyL_take (i := 0) (v := ?_) rfl (by kernel_rfl) (by kernel_rfl) (by kernel_rfl) (by kernel_rfl) (fun _ _ _ h => h) (Or.inl ⟨by rfl, ?_⟩) (by assumption) ?_
     rotate_left 1
     · (intro W hSW; obtain ⟨z0, z1⟩ := hSW; go_simp; try (with_reducible rfl))
     refine wpAnyL_take (i := 1) (v := ?_) rfl (by kernel_rfl) (by kernel_rfl) (by kernel_rfl) (by kernel_rfl) (fun _ _ _ h => h) (Or.inl ⟨by rfl, ?_⟩) (by assumption) ?_
     rotate_left 1
     · (intro W hSW; obtain ⟨z0, z1⟩ := hSW; go_simp; try (with_reducible rfl))
     refine wpAnyL_take (i := 2) (v := ?_) rfl (by kernel_rfl) (by kernel_rfl) (by kernel_rfl) (by kernel_rfl) (fun _ _ _ h => h) (Or.inl ⟨by rfl, ?_⟩) (by assumption) ?_
     rotate_left 1
     · (intro W hSW; obtain ⟨z0, z1⟩ := hSW; go_simp; try (with_reducible rfl))
     refine wpAnyL_take (i := 5) (v := ?_) rfl (by kernel_rfl) (by kernel_rfl) (by kernel_rfl) (by kernel_rfl) (fun _ _ _ h => h) (Or.inl ⟨by rfl, ?_⟩) (by assumption) ?_
     rotate_left 1
     · (intro W hSW; obtain ⟨z0, z1⟩ := hSW; go_simp; try (with_reducible rfl))
     refine wpAnyL_take (i := 6) (v := ?_) rfl (by kernel_rfl) (by kernel_rfl) (by kernel_rfl) (by kernel_rfl) (fun _ _ _ h => h) (Or.inl ⟨by rfl, ?_⟩) (by assumption) ?_
     rotate_left 1
     · (intro W hSW; obtain ⟨z0, z1⟩ := hSW; go_simp; try (with_reducible rfl))
     refine wpAnyL_one (i := 3) (by kernel_rfl) rfl (fun K hK => ?_)
     go_simp
     refine (HZ.out _ _ _ _ _ _ _ _ _ _ _ _ _ (HP.out.1.below bd)).mono ?_
     rintro e w3 ⟨zv, qs, rfl, hqs, hzo, b3⟩
     obtain ⟨za, zc, rfl⟩ := own_sl hzo.outer
     have b3' := Nm.below_two bd b3
     have hfd := fun W => zone_field o za qs.length zc W
     go_wp2_with fail
     refine hK.out _ _ (kS.out _ b3') (fun hHeld => ?_)
     clear hK K
     refine wpAnyL_take (i := 4) (v := ?_) rfl (by kernel_rfl) (by kernel_rfl) (by kernel_rfl) (by kernel_rfl) (fun _ _ _ h => h) (Or.inl ⟨by rfl, ?_⟩) (by assumption) ?_
     rotate_left 1
     · (intro W hSW; obtain ⟨z0, z1⟩ := hSW; go_simp; try (with_reducible rfl))
     refine wpAnyL_one (i := 7) (by kernel_rfl) rfl (fun K hK => ?_)
     go_simp
     refine (equalSets_any _ _ qs ps _ hzo.zrow ((HH.out.1.below HP.out.2).below b3')).mono ?_
     rintro e w4 ⟨rfl, b4⟩
     rw [hqs]
     have b4' := Nm.below_two b3' b4
     go_wp2_with fail
     refine hK.out _ _ (kS.out _ b4') (fun hHeld => ?_)
     clear hK K
     refine wpAnyL_take (i := 8) (v := ?_) rfl (by kernel_rfl) (by kernel_rfl) (by kernel_rfl) (by kernel_rfl) (fun _ _ _ h => h) (Or.inl ⟨by rfl, ?_⟩) (by assumption) ?_
     rotate_left 1
     · (intro W hSW; obtain ⟨z0, z1⟩ := hSW; go_simp; try (with_reducible rfl))
     refine wpAnyL_done (by kernel_rfl) ?_
     go_wp2_with fail
     go_meet
     case rel => exact ⟨rfl, b4'⟩
    case rest =>
     obtain ⟨rfl, b5⟩ := hcut
     have hEo : (bldE (zoneRecs ps) o).1 = 0 := by rw [← HE.out]
     cases hq : eqZs (bldZ (zoneRecs ps)) (ps.map (·.1)) with
     | true =>
       have hok : zOK ps o = true := by rw [zOK, decide_eq_true hEo, hq]; rfl
       have HOK := Nm.hide hok
       clear hq hok hEo
       go_wp2
       go_ret2
       exact ⟨Nm.below_two HP.out.2 b5, .inr ⟨HOK.out, bb, _, th, ys, aa, ac, labv, rv, os, kv, ks, B, rfl, HP.out.1.below b5⟩⟩
     | false =>
       have hok : zOK ps o = false := by rw [zOK, hq, Bool.and_false]
       have HOK := Nm.hide hok
       clear hq hok hEo
       go_wp2
       go_ret2
       exact ⟨Nm.below_two HP.out.2 b5, .inl ⟨HOK.out, rfl⟩⟩
  · have n0 : (C != 0) = true := by simpa using hC
    have hok : zOK ps o = false := by rw [zOK, ← HE.out, decide_eq_false hC]; rfl
    have HOK := Nm.hide hok
    clear hC hok
    go_wp2_with fail
    refine hbd.mono ?_
    rintro e w2 ⟨rfl, hou, hp⟩
    have b2 : Below w.heap.size w w2 := HB.out.2.trans (outs_low hou HB.out.2.size (fun b hb => by rw [List.mem_singleton.1 hb]; have := HB.out.1; omega))
    clear hbd hou hp
    go_wp2
    go_ret2
    exact ⟨b2, .inl ⟨HOK.out, rfl⟩⟩
end Go.Proofs.YtdcbhohlglncnaaGreat
/- laws.eqStringS over two slices that hold the same strings. -/
namespace Go.Proofs.YtdcbhohlglncnaaGreat
open Go.RowKit
set_option maxRecDepth 100000 in
set_option maxHeartbeats 800000 in
theorem eqStringS_any (v u : Value) (ls : List ByteArray) (w : World) (h : Nm.SRow w v ls) (h' : Nm.SRow w u ls) (hlen : ls.length ≤ 1000000000) :
 Calls Tryz.prog 86 #[v, u] w fun e w' => e = .returned (.bool true) ∧ Below w.heap.size w w' := by
 obtain ⟨a, cap, rfl, hcap, hmx, hnl, hc⟩ := h
 obtain ⟨a', cap', rfl, hcap', hmx', hnl', hc'⟩ := h'
 have hne : ((ls.length : Int) != (ls.length : Int)) = false := by simp
 clear hnl hnl'
 go_enter Tryz.func86, Tryz.ntmps86
 go_wp2
 go_loopw [5] (fun i wr => ∃ k : Nat, k ≤ ls.length ∧ i = .int .i64 k ∧ Below w.heap.size w wr) (fun i _ => ls.length - (intOf i).toNat)
 case atStart => exact ⟨0, Nat.zero_le _, rfl, Below.refl _ _⟩
 case round =>
  obtain ⟨k, hk, rfl, hbel⟩ := hrel
  by_cases hlt : k < ls.length
  · obtain ⟨x, hx⟩ : ∃ x, ls[k]? = some x := ⟨_, List.getElem?_eq_getElem hlt⟩
    have hls : ls ≠ [] := by intro h; rw [h] at hlt; simp at hlt
    obtain ⟨b, off, rfl, hcell⟩ := hc hls
    obtain ⟨b', off', rfl, hcell'⟩ := hc' hls
    have hcx : wr.cell? ⟨b, off + k, none⟩ = some (.string x) := (hbel.cell (World.block_lt_of_cell? w _ (hcell k x hx))).trans (hcell k x hx)
    have hcx' : wr.cell? ⟨b', off' + k, none⟩ = some (.string x) := (hbel.cell (World.block_lt_of_cell? w _ (hcell' k x hx))).trans (hcell' k x hx)
    have hxx : (x.toList == x.toList) = true := by simp
    clear hx hcell hcell' hc hc' hls
    go_wp2
    go_region
    all_goals
     go_wp2
     go_roundw
     case rel => exact ⟨k + 1, by omega, by go_num, hbel.drew⟩
     case measure => simp [intOf]; omega
  · go_wp2
    go_ret
    exact ⟨rfl, hbel⟩
end Go.Proofs.YtdcbhohlglncnaaGreat
/- laws.szSet, szSetS, szZone by their contracts. -/
namespace Go.Proofs.YtdcbhohlglncnaaGreat
open Go.RowKit
set_option linter.unusedVariables false
set_option maxRecDepth 100000 in
set_option maxHeartbeats 800000 in
theorem szSet_any (s : Sz) (dv : Value) (L : Int) (w : World) (h : Nm.SRow w dv s.da) (h0 : 0 ≤ L) (h1 : L ≤ 1048576) (ho : s.own.size ≤ maxLen) (hd : ∀ x ∈ s.da, x.size ≤ maxLen) :
 Calls Tryz.prog 38 #[.agg #[.string s.own, .int .i64 s.ty, .int .i64 s.tt, dv], .int .i64 L] w fun e w' => e = .returned (.int .i64 (szZ1 s L)) ∧ Below w.heap.size w w' := by
 unfold maxLen at ho
 have hB := (Below.refl w.heap.size w).alloc (Nat.le_refl _) (.cells #[.string s.own, .int .i64 s.ty, .int .i64 s.tt, dv] 82)
 have hcall := fun K h0 h1 => szStringS_any dv s.da K _ (h.below hB) hd h0 h1
 obtain ⟨a, cap, rfl, _⟩ := h
 obtain ⟨o, ty, tt, da⟩ := s
 simp only at *
 by_cases hm : L - o.size < 0
 · have HS : Hid (szZ1 ⟨o, ty, tt, da⟩ L = -1) := if_neg (by simp only [zs1]; omega)
   clear hcall hd
   go_enter Tryz.func38, Tryz.ntmps38
   go_wp2
   go_ret
   rw [HS.out]
   exact ⟨rfl, hB⟩
 · have hm' : 0 ≤ L - o.size := by omega
   have hone := hcall (L - o.size) hm' (by omega)
   clear hcall hd
   by_cases hn : (da.length : Int) + (ssum da : Int) ≤ L - o.size
   · have HS : Hid (szZ1 ⟨o, ty, tt, da⟩ L = L - o.size - da.length - ssum da) := by
      show _ = _
      rw [szZ1, if_pos (by simp only [zs1]; omega)]
      simp only [zs1]; omega
     have e1 : szS da (L - o.size) = L - o.size - da.length - ssum da := if_pos hn
     have hnn : 0 ≤ L - o.size - da.length - ssum da := by omega
     rw [e1] at hone
     clear e1 hn
     generalize (L - (o.size : Int) - (da.length : Int) - (ssum da : Int)) = L2 at *
     go_enter Tryz.func38, Tryz.ntmps38
     go_wp2_with (go_at_call 62; refine hone.mono ?_; rintro e w1 ⟨rfl, rfl⟩)
     go_ret
     rw [HS.out]
     exact ⟨rfl, hB⟩
   · have HS : Hid (szZ1 ⟨o, ty, tt, da⟩ L = -1) := if_neg (by simp only [zs1]; omega)
     have e1 : szS da (L - o.size) = -1 := if_neg hn
     rw [e1] at hone
     clear e1 hn
     go_enter Tryz.func38, Tryz.ntmps38
     go_wp2_with (go_at_call 62; refine hone.mono ?_; rintro e w1 ⟨rfl, rfl⟩)
     go_ret
     rw [HS.out]
     exact ⟨rfl, hB⟩
set_option maxRecDepth 100000 in
set_option maxHeartbeats 1600000 in
theorem szSetS_any (v : Value) (ps : List Zp) (L : Int) (w : World) (h : ZRow w v ps) (hx : ZFit ps) (h0 : 0 ≤ L) (h1 : L ≤ 1048576) :
 Calls Tryz.prog 21 #[v, .int .i64 L] w fun e w' => e = .returned (.int .i64 (szZS ps L)) ∧ Below w.heap.size w w' := by
 obtain ⟨⟨_, a, cap, rfl, hcap, hmx, hc⟩, hd⟩ := h
 unfold maxLen at hmx
 by_cases hm : L < ps.length
 · have HS : Hid (szZS ps L = -1) := if_neg (by omega)
   have hm' : L - (ps.length : Int) < 0 := by omega
   clear hx hc hd
   go_enter Tryz.func21, Tryz.ntmps21
   go_wp2
   go_ret
   rw [HS.out]
   exact ⟨rfl, Below.refl _ _⟩
 · have hl : (ps.length : Int) ≤ 1048576 := by omega
   have hm' : (0 : Int) ≤ L - (ps.length : Int) := by omega
   have hsz := fun (p : Zp) (hp : p ∈ ps) (K : Int) (W : World) (hW : Below w.heap.size w W) (h0 : 0 ≤ K) (h1 : K ≤ 1048576) => szSet_any p.1 p.2 K W ((hd p hp).below hW) h0 h1 (hx p hp).1 (hx p hp).2
   clear hd
   go_enter Tryz.func21, Tryz.ntmps21
   go_wp2
   go_loopw [1, 5] (fun t i wr => ∃ k : Nat, k ≤ ps.length ∧ i = .int .i64 k ∧ t = .int .i64 (L - ps.length - zsum (ps.take k)) ∧ Hid ((ps.length : Int) + zsum (ps.take k) ≤ L) ∧ Below w.heap.size w wr) (fun _ i _ => ps.length - (intOf i).toNat)
   case atStart => exact ⟨0, Nat.zero_le _, rfl, by simp [zsum], by show _ ≤ L; simp [zsum]; omega, Below.refl _ _⟩
   case round =>
    obtain ⟨k, hk, rfl, rfl, hle, hbel⟩ := hrel
    by_cases hlt : k < ps.length
    · obtain ⟨x, hxk⟩ : ∃ x, ps[k]? = some x := ⟨_, List.getElem?_eq_getElem hlt⟩
      obtain ⟨b, off, rfl, hcell⟩ := hc (by omega)
      obtain ⟨c0, c1, c2, c3⟩ := zp_cells hcell hxk
      have put : ∀ {O : Nat} {z : Value}, w.cell? ⟨b, O, none⟩ = some z → wr.cell? ⟨b, O, none⟩ = some z := fun h => (hbel.cell (World.block_lt_of_cell? w _ h)).trans h
      replace c0 := put c0
      replace c1 := put c1
      replace c2 := put c2
      replace c3 := put c3
      have HS : Hid (zsum (ps.take (k + 1)) = zsum (ps.take k) + zs1 x.1) := zsum_step ps k x hxk
      have hs1 : Hid (zsum (ps.take (k + 1)) ≤ zsum ps) := zsum_take_le ps (k + 1)
      have hone := hsz x (List.mem_of_getElem? hxk) (L - ps.length - zsum (ps.take k)) wr hbel (by have := hle.out; omega) (by omega)
      have i1 : (0 : Int) ≤ (k : Int) := by omega
      have i2 : (k : Int) < (ps.length : Int) := by omega
      by_cases hb : (zs1 x.1 : Int) ≤ L - ps.length - zsum (ps.take k)
      · have e1 : szZ1 x.1 (L - ps.length - zsum (ps.take k)) = L - ps.length - zsum (ps.take (k + 1)) := by
         have := HS.out
         rw [szZ1, if_pos hb]; omega
        have hnn : 0 ≤ L - (ps.length : Int) - zsum (ps.take (k + 1)) := by have := HS.out; omega
        have hle2 : Hid ((ps.length : Int) + zsum (ps.take (k + 1)) ≤ L) := by show _ ≤ L; omega
        rw [e1] at hone
        clear hxk hcell hc hx hsz HS hb e1 hs1
        generalize hL2 : (L - (ps.length : Int) - (zsum (ps.take (k + 1)) : Int)) = L2 at *
        generalize (L - (ps.length : Int) - (zsum (ps.take k) : Int)) = L1 at *
        go_wp2_with (go_at_call 38; refine hone.mono ?_; rintro e w1 ⟨rfl, hb1⟩)
        go_roundw
        case rel => exact ⟨k + 1, by omega, by go_num, by rw [hL2], hle2, Nm.below_two hbel hb1⟩
        case measure => simp [intOf]; omega
      · have HZ : Hid (szZS ps L = -1) := if_neg (by have := HS.out; have := hs1.out; omega)
        have e1 : szZ1 x.1 (L - ps.length - zsum (ps.take k)) = -1 := if_neg hb
        rw [e1] at hone
        clear hxk hcell hc hx hsz HS hb e1 hs1
        generalize (L - (ps.length : Int) - (zsum (ps.take k) : Int)) = L1 at *
        go_wp2_with (go_at_call 38; refine hone.mono ?_; rintro e w1 ⟨rfl, hb1⟩)
        go_ret
        rw [HZ.out]
        exact ⟨rfl, Nm.below_two hbel hb1⟩
    · have hkl : k = ps.length := by omega
      have HZ : Hid (szZS ps L = L - ps.length - zsum (ps.take k)) := by
       have := hle.out
       rw [hkl, List.take_length] at this ⊢
       exact if_pos this
      have i2 : (ps.length : Int) ≤ (k : Int) := by omega
      clear hc hx hsz
      generalize (L - (ps.length : Int) - (zsum (ps.take k) : Int)) = L1 at *
      go_wp2
      go_ret
      rw [HZ.out]
      exact ⟨rfl, hbel⟩
set_option maxRecDepth 100000 in
set_option maxHeartbeats 1600000 in
theorem szZone_any (o : ByteArray) (v : Value) (ps : List Zp) (L : Int) (w : World) (h : ZRow w v ps) (hx : ZFit ps) (ho : o.size ≤ maxLen) (h0 : 0 ≤ L) (h1 : L ≤ 1048576) :
 Calls Tryz.prog 5 #[.agg #[.string o, v], .int .i64 L] w fun e w' => e = .returned (.int .i64 (szZ o ps L)) ∧ Below w.heap.size w w' := by
 unfold maxLen at ho
 have hB := (Below.refl w.heap.size w).alloc (Nat.le_refl _) (.cells #[.string o, v] 24)
 have hcall := fun K h0 h1 => szSetS_any v ps K _ (h.below hB) hx h0 h1
 obtain ⟨⟨_, a, cap, rfl, _⟩, _⟩ := h
 clear hx
 by_cases hm : L - o.size < 0
 · have HS : Hid (szZ o ps L = -1) := if_neg (by omega)
   clear hcall
   go_enter Tryz.func5, Tryz.ntmps5
   go_wp2
   go_ret
   rw [HS.out]
   exact ⟨rfl, hB⟩
 · have hm' : 0 ≤ L - o.size := by omega
   have hone := hcall (L - o.size) hm' (by omega)
   clear hcall
   by_cases hn : (ps.length : Int) + (zsum ps : Int) ≤ L - o.size
   · have HS : Hid (szZ o ps L = L - o.size - ps.length - zsum ps) := if_pos (by omega)
     have e1 : szZS ps (L - o.size) = L - o.size - ps.length - zsum ps := if_pos hn
     have hnn : 0 ≤ L - o.size - ps.length - zsum ps := by omega
     rw [e1] at hone
     clear e1 hn
     generalize (L - (o.size : Int) - (ps.length : Int) - (zsum ps : Int)) = L2 at *
     go_enter Tryz.func5, Tryz.ntmps5
     go_wp2_with (go_at_call 21; refine hone.mono ?_; rintro e w1 ⟨rfl, hb1⟩)
     go_ret
     rw [HS.out]
     exact ⟨rfl, Nm.below_two hB hb1⟩
   · have HS : Hid (szZ o ps L = -1) := if_neg (by omega)
     have e1 : szZS ps (L - o.size) = -1 := if_neg hn
     rw [e1] at hone
     clear e1 hn
     go_enter Tryz.func5, Tryz.ntmps5
     go_wp2_with (go_at_call 21; refine hone.mono ?_; rintro e w1 ⟨rfl, hb1⟩)
     go_ret
     rw [HS.out]
     exact ⟨rfl, Nm.below_two hB hb1⟩
end Go.Proofs.YtdcbhohlglncnaaGreat
