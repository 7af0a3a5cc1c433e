import Derived.Test.YtmaopfagkffccaaGreatJPtM
import Derived.Test.YtmaopfagkffccaaGreatJTkI
import Derived.Test.YtmaopfagkffccaaGreatCrM
import Derived.Test.YtmaopfagkffccaaGreatJMvM
/- spec.l13CopyMessage by its contract. -/
namespace Go.Proofs.YtmaopfagkffccaaGreat
open Go.RowKit
set_option linter.unusedVariables false

theorem Tryz.infoQuC : (Tryz.prog.info? 63).map (fun i => (i.zero, i.size, i.bytes)) = some (some (.agg #[.string ByteArray.empty, .int .i64 0, .int .i64 0]), 3, 32) := by kernel_rfl

/-- What is copied so far. -/
structure Cps (w0 w : World) (g : Nat) (m : Mg) (h : Hr) (q a u x : Value) (mc : Array Value) : Prop where
  ob : Blk w (g + 1 + 1) (mgV h q a u x) 33
  mb : Blk w g mc 33
  zb : Blk w (g + 1) #[.int .i64 0, .bool false, .int .i64 0, .bool false, .bool false, .bool false, .bool false, .bool false, .bool false, .bool false, .int .i64 0, .slice none 0 0, .slice none 0 0, .slice none 0 0, .slice none 0 0] 33
  own : MOwn w g m q a u x
  be : Below g w0 w

theorem Cps.below {w0 w w' : World} {g : Nat} {m : Mg} {h : Hr} {q a u x : Value} {mc : Array Value} (c : Cps w0 w g m h q a u x mc) (hb : Below w.heap.size w w') (hg : g ≤ w.heap.size) : Cps w0 w' g m h q a u x mc :=
  ⟨blk_below c.ob hb, blk_below c.mb hb, blk_below c.zb hb, c.own.below hb, c.be.trans (hb.mono hg)⟩

/-- A row grows beside the three blocks. -/
theorem Cps.grow {w0 w w' : World} {g n : Nat} {m : Mg} {h : Hr} {q a u x : Value} {mc : Array Value} {xs : List Value} (c : Cps w0 w g m h q a u x mc) (ho : w.ownsRow g 63 3 q n xs) (hg : w.grownBy w' q.ownBlock) (hw : g ≤ w.heap.size) :
    Blk w' (g + 1 + 1) (mgV h q a u x) 33 ∧ Blk w' g mc 33 ∧ Blk w' (g + 1) #[.int .i64 0, .bool false, .int .i64 0, .bool false, .bool false, .bool false, .bool false, .bool false, .bool false, .bool false, .int .i64 0, .slice none 0 0, .slice none 0 0, .slice none 0 0, .slice none 0 0] 33 ∧ Below g w0 w' :=
  ⟨blk_grown c.ob hg (own_blk ho c.ob (by decide)), blk_grown c.mb hg (own_blk ho c.mb (by decide)), blk_grown c.zb hg (own_blk ho c.zb (by decide)), c.be.grown hg hw (fun k hk => (ho.lt k hk).1)⟩
theorem Cps.qs {w0 w : World} {g : Nat} {m : Mg} {h : Hr} {q a u x q' : Value} {mc : Array Value} {ys : List Qr} (c : Cps w0 w g m h q a u x mc) (ho : w.ownsRow g 63 3 q' ys.length (qvVs ys)) : Cps w0 (w.setCell ⟨g + 1 + 1, 11, none⟩ q') g ⟨m.hd, ys, m.an, m.au, m.ex⟩ h q' a u x mc :=
  ⟨blk_set c.ob 11 q', blk_far c.mb (by omega), blk_far c.zb (by omega), ⟨own_far ho (own_blk ho c.ob (by decide)), own_far c.own.ra (own_blk c.own.ra c.ob (by decide)), own_far c.own.ru (own_blk c.own.ru c.ob (by decide)), own_far c.own.rx (own_blk c.own.rx c.ob (by decide))⟩, c.be.setCell (Nat.le_add_right g 2) _⟩
theorem Cps.an {w0 w : World} {g : Nat} {m : Mg} {h : Hr} {q a u x a' : Value} {mc : Array Value} {ys : List Rr} (c : Cps w0 w g m h q a u x mc) (ho : w.ownsRow g 72 5 a' ys.length (rvVs ys)) : Cps w0 (w.setCell ⟨g + 1 + 1, 12, none⟩ a') g ⟨m.hd, m.qs, ys, m.au, m.ex⟩ h q a' u x mc :=
  ⟨blk_set c.ob 12 a', blk_far c.mb (by omega), blk_far c.zb (by omega), ⟨own_far c.own.rq (own_blk c.own.rq c.ob (by decide)), own_far ho (own_blk ho c.ob (by decide)), own_far c.own.ru (own_blk c.own.ru c.ob (by decide)), own_far c.own.rx (own_blk c.own.rx c.ob (by decide))⟩, c.be.setCell (Nat.le_add_right g 2) _⟩
theorem Cps.au {w0 w : World} {g : Nat} {m : Mg} {h : Hr} {q a u x u' : Value} {mc : Array Value} {ys : List Rr} (c : Cps w0 w g m h q a u x mc) (ho : w.ownsRow g 72 5 u' ys.length (rvVs ys)) : Cps w0 (w.setCell ⟨g + 1 + 1, 13, none⟩ u') g ⟨m.hd, m.qs, m.an, ys, m.ex⟩ h q a u' x mc :=
  ⟨blk_set c.ob 13 u', blk_far c.mb (by omega), blk_far c.zb (by omega), ⟨own_far c.own.rq (own_blk c.own.rq c.ob (by decide)), own_far c.own.ra (own_blk c.own.ra c.ob (by decide)), own_far ho (own_blk ho c.ob (by decide)), own_far c.own.rx (own_blk c.own.rx c.ob (by decide))⟩, c.be.setCell (Nat.le_add_right g 2) _⟩
theorem Cps.ex {w0 w : World} {g : Nat} {m : Mg} {h : Hr} {q a u x x' : Value} {mc : Array Value} {ys : List Rr} (c : Cps w0 w g m h q a u x mc) (ho : w.ownsRow g 72 5 x' ys.length (rvVs ys)) : Cps w0 (w.setCell ⟨g + 1 + 1, 14, none⟩ x') g ⟨m.hd, m.qs, m.an, m.au, ys⟩ h q a u x' mc :=
  ⟨blk_set c.ob 14 x', blk_far c.mb (by omega), blk_far c.zb (by omega), ⟨own_far c.own.rq (own_blk c.own.rq c.ob (by decide)), own_far c.own.ra (own_blk c.own.ra c.ob (by decide)), own_far c.own.ru (own_blk c.own.ru c.ob (by decide)), own_far ho (own_blk ho c.ob (by decide))⟩, c.be.setCell (Nat.le_add_right g 2) _⟩

set_option maxRecDepth 100000 in
set_option maxHeartbeats 3200000 in
theorem l13CopyMessage_any (m : Mg) (q a u x : Value) (w : World) (h : MRow w m q a u x) (hs : MSmall m) :
    Calls Tryz.prog 15 #[.agg (mgV m.hd q a u x)] w fun e w' => ∃ q' a' u' x', e = .returned (.agg (mgV m.hd q' a' u' x')) ∧ MOwn w' w.heap.size m q' a' u' x' ∧ Below w.heap.size w w' := by
  obtain ⟨_, _, _, _, l1, l2, l3, l4⟩ := hs
  obtain ⟨j0, hj, k0, k1, k2⟩ := info_parts Tryz.infoQuC
  have hB0 := (Below.refl w.heap.size w).alloc (Nat.le_refl _) (.cells (mgV m.hd q a u x) 33)
  have hB1 := hB0.alloc hB0.size (.cells #[.int .i64 0, .bool false, .int .i64 0, .bool false, .bool false, .bool false, .bool false, .bool false, .bool false, .bool false, .int .i64 0, .slice none 0 0, .slice none 0 0, .slice none 0 0, .slice none 0 0] 33)
  have hB2 := hB1.alloc hB1.size (.cells #[.int .i64 0, .bool false, .int .i64 0, .bool false, .bool false, .bool false, .bool false, .bool false, .bool false, .bool false, .int .i64 0, .slice none 0 0, .slice none 0 0, .slice none 0 0, .slice none 0 0] 33)
  have kM := blk_alloc (blk_alloc (blk_new w (mgV m.hd q a u x) 33) (.cells #[.int .i64 0, .bool false, .int .i64 0, .bool false, .bool false, .bool false, .bool false, .bool false, .bool false, .bool false, .int .i64 0, .slice none 0 0, .slice none 0 0, .slice none 0 0, .slice none 0 0] 33)) (.cells #[.int .i64 0, .bool false, .int .i64 0, .bool false, .bool false, .bool false, .bool false, .bool false, .bool false, .bool false, .int .i64 0, .slice none 0 0, .slice none 0 0, .slice none 0 0, .slice none 0 0] 33)
  have kM0 := blk_alloc (blk_new w (mgV m.hd q a u x) 33) (.cells #[.int .i64 0, .bool false, .int .i64 0, .bool false, .bool false, .bool false, .bool false, .bool false, .bool false, .bool false, .int .i64 0, .slice none 0 0, .slice none 0 0, .slice none 0 0, .slice none 0 0] 33)
  have kZ := blk_alloc (blk_new (w.alloc (.cells (mgV m.hd q a u x) 33)) #[.int .i64 0, .bool false, .int .i64 0, .bool false, .bool false, .bool false, .bool false, .bool false, .bool false, .bool false, .int .i64 0, .slice none 0 0, .slice none 0 0, .slice none 0 0, .slice none 0 0] 33) (.cells #[.int .i64 0, .bool false, .int .i64 0, .bool false, .bool false, .bool false, .bool false, .bool false, .bool false, .bool false, .int .i64 0, .slice none 0 0, .slice none 0 0, .slice none 0 0, .slice none 0 0] 33)
  have kO := blk_new ((w.alloc (.cells (mgV m.hd q a u x) 33)).alloc (.cells #[.int .i64 0, .bool false, .int .i64 0, .bool false, .bool false, .bool false, .bool false, .bool false, .bool false, .bool false, .int .i64 0, .slice none 0 0, .slice none 0 0, .slice none 0 0, .slice none 0 0] 33)) #[.int .i64 0, .bool false, .int .i64 0, .bool false, .bool false, .bool false, .bool false, .bool false, .bool false, .bool false, .int .i64 0, .slice none 0 0, .slice none 0 0, .slice none 0 0, .slice none 0 0] 33
  rw [World.size_alloc] at kZ
  rw [World.size_alloc, World.size_alloc] at kO
  have hq := fun W (hW : Below w.heap.size w W) => h.rq.below hW
  have ha := fun W (hW : Below w.heap.size w W) => h.ra.below hW
  have hu := fun W (hW : Below w.heap.size w W) => h.ru.below hW
  have hx := fun W (hW : Below w.heap.size w W) => h.rx.below hW
  obtain ⟨_, qa, qc, rfl, _⟩ := h.rq
  obtain ⟨_, aa, ac, rfl, _⟩ := h.ra
  obtain ⟨_, ua, uc, rfl, _⟩ := h.ru
  obtain ⟨_, xa, xc, rfl, _⟩ := h.rx
  clear h
  obtain ⟨⟨i0, b1, i2, b3, b4, b5, b6, b7, b8, b9, i10⟩, qs, an, au, ex⟩ := m
  simp only [mgV] at *
  have rr := fun i => blk_cell kM0 i
  go_enter Tryz.func15, Tryz.ntmps15
  go_wp2_with (refine wpList_store_blk (.tmp 3) (.tmp 7) 33 rfl rfl rfl (w.heap.size + 1 + 1) _ _ kO rfl rfl (by kernel_rfl) rfl (by kernel_rfl) ?_; intro w3 k3 o3)
  have kM3 := o3.blk kM (by omega)
  have kZ3 := o3.blk kZ (by omega)
  have hB3 := o3.below hB2 (by omega) hB2.size
  have S3 : Cps w w3 w.heap.size ⟨⟨i0, b1, i2, b3, b4, b5, b6, b7, b8, b9, i10⟩, [], [], [], []⟩ ⟨i0, b1, i2, b3, b4, b5, b6, b7, b8, b9, i10⟩ (.slice none 0 0) (.slice none 0 0) (.slice none 0 0) (.slice none 0 0) #[.int .i64 i0, .bool b1, .int .i64 i2, .bool b3, .bool b4, .bool b5, .bool b6, .bool b7, .bool b8, .bool b9, .int .i64 i10, .slice qa qs.length qc, .slice aa an.length ac, .slice ua au.length uc, .slice xa ex.length xc] := ⟨k3, kM3, kZ3, ⟨World.ownsRow_nil _ _ _ _, World.ownsRow_nil _ _ _ _, World.ownsRow_nil _ _ _ _, World.ownsRow_nil _ _ _ _⟩, hB3⟩
  clear kM kM0 kZ kO hB0 hB1 hB2 rr o3 kM3 kZ3 hB3 k3
  have HGW : Hid (w.heap.size ≤ w3.heap.size) := S3.be.size
  generalize hgg : w.heap.size = g at *
  have HGG := Nm.hide hgg
  clear hgg
  go_loopw [4] (fun i wr => ∃ (k : Nat) (qx : Option Addr) (qy : Nat), k ≤ qs.length ∧ i = .int .i64 k ∧ Cps w wr g ⟨⟨i0, b1, i2, b3, b4, b5, b6, b7, b8, b9, i10⟩, qs.take k, [], [], []⟩ ⟨i0, b1, i2, b3, b4, b5, b6, b7, b8, b9, i10⟩ (.slice qx k qy) (.slice none 0 0) (.slice none 0 0) (.slice none 0 0) #[.int .i64 i0, .bool b1, .int .i64 i2, .bool b3, .bool b4, .bool b5, .bool b6, .bool b7, .bool b8, .bool b9, .int .i64 i10, .slice qa qs.length qc, .slice aa an.length ac, .slice ua au.length uc, .slice xa ex.length xc]) (fun i _ => qs.length - (intOf i).toNat)
  case atStart => exact ⟨0, none, 0, Nat.zero_le _, rfl, S3⟩
  case round =>
    clear S3
    obtain ⟨k, qx, qy, hk, rfl, Sk⟩ := hrel
    have hgw : g ≤ wr.heap.size := by have h1 := Sk.be.size; have h2 := HGG.out; omega
    have ccM := fun i => blk_cell Sk.mb i
    have ccO := fun i => blk_cell Sk.ob i
    simp only [mgV] at ccO
    by_cases hlt : k < qs.length
    · obtain ⟨y, hyk⟩ : ∃ y, qs[k]? = some y := ⟨_, List.getElem?_eq_getElem hlt⟩
      obtain ⟨_, a9, c9, e9, _, _, hc9⟩ := hq wr Sk.be
      simp only [Value.slice.injEq] at e9
      obtain ⟨rfl, _, rfl⟩ := e9
      obtain ⟨b, off, rfl, hcell⟩ := hc9 (by omega)
      obtain ⟨d0, d1, d2⟩ := qv_cells hcell hyk
      have n1 : (0 : Int) ≤ (k : Int) := by omega
      have n2 : (k : Int) < (qs.length : Int) := by omega
      have e5 : qs.take (k + 1) = qs.take k ++ [y] := by
        obtain ⟨hi, e⟩ := List.getElem?_eq_some_iff.1 hyk
        rw [List.take_succ_eq_append_getElem hi, e]
      have e6 : (qs.take k).length = k := by simp; omega
      have hoq := Sk.own.rq
      simp only at hoq
      rw [e6] at hoq
      obtain ⟨nm, ty, cl⟩ := y
      simp only at d0 d1 d2
      have HE5 := Nm.hide e5
      have HE6 := Nm.hide e6
      have HYK := Nm.hide hyk
      clear e5 e6 hc9 hcell hyk
      go_wp2
      refine wp_region_last (fun W => Blk W (g + 1 + 1) (mgV ⟨i0, b1, i2, b3, b4, b5, b6, b7, b8, b9, i10⟩ (.slice qx k qy) (.slice none 0 0) (.slice none 0 0) (.slice none 0 0)) 33 ∧ Blk W g #[.int .i64 i0, .bool b1, .int .i64 i2, .bool b3, .bool b4, .bool b5, .bool b6, .bool b7, .bool b8, .bool b9, .int .i64 i10, .slice (some ⟨b, off, none⟩) qs.length qc, .slice aa an.length ac, .slice ua au.length uc, .slice xa ex.length xc] 33 ∧ W.cell? ⟨b, off + k * 3, none⟩ = some (.string nm) ∧ W.cell? ⟨b, off + k * 3 + 1, none⟩ = some (.int .i64 ty) ∧ W.cell? ⟨b, off + k * 3 + 2, none⟩ = some (.int .i64 cl)) 10 (by kernel_rfl) ⟨Sk.ob, Sk.mb, d0, d1, d2⟩ (fun hHeld => ?_)
      simp only [mgV] at hHeld
      refine wpAnyL_take (i := 0) (v := ?_) rfl (by kernel_rfl) (by kernel_rfl) (by kernel_rfl) (by kernel_rfl) (fun _ _ _ h => h) (Or.inl ⟨by rfl, ?_⟩) (by assumption) ?_
      rotate_left 1
      · (rintro W ⟨s1, s2, s3, s4, s5⟩; have ss1 := (fun i => blk_cell s1 i); have ss2 := (fun i => blk_cell s2 i); go_simp; first | done | rfl)
      refine wpAnyL_take (i := 1) (v := ?_) rfl (by kernel_rfl) (by kernel_rfl) (by kernel_rfl) (by kernel_rfl) (fun _ _ _ h => h) (Or.inl ⟨by rfl, ?_⟩) (by assumption) ?_
      rotate_left 1
      · (rintro W ⟨s1, s2, s3, s4, s5⟩; have ss1 := (fun i => blk_cell s1 i); have ss2 := (fun i => blk_cell s2 i); go_simp; first | done | rfl)
      refine wpAnyL_take (i := 2) (v := ?_) rfl (by kernel_rfl) (by kernel_rfl) (by kernel_rfl) (by kernel_rfl) (fun _ _ _ h => h) (Or.inl ⟨by rfl, ?_⟩) (by assumption) ?_
      rotate_left 1
      · (rintro W ⟨s1, s2, s3, s4, s5⟩; have ss1 := (fun i => blk_cell s1 i); have ss2 := (fun i => blk_cell s2 i); go_simp; first | done | rfl)
      refine wpAnyL_take (i := 3) (v := ?_) rfl (by kernel_rfl) (by kernel_rfl) (by kernel_rfl) (by kernel_rfl) (fun _ _ _ h => h) (Or.inl ⟨by rfl, ?_⟩) (by assumption) ?_
      rotate_left 1
      · (rintro W ⟨s1, s2, s3, s4, s5⟩; have ss1 := (fun i => blk_cell s1 i); have ss2 := (fun i => blk_cell s2 i); go_simp; first | done | rfl)
      refine wpAnyL_take (i := 4) (v := ?_) rfl (by kernel_rfl) (by kernel_rfl) (by kernel_rfl) (by kernel_rfl) (fun _ _ _ h => h) (Or.inl ⟨by rfl, ?_⟩) (by assumption) ?_
      rotate_left 1
      · (rintro W ⟨s1, s2, s3, s4, s5⟩; have ss1 := (fun i => blk_cell s1 i); have ss2 := (fun i => blk_cell s2 i); go_simp; first | done | rfl)
      refine wpAnyL_take (i := 5) (v := ?_) rfl (by kernel_rfl) (by kernel_rfl) (by kernel_rfl) (by kernel_rfl) (fun _ _ _ h => h) (Or.inl ⟨by rfl, ?_⟩) (by assumption) ?_
      rotate_left 1
      · (rintro W ⟨s1, s2, s3, s4, s5⟩; have ss1 := (fun i => blk_cell s1 i); have ss2 := (fun i => blk_cell s2 i); go_simp; first | done | rfl)
      refine wpAnyL_take (i := 6) (v := ?_) rfl (by kernel_rfl) (by kernel_rfl) (by kernel_rfl) (by kernel_rfl) (fun _ _ _ h => h) (Or.inl ⟨by rfl, ?_⟩) (by assumption) ?_
      rotate_left 1
      · (rintro W ⟨s1, s2, s3, s4, s5⟩; have ss1 := (fun i => blk_cell s1 i); have ss2 := (fun i => blk_cell s2 i); go_simp; first | done | rfl)
      have hbA := ((Below.refl wr.heap.size wr).alloc (Nat.le_refl _) (.cells #[.string nm, .int .i64 ty, .int .i64 cl] 63)).drew
      have SA := Sk.below hbA hgw
      have putA : ∀ {O : Nat} {z : Value}, wr.cell? ⟨b, O, none⟩ = some z → (wr.alloc (.cells #[.string nm, .int .i64 ty, .int .i64 cl] 63)).drew.cell? ⟨b, O, none⟩ = some z := fun h => (hbA.cell (World.block_lt_of_cell? wr _ h)).trans h
      have e0 := putA d0
      have e1 := putA d1
      have e2 := putA d2
      have hoA := own_below hoq hbA
      refine wpAnyL_one (i := 7) (by kernel_rfl) rfl (fun K hK => ?_)
      go_simp
      refine hK.out _ _ ⟨SA.ob, SA.mb, e0, e1, e2⟩ (fun hH2 => ?_)
      clear hK K
      refine wpAnyL_one (i := 8) (by kernel_rfl) rfl (fun K hK => ?_)
      refine step_append_own rfl (.tmp 16) (.tmp 22) 30 rfl g 63 j0 (.agg #[.string ByteArray.empty, .int .i64 0, .int .i64 0]) 3 32 Tryz.underlying30 hj k0 k1 k2 rfl (by decide) (.slice qx k qy) k (qvVs (qs.take k)) (by rfl) hoA ⟨wr.heap.size, 0, none⟩ 1 1 [.string nm, .int .i64 ty, .int .i64 cl] (by rfl) rfl (cell_newW _ #[.string nm, .int .i64 ty, .int .i64 cl] _) (by intro u hu; simp at hu; rcases hu with rfl | rfl | rfl <;> rfl) (by unfold maxLen; omega) (by omega) (by simp; omega) ?_
      intro va wa hown9 hgrow9 hnl9
      clear hnl9
      obtain ⟨xb, yb, hvb⟩ := own_sl hown9
      subst hvb
      obtain ⟨ob9, mb9, zb9, be9⟩ := SA.grow hoA hgrow9 (by simp; omega)
      obtain ⟨_, a8, c8, e8, _, _, hc8⟩ := hq wa be9
      simp only [Value.slice.injEq] at e8
      obtain ⟨rfl, _, rfl⟩ := e8
      obtain ⟨b8, off8, e7, hcell8⟩ := hc8 (by omega)
      simp only [Option.some.injEq, Addr.mk.injEq, and_true] at e7
      obtain ⟨rfl, rfl⟩ := e7
      obtain ⟨f0, f1, f2⟩ := qv_cells hcell8 HYK.out
      simp only at f0 f1 f2
      refine hK.out _ _ ⟨ob9, mb9, f0, f1, f2⟩ (fun hH3 => ?_)
      clear hK K
      refine wpAnyL_take (i := 9) (v := ?_) rfl (by kernel_rfl) (by kernel_rfl) (by kernel_rfl) (by kernel_rfl) (fun _ _ _ h => h) (Or.inl ⟨by rfl, ?_⟩) (by assumption) ?_
      rotate_left 1
      · (rintro W ⟨s1, s2, s3, s4, s5⟩; have ss1 := (fun i => blk_cell s1 i); have ss2 := (fun i => blk_cell s2 i); go_simp; first | done | rfl)
      have g9 := fun i => blk_cell ob9 i
      simp only [mgV] at g9
      have h9 := fun i => blk_frozen ob9 i
      refine wpAnyL_end (by kernel_rfl) rfl (by kernel_rfl) (fun K hK => ?_)
      go_simp
      refine hK.out _ _ ?_
      clear hK K
      have hrow9 : wa.ownsRow g 63 3 (.slice xb (k + 1) yb) (qs.take (k + 1)).length (qvVs (qs.take (k + 1))) := by
        rw [HE5.out, List.length_append, HE6.out, qvVs_app]
        exact hown9
      have SN : Cps w wa g ⟨⟨i0, b1, i2, b3, b4, b5, b6, b7, b8, b9, i10⟩, qs.take k, [], [], []⟩ ⟨i0, b1, i2, b3, b4, b5, b6, b7, b8, b9, i10⟩ (.slice qx k qy) (.slice none 0 0) (.slice none 0 0) (.slice none 0 0) #[.int .i64 i0, .bool b1, .int .i64 i2, .bool b3, .bool b4, .bool b5, .bool b6, .bool b7, .bool b8, .bool b9, .int .i64 i10, .slice (some ⟨b, off, none⟩) qs.length qc, .slice aa an.length ac, .slice ua au.length uc, .slice xa ex.length xc] → True := fun _ => trivial
      have S9 : Cps w (wa.setCell ⟨g + 1 + 1, 11, none⟩ (.slice xb (k + 1) yb)) g ⟨⟨i0, b1, i2, b3, b4, b5, b6, b7, b8, b9, i10⟩, qs.take (k + 1), [], [], []⟩ ⟨i0, b1, i2, b3, b4, b5, b6, b7, b8, b9, i10⟩ (.slice xb (k + 1) yb) (.slice none 0 0) (.slice none 0 0) (.slice none 0 0) #[.int .i64 i0, .bool b1, .int .i64 i2, .bool b3, .bool b4, .bool b5, .bool b6, .bool b7, .bool b8, .bool b9, .int .i64 i10, .slice (some ⟨b, off, none⟩) qs.length qc, .slice aa an.length ac, .slice ua au.length uc, .slice xa ex.length xc] :=
        ⟨blk_set ob9 11 _, blk_far mb9 (by omega), blk_far zb9 (by omega), ⟨own_far hrow9 (own_blk hrow9 ob9 (by decide)), World.ownsRow_nil _ _ _ _, World.ownsRow_nil _ _ _ _, World.ownsRow_nil _ _ _ _⟩, be9.setCell (Nat.le_add_right g 2) _⟩
      have HS9 := Nm.hide S9
      have HK9 : Hid (k + 1 ≤ qs.length) := hlt
      clear S9 SN hrow9 ob9 mb9 zb9 be9 SA Sk hown9 hgrow9 hoA hoq e0 e1 e2 putA hbA f0 f1 f2 d0 d1 d2 g9 h9 hH3 hH2 hHeld ccM ccO hcell8 hc8
      go_wp2
      go_roundw
      case rel => exact ⟨k + 1, xb, yb, HK9.out, by go_num, HS9.out⟩
      case measure => simp [intOf]; omega
    · obtain rfl : k = qs.length := by omega
      rw [List.take_length] at Sk
      have i9 : (qs.length : Int) ≤ (qs.length : Int) := by omega
      have hjn := fun (ys : List Rr) (v : Value) (hv : ∀ W, Below g w W → CRow W v ys.length 5 (rvVs ys)) (hl : ys.length ≤ 1048576) (W : World) (hW : Below g w W) (hgW : g ≤ W.heap.size) =>
        l06JoinC_any (.slice (some ⟨W.heap.size, 0, none⟩) 0 0) v [] ys W.heap.size (W.alloc (.cells #[] 72)) (World.ownsRow_made (base := W.heap.size) (size := 5) (e := 72) W #[] 0 (by simp) (by decide) rfl) (fun W' hb => hv W' ((hW.alloc hgW _).trans (hb.mono hgW))) (by simp) (by simp; omega)
      simp only [List.nil_append] at hjn
      have j1 := hjn an _ ha l2 wr Sk.be hgw
      have mA := fun i => blk_cell (blk_alloc Sk.mb (.cells #[] 72)) i
      clear hq
      go_wp2_with fail
      refine j1.mono ?_
      rintro e w4 ⟨a4, rfl, o4, c4⟩
      obtain ⟨a41, a42, rfl⟩ := own_sl o4
      have bb4 : Below wr.heap.size wr w4 := ((Below.refl wr.heap.size wr).alloc (Nat.le_refl _) _).trans c4
      have S4 := Sk.below bb4 hgw
      have S5 := S4.an (own_base o4 hgw)
      have gg4 := fun i => blk_cell S4.ob i
      have ff4 := fun i => blk_frozen S4.ob i
      simp only [mgV] at gg4
      have z5 : g ≤ (w4.setCell ⟨g + 1 + 1, 12, none⟩ (.slice a41 an.length a42)).heap.size := by simp; have := bb4.size; omega
      have ccM5 := fun i => blk_cell S5.mb i
      have j2 := hjn au _ hu l3 _ S5.be z5
      have hz5 : (w4.setCell ⟨g + 1 + 1, 12, none⟩ (.slice a41 an.length a42)).heap.size = w4.heap.size := by simp
      have HZ5 := Nm.hide hz5
      rw [hz5] at j2
      clear hz5
      have mB := fun i => blk_cell (blk_alloc S5.mb (.cells #[] 72)) i
      clear Sk S4 ccM ccO j1 o4 c4 bb4 mA
      go_wp2_with fail
      refine j2.mono ?_
      rintro e w6 ⟨u6, rfl, o6, c6⟩
      rw [← HZ5.out] at o6 c6
      obtain ⟨u61, u62, rfl⟩ := own_sl o6
      have bb6 := ((Below.refl _ (w4.setCell ⟨g + 1 + 1, 12, none⟩ (.slice a41 an.length a42))).alloc (Nat.le_refl _) _).trans c6
      have S6 := S5.below bb6 z5
      have S7 := S6.au (own_base o6 z5)
      have gg6 := fun i => blk_cell S6.ob i
      have ff6 := fun i => blk_frozen S6.ob i
      simp only [mgV] at gg6
      have z7 : g ≤ (w6.setCell ⟨g + 1 + 1, 13, none⟩ (.slice u61 au.length u62)).heap.size := by simp; have := bb6.size; simp at this z5; omega
      have ccM7 := fun i => blk_cell S7.mb i
      have j3 := hjn ex _ hx l4 _ S7.be z7
      have hz7 : (w6.setCell ⟨g + 1 + 1, 13, none⟩ (.slice u61 au.length u62)).heap.size = w6.heap.size := by simp
      have HZ7 := Nm.hide hz7
      rw [hz7] at j3
      clear hz7
      have mC := fun i => blk_cell (blk_alloc S7.mb (.cells #[] 72)) i
      clear S5 S6 gg4 ff4 ccM5 j2 o6 c6 bb6 mB
      go_wp2_with fail
      refine j3.mono ?_
      rintro e w8 ⟨x8, rfl, o8, c8⟩
      rw [← HZ7.out] at o8 c8
      obtain ⟨x81, x82, rfl⟩ := own_sl o8
      have bb8 := ((Below.refl _ (w6.setCell ⟨g + 1 + 1, 13, none⟩ (.slice u61 au.length u62))).alloc (Nat.le_refl _) _).trans c8
      have S8 := S7.below bb8 z7
      have S9 := S8.ex (own_base o8 z7)
      have gg8 := fun i => blk_cell S8.ob i
      have ff8 := fun i => blk_frozen S8.ob i
      simp only [mgV] at gg8
      have z9 : g ≤ (w8.setCell ⟨g + 1 + 1, 14, none⟩ (.slice x81 ex.length x82)).heap.size := by simp; have := bb8.size; simp at this z7; omega
      clear S7 S8 gg6 ff6 ccM7 j3 o8 c8 bb8 hjn
      go_wp2_with (first
        | (refine wpList_load_blk (.tmp 3) 33 rfl rfl (g + 1 + 1) _ _ S9.ob rfl Tryz.underlying33 rfl (by kernel_rfl) ?_)
        | (refine wpList_store_blk (.tmp 2) (.tmp 40) 33 rfl rfl rfl (g + 1) _ _ S9.zb rfl rfl (by kernel_rfl) rfl (by kernel_rfl) ?_; intro wz kz oz))
      refine bodyPost_ret (v := .agg (mgV ⟨i0, b1, i2, b3, b4, b5, b6, b7, b8, b9, i10⟩ (.slice qx qs.length qy) (.slice a41 an.length a42) (.slice u61 au.length u62) (.slice x81 ex.length x82))) (run_results_rowM Tryz.results15 rfl kz Tryz.underlying33 rfl (by kernel_rfl)) rfl ?_
      have hgz := HGG.out
      have zz : w.heap.size ≤ (w8.setCell ⟨g + 1 + 1, 14, none⟩ (.slice x81 ex.length x82)).heap.size := by omega
      rw [hgz]
      exact ⟨_, _, _, _, rfl, ⟨own_onlyT S9.own.rq oz S9.zb, own_onlyT S9.own.ra oz S9.zb, own_onlyT S9.own.ru oz S9.zb, own_onlyT S9.own.rx oz S9.zb⟩, oz.below S9.be (Nat.le_succ _) z9⟩
end Go.Proofs.YtmaopfagkffccaaGreat
