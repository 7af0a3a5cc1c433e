import Derived.Test.YtieobflhfcgliaaGreatJZnK
import Derived.Test.YtieobflhfcgliaaGreatJZnS
import Derived.Test.YtieobflhfcgliaaGreatJDzX
/- The law of DiffZones: its walk. -/
namespace Go.Proofs.YtieobflhfcgliaaGreat
open Go.RowKit
set_option linter.unusedVariables false
set_option maxRecDepth 100000 in
set_option maxHeartbeats 6400000 in
theorem fnExactDiffZones_walk (o1 o2 : ByteArray) (v1 v2 : Value) (ps1 ps2 : List Zp) (w : World) (h1 : ZRow w v1 ps1) (h2 : ZRow w v2 ps2) (hx1 : ZFit ps1) (hx2 : ZFit ps2) (ho1 : o1.size ≤ maxLen) (ho2 : o2.size ≤ maxLen) :
 Calls Tryz.prog 3 #[.agg #[.string o1, v1], .agg #[.string o2, v2]] w fun e w' => e = .returned (.bool true) ∧ Below w.heap.size w w' := by
 obtain ⟨va1, vc1, rfl⟩ : ∃ va vc, v1 = .slice va ps1.length vc := by obtain ⟨⟨_, a, c, e, _⟩, _⟩ := h1; exact ⟨a, c, e⟩
 obtain ⟨va2, vc2, rfl⟩ : ∃ va vc, v2 = .slice va ps2.length vc := by obtain ⟨⟨_, a, c, e, _⟩, _⟩ := h2; exact ⟨a, c, e⟩
 have b0 := ((Below.refl w.heap.size w).alloc (Nat.le_refl _) (.cells #[.string o1, .slice va1 ps1.length vc1] 24)).alloc (by simp) (.cells #[.string o2, .slice va2 ps2.length vc2] 24); have ky := blk_alloc (blk_new w #[.string o1, .slice va1 ps1.length vc1] 24) (.cells #[.string o2, .slice va2 ps2.length vc2] 24); have kz := blk_new (w.alloc (.cells #[.string o1, .slice va1 ps1.length vc1] 24)) #[.string o2, .slice va2 ps2.length vc2] 24; rw [World.size_alloc] at kz; have hsz := szZone_any o1 _ ps1 1048576 _ (h1.below b0) hx1 ho1 (by decide) (by decide); have hsy := fun W (hW : Below w.heap.size w W) L (l0 : 0 ≤ L) (l1 : L ≤ 1048576) => szZone_any o2 _ ps2 L W (h2.below hW) hx2 ho2 l0 l1
 by_cases hb : (o1.size : Int) + ps1.length + (zsum ps1 : Int) ≤ 1048576
 · have e1 : szZ o1 ps1 1048576 = 1048576 - o1.size - ps1.length - zsum ps1 := if_pos hb; rw [e1] at hsz; have hnn : 0 ≤ 1048576 - (o1.size : Int) - (ps1.length : Int) - (zsum ps1 : Int) := by omega
   have hsyL := fun W hW => hsy W hW (1048576 - (o1.size : Int) - (ps1.length : Int) - (zsum ps1 : Int)) hnn (by omega)
   by_cases hb2 : (o2.size : Int) + ps2.length + (zsum ps2 : Int) ≤ 1048576 - (o1.size : Int) - (ps1.length : Int) - (zsum ps1 : Int)
   · have e2 : szZ o2 ps2 (1048576 - (o1.size : Int) - (ps1.length : Int) - (zsum ps1 : Int)) = 1048576 - (o1.size : Int) - (ps1.length : Int) - (zsum ps1 : Int) - o2.size - ps2.length - zsum ps2 := if_pos hb2; rw [e2] at hsyL; have hnn2 : 0 ≤ 1048576 - (o1.size : Int) - (ps1.length : Int) - (zsum ps1 : Int) - (o2.size : Int) - (ps2.length : Int) - (zsum ps2 : Int) := by omega
     have s1 : zsum ps1 ≤ 1048576 := by omega
     have s2 : zsum ps2 ≤ 1048576 := by omega
     have l1 : ps1.length ≤ 1048576 := by omega
     have l2 : ps2.length ≤ 1048576 := by omega
     have p1 : o1.size ≤ 1048576 := by omega
     have p2 : o2.size ≤ 1048576 := by omega
     have F1 : FitZ ps1 := cz_fits s1; have F2 : FitZ ps2 := cz_fits s2; generalize (1048576 - (o1.size : Int) - (ps1.length : Int) - (zsum ps1 : Int) - (o2.size : Int) - (ps2.length : Int) - (zsum ps2 : Int)) = L2 at *; generalize (1048576 - (o1.size : Int) - (ps1.length : Int) - (zsum ps1 : Int)) = L1 at *; have hto1 := fun W (hW : Below w.heap.size w W) => toZone_any o1 _ ps1 W (h1.below hW) l1 (fun p hp => (F1 p hp).2.1)
     have hto2 := fun W (hW : Below w.heap.size w W) => toZone_any o2 _ ps2 W (h2.below hW) l2 (fun p hp => (F2 p hp).2.1)
     have hsp := specDz_same (o1 := o1) (o2 := o2) s1 s2 l1 l2 F1 F2 p1 p2; have him := implDz_same (o1 := o1) (o2 := o2) s1 s2 F1 F2 p1 p2; have hRl := dzR_len ps1 ps2 o1 o2; generalize dzR ps1 ps2 o1 o2 = R at *; clear hb hb2 hx1 hx2 ho1 ho2 e1 e2 hsy; go_enter Tryz.func3, Tryz.ntmps3; go_wp2_with fail
     go_at_call 5
     refine hsz.mono ?_; rintro e w1 ⟨rfl, b1⟩; have bw1 := Nm.below_two b0 b1; have ky1 := blk_below ky b1; have kz1 := blk_below kz b1; have rz := fun i => blk_cell kz1 i
     clear hsz b0 b1 ky kz; go_wp2_with fail
     go_at_call 5
     refine (hsyL _ bw1).mono ?_; rintro e wb ⟨rfl, b2⟩; have bwb := Nm.below_two bw1 b2; have kyb := blk_below ky1 b2; have kzb := blk_below kz1 b2; have zb : w.heap.size + 1 < wb.heap.size := blk_lt kzb; clear hsyL bw1 b2 ky1 kz1 rz; have kS : Hid (∀ X, Below wb.heap.size wb X → Blk X w.heap.size #[.string o1, .slice va1 ps1.length vc1] 24 ∧ Blk X (w.heap.size + 1) #[.string o2, .slice va2 ps2.length vc2] 24) := fun X hX => ⟨blk_below kyb hX, blk_below kzb hX⟩
     have bd := (Below.refl wb.heap.size wb).drew; go_upto_region 8 with fail
     go_cut [6, 7] from 27 to 34 (fun p q wx => ∃ (c : Nat) (d a : Value), p = .pointer (some ⟨c, 0, none⟩) ∧ q = .int .i64 R.co ∧ wb.heap.size ≤ c ∧ Blk wx c (cgL R.old R.new d a).toArray 30 ∧ DzHas R wx d a ∧ Below wb.heap.size wb wx)
     case first =>
      refine wp_region_last (fun X => Blk X w.heap.size #[.string o1, .slice va1 ps1.length vc1] 24 ∧ Blk X (w.heap.size + 1) #[.string o2, .slice va2 ps2.length vc2] 24) 1000 (by kernel_rfl) (kS.out _ bd) (fun hHeld => ?_); refine tkL (i := 0) (v := ?_) rfl ?_ ?_; rotate_left 1
      · (rintro W ⟨s1, s2⟩; have ss1 := (fun i => blk_cell s1 i); have ss2 := (fun i => blk_cell s2 i); go_simp; try (with_reducible rfl))
      refine tkL (i := 2) (v := ?_) rfl ?_ ?_; rotate_left 1
      · (rintro W ⟨s1, s2⟩; have ss1 := (fun i => blk_cell s1 i); have ss2 := (fun i => blk_cell s2 i); go_simp; try (with_reducible rfl))
      refine wpAnyL_two (i := 1) (j := 8) (by kernel_rfl) rfl rfl (fun K hK => ?_) (fun K hK => ?_)
      · go_simp; refine (hto1 _ (Nm.below_two bwb bd)).mono ?_; rintro e x3 ⟨u1, q1, rfl, e1, z1, cx3⟩; have bx3 := Nm.below_two bd cx3; go_wp2_with fail
        refine hK.out _ _ (kS.out _ bx3) (fun hHeld => ?_); clear hK K; refine wpAnyL_two (i := 3) (j := 8) (by kernel_rfl) rfl rfl (fun K hK => ?_) (fun K hK => ?_)
        · go_simp; refine (hto2 _ (Nm.below_two bwb bx3)).mono ?_; rintro e x4 ⟨u2, q2, rfl, e2, z2, cx4⟩; have z1 := z1.below cx4; have bx4 := Nm.below_two bx3 cx4; go_wp2_with fail
          refine hK.out _ _ (kS.out _ bx4) (fun hHeld => ?_); clear hK K; refine wpAnyL_two (i := 4) (j := 8) (by kernel_rfl) rfl rfl (fun K hK => ?_) (fun K hK => ?_)
          · go_simp; refine (hsp u1 u2 q1 q2 _ e1 e2 z1.read z2.read).mono ?_; rintro e x5 ⟨d, a, rfl, oc, cx5⟩; have bx5 := Nm.below_two bx4 cx5; obtain ⟨⟨da, dc, rfl⟩, aa, ac, rfl⟩ := oc.sl; go_wp2_with fail
            refine hK.out _ _ (kS.out _ bx5) (fun hHeld => ?_); clear hK K; refine tkL (i := 5) (v := ?_) rfl ?_ ?_; rotate_left 1
            · (rintro W ⟨s1, s2⟩; have ss1 := (fun i => blk_cell s1 i); have ss2 := (fun i => blk_cell s2 i); go_simp; try (with_reducible rfl))
            refine tkL (i := 6) (v := ?_) rfl ?_ ?_; rotate_left 1
            · (rintro W ⟨s1, s2⟩; have ss1 := (fun i => blk_cell s1 i); have ss2 := (fun i => blk_cell s2 i); go_simp; try (with_reducible rfl))
            refine tkL (i := 7) (v := ?_) rfl ?_ ?_; rotate_left 1
            · (rintro W ⟨s1, s2⟩; have ss1 := (fun i => blk_cell s1 i); have ss2 := (fun i => blk_cell s2 i); go_simp; try (with_reducible rfl))
            refine wpAnyL_one (i := 8) (by kernel_rfl) rfl (fun K hK => ?_); go_simp; have ca := (Below.refl x5.heap.size x5).alloc (Nat.le_refl _) (.cells #[.string ⟨#[]⟩, .int .i64 0, .int .i64 0, .int .i64 0, .string ⟨#[]⟩, .string ⟨#[]⟩, .int .i64 0, .int .i64 0, .int .i64 0, .string ⟨#[]⟩, .slice none 0 0, .slice none 0 0] 30); have kc := blk_new x5 #[.string ⟨#[]⟩, .int .i64 0, .int .i64 0, .int .i64 0, .string ⟨#[]⟩, .string ⟨#[]⟩, .int .i64 0, .int .i64 0, .int .i64 0, .string ⟨#[]⟩, .slice none 0 0, .slice none 0 0] 30; have rk := fun i => blk_cell kc i
            have fk := fun i => blk_frozen kc i
            have lb := bx5.size; refine hK.out _ _ (kS.out _ (Nm.below_two bx5 ca)) (fun hHeld => ?_); clear hK K; have cn := (Below.refl x5.heap.size x5).alloc (Nat.le_refl _) (.cells (cgL R.old R.new (.slice da R.del.length dc) (.slice aa R.add.length ac)).toArray 30); have kX := blk_new x5 (cgL R.old R.new (.slice da R.del.length dc) (.slice aa R.add.length ac)).toArray 30; have HX := Nm.hide (And.intro (oc.below cn).has (Nm.below_two bx5 cn)); refine wpAnyL_one (i := 9) (by kernel_rfl) rfl (fun K hK => ?_); go_simp; refine hK.out _ _ (kS.out _ HX.out.2) (fun hHeld => ?_); clear hK K; refine tkL (i := 10) (v := ?_) rfl ?_ ?_; rotate_left 1
            · (rintro W ⟨s1, s2⟩; have ss1 := (fun i => blk_cell s1 i); have ss2 := (fun i => blk_cell s2 i); go_simp; try (with_reducible rfl))
            refine wpAnyL_done (by kernel_rfl) ?_; go_wp2_with fail
            go_meet
            case rel => exact ⟨x5.heap.size, _, _, rfl, rfl, by omega, kX, HX.out.1, HX.out.2⟩
          · go_simp; have ca := (Below.refl x4.heap.size x4).alloc (Nat.le_refl _) (.cells #[.string ⟨#[]⟩, .int .i64 0, .int .i64 0, .int .i64 0, .string ⟨#[]⟩, .string ⟨#[]⟩, .int .i64 0, .int .i64 0, .int .i64 0, .string ⟨#[]⟩, .slice none 0 0, .slice none 0 0] 30); have kc := blk_new x4 #[.string ⟨#[]⟩, .int .i64 0, .int .i64 0, .int .i64 0, .string ⟨#[]⟩, .string ⟨#[]⟩, .int .i64 0, .int .i64 0, .int .i64 0, .string ⟨#[]⟩, .slice none 0 0, .slice none 0 0] 30; have la : x4.heap.size < (x4.alloc (.cells #[.string ⟨#[]⟩, .int .i64 0, .int .i64 0, .int .i64 0, .string ⟨#[]⟩, .string ⟨#[]⟩, .int .i64 0, .int .i64 0, .int .i64 0, .string ⟨#[]⟩, .slice none 0 0, .slice none 0 0] 30)).heap.size := by simp
            have lb := bx4.size; have bA := Nm.below_two bx4 ca; have z1 := z1.below ca; have z2 := z2.below ca; refine hK.out _ _ (kS.out _ bA) (fun hHeld => ?_); clear hK K; refine wpAnyL_one (i := 4) (by kernel_rfl) rfl (fun K hK => ?_); go_simp; refine (hsp u1 u2 q1 q2 _ e1 e2 z1.read z2.read).mono ?_; rintro e x5 ⟨d, a, rfl, oc, cx5⟩; have bx5 := Nm.below_two bA cx5; obtain ⟨⟨da, dc, rfl⟩, aa, ac, rfl⟩ := oc.sl; go_wp2_with fail
            refine hK.out _ _ (kS.out _ bx5) (fun hHeld => ?_); clear hK K; refine tkL (i := 5) (v := ?_) rfl ?_ ?_; rotate_left 1
            · (rintro W ⟨s1, s2⟩; have ss1 := (fun i => blk_cell s1 i); have ss2 := (fun i => blk_cell s2 i); go_simp; try (with_reducible rfl))
            refine tkL (i := 6) (v := ?_) rfl ?_ ?_; rotate_left 1
            · (rintro W ⟨s1, s2⟩; have ss1 := (fun i => blk_cell s1 i); have ss2 := (fun i => blk_cell s2 i); go_simp; try (with_reducible rfl))
            refine tkL (i := 7) (v := ?_) rfl ?_ ?_; rotate_left 1
            · (rintro W ⟨s1, s2⟩; have ss1 := (fun i => blk_cell s1 i); have ss2 := (fun i => blk_cell s2 i); go_simp; try (with_reducible rfl))
            have kc := blk_below kc cx5; have rk := fun i => blk_cell kc i
            have fk := fun i => blk_frozen kc i
            have kX := setAll_new (cgL R.old R.new (.slice da R.del.length dc) (.slice aa R.add.length ac)) kc rfl; have HX : Hid (DzHas R (setAll x5 x4.heap.size 0 (cgL R.old R.new (.slice da R.del.length dc) (.slice aa R.add.length ac))) (.slice da R.del.length dc) (.slice aa R.add.length ac) ∧ Below wb.heap.size wb (setAll x5 x4.heap.size 0 (cgL R.old R.new (.slice da R.del.length dc) (.slice aa R.add.length ac)))) := ⟨(oc.setA (by omega) _ 0).has, below_setA (by omega) _ 0 _ bx5⟩; simp only [setAll, Nat.reduceAdd, Nat.zero_add] at kX HX; refine wpAnyL_one (i := 9) (by kernel_rfl) rfl (fun K hK => ?_); go_simp; refine hK.out _ _ (kS.out _ HX.out.2) (fun hHeld => ?_); clear hK K; refine tkL (i := 10) (v := ?_) rfl ?_ ?_; rotate_left 1
            · (rintro W ⟨s1, s2⟩; have ss1 := (fun i => blk_cell s1 i); have ss2 := (fun i => blk_cell s2 i); go_simp; try (with_reducible rfl))
            refine wpAnyL_done (by kernel_rfl) ?_; go_wp2_with fail
            go_meet
            case rel => exact ⟨x4.heap.size, _, _, rfl, rfl, by omega, kX, HX.out.1, HX.out.2⟩
        · go_simp; have ca := (Below.refl x3.heap.size x3).alloc (Nat.le_refl _) (.cells #[.string ⟨#[]⟩, .int .i64 0, .int .i64 0, .int .i64 0, .string ⟨#[]⟩, .string ⟨#[]⟩, .int .i64 0, .int .i64 0, .int .i64 0, .string ⟨#[]⟩, .slice none 0 0, .slice none 0 0] 30); have kc := blk_new x3 #[.string ⟨#[]⟩, .int .i64 0, .int .i64 0, .int .i64 0, .string ⟨#[]⟩, .string ⟨#[]⟩, .int .i64 0, .int .i64 0, .int .i64 0, .string ⟨#[]⟩, .slice none 0 0, .slice none 0 0] 30; have la : x3.heap.size < (x3.alloc (.cells #[.string ⟨#[]⟩, .int .i64 0, .int .i64 0, .int .i64 0, .string ⟨#[]⟩, .string ⟨#[]⟩, .int .i64 0, .int .i64 0, .int .i64 0, .string ⟨#[]⟩, .slice none 0 0, .slice none 0 0] 30)).heap.size := by simp
          have lb := bx3.size; have bA := Nm.below_two bx3 ca; have z1 := z1.below ca; refine hK.out _ _ (kS.out _ bA) (fun hHeld => ?_); clear hK K; refine wpAnyL_one (i := 3) (by kernel_rfl) rfl (fun K hK => ?_); go_simp; refine (hto2 _ (Nm.below_two bwb bA)).mono ?_; rintro e x4 ⟨u2, q2, rfl, e2, z2, cx4⟩; have z1 := z1.below cx4; have bx4 := Nm.below_two bA cx4; go_wp2_with fail
          refine hK.out _ _ (kS.out _ bx4) (fun hHeld => ?_); clear hK K; have kc := blk_below kc cx4; have lc := cx4.size; refine wpAnyL_one (i := 4) (by kernel_rfl) rfl (fun K hK => ?_); go_simp; refine (hsp u1 u2 q1 q2 _ e1 e2 z1.read z2.read).mono ?_; rintro e x5 ⟨d, a, rfl, oc, cx5⟩; have bx5 := Nm.below_two bx4 cx5; obtain ⟨⟨da, dc, rfl⟩, aa, ac, rfl⟩ := oc.sl; go_wp2_with fail
          refine hK.out _ _ (kS.out _ bx5) (fun hHeld => ?_); clear hK K; refine tkL (i := 5) (v := ?_) rfl ?_ ?_; rotate_left 1
          · (rintro W ⟨s1, s2⟩; have ss1 := (fun i => blk_cell s1 i); have ss2 := (fun i => blk_cell s2 i); go_simp; try (with_reducible rfl))
          refine tkL (i := 6) (v := ?_) rfl ?_ ?_; rotate_left 1
          · (rintro W ⟨s1, s2⟩; have ss1 := (fun i => blk_cell s1 i); have ss2 := (fun i => blk_cell s2 i); go_simp; try (with_reducible rfl))
          refine tkL (i := 7) (v := ?_) rfl ?_ ?_; rotate_left 1
          · (rintro W ⟨s1, s2⟩; have ss1 := (fun i => blk_cell s1 i); have ss2 := (fun i => blk_cell s2 i); go_simp; try (with_reducible rfl))
          have kc := blk_below kc cx5; have rk := fun i => blk_cell kc i
          have fk := fun i => blk_frozen kc i
          have kX := setAll_new (cgL R.old R.new (.slice da R.del.length dc) (.slice aa R.add.length ac)) kc rfl; have HX : Hid (DzHas R (setAll x5 x3.heap.size 0 (cgL R.old R.new (.slice da R.del.length dc) (.slice aa R.add.length ac))) (.slice da R.del.length dc) (.slice aa R.add.length ac) ∧ Below wb.heap.size wb (setAll x5 x3.heap.size 0 (cgL R.old R.new (.slice da R.del.length dc) (.slice aa R.add.length ac)))) := ⟨(oc.setA (by omega) _ 0).has, below_setA (by omega) _ 0 _ bx5⟩; simp only [setAll, Nat.reduceAdd, Nat.zero_add] at kX HX; refine wpAnyL_one (i := 9) (by kernel_rfl) rfl (fun K hK => ?_); go_simp; refine hK.out _ _ (kS.out _ HX.out.2) (fun hHeld => ?_); clear hK K; refine tkL (i := 10) (v := ?_) rfl ?_ ?_; rotate_left 1
          · (rintro W ⟨s1, s2⟩; have ss1 := (fun i => blk_cell s1 i); have ss2 := (fun i => blk_cell s2 i); go_simp; try (with_reducible rfl))
          refine wpAnyL_done (by kernel_rfl) ?_; go_wp2_with fail
          go_meet
          case rel => exact ⟨x3.heap.size, _, _, rfl, rfl, by omega, kX, HX.out.1, HX.out.2⟩
      · go_simp; have ca := (Below.refl wb.drew.heap.size wb.drew).alloc (Nat.le_refl _) (.cells #[.string ⟨#[]⟩, .int .i64 0, .int .i64 0, .int .i64 0, .string ⟨#[]⟩, .string ⟨#[]⟩, .int .i64 0, .int .i64 0, .int .i64 0, .string ⟨#[]⟩, .slice none 0 0, .slice none 0 0] 30); have kc : Blk (wb.drew.alloc (.cells #[.string ⟨#[]⟩, .int .i64 0, .int .i64 0, .int .i64 0, .string ⟨#[]⟩, .string ⟨#[]⟩, .int .i64 0, .int .i64 0, .int .i64 0, .string ⟨#[]⟩, .slice none 0 0, .slice none 0 0] 30)) wb.heap.size #[.string ⟨#[]⟩, .int .i64 0, .int .i64 0, .int .i64 0, .string ⟨#[]⟩, .string ⟨#[]⟩, .int .i64 0, .int .i64 0, .int .i64 0, .string ⟨#[]⟩, .slice none 0 0, .slice none 0 0] 30 := blk_new wb.drew #[.string ⟨#[]⟩, .int .i64 0, .int .i64 0, .int .i64 0, .string ⟨#[]⟩, .string ⟨#[]⟩, .int .i64 0, .int .i64 0, .int .i64 0, .string ⟨#[]⟩, .slice none 0 0, .slice none 0 0] 30; have la : wb.heap.size < (wb.drew.alloc (.cells #[.string ⟨#[]⟩, .int .i64 0, .int .i64 0, .int .i64 0, .string ⟨#[]⟩, .string ⟨#[]⟩, .int .i64 0, .int .i64 0, .int .i64 0, .string ⟨#[]⟩, .slice none 0 0, .slice none 0 0] 30)).heap.size := by show wb.heap.size < (wb.heap.push _).size; simp
        have bA := Nm.below_two bd ca; refine hK.out _ _ (kS.out _ bA) (fun hHeld => ?_); clear hK K; refine wpAnyL_one (i := 1) (by kernel_rfl) rfl (fun K hK => ?_); go_simp; refine (hto1 _ (Nm.below_two bwb bA)).mono ?_; rintro e x3 ⟨u1, q1, rfl, e1, z1, cx3⟩; have bx3 := Nm.below_two bA cx3; go_wp2_with fail
        refine hK.out _ _ (kS.out _ bx3) (fun hHeld => ?_); clear hK K; have kc := blk_below kc cx3; have lc := cx3.size; refine wpAnyL_one (i := 3) (by kernel_rfl) rfl (fun K hK => ?_); go_simp; refine (hto2 _ (Nm.below_two bwb bx3)).mono ?_; rintro e x4 ⟨u2, q2, rfl, e2, z2, cx4⟩; have z1 := z1.below cx4; have bx4 := Nm.below_two bx3 cx4; go_wp2_with fail
        refine hK.out _ _ (kS.out _ bx4) (fun hHeld => ?_); clear hK K; have kc := blk_below kc cx4; have ld := cx4.size; refine wpAnyL_one (i := 4) (by kernel_rfl) rfl (fun K hK => ?_); go_simp; refine (hsp u1 u2 q1 q2 _ e1 e2 z1.read z2.read).mono ?_; rintro e x5 ⟨d, a, rfl, oc, cx5⟩; have bx5 := Nm.below_two bx4 cx5; obtain ⟨⟨da, dc, rfl⟩, aa, ac, rfl⟩ := oc.sl; go_wp2_with fail
        refine hK.out _ _ (kS.out _ bx5) (fun hHeld => ?_); clear hK K; refine tkL (i := 5) (v := ?_) rfl ?_ ?_; rotate_left 1
        · (rintro W ⟨s1, s2⟩; have ss1 := (fun i => blk_cell s1 i); have ss2 := (fun i => blk_cell s2 i); go_simp; try (with_reducible rfl))
        refine tkL (i := 6) (v := ?_) rfl ?_ ?_; rotate_left 1
        · (rintro W ⟨s1, s2⟩; have ss1 := (fun i => blk_cell s1 i); have ss2 := (fun i => blk_cell s2 i); go_simp; try (with_reducible rfl))
        refine tkL (i := 7) (v := ?_) rfl ?_ ?_; rotate_left 1
        · (rintro W ⟨s1, s2⟩; have ss1 := (fun i => blk_cell s1 i); have ss2 := (fun i => blk_cell s2 i); go_simp; try (with_reducible rfl))
        have kc := blk_below kc cx5; have rk := fun i => blk_cell kc i
        have fk := fun i => blk_frozen kc i
        have kX := setAll_new (cgL R.old R.new (.slice da R.del.length dc) (.slice aa R.add.length ac)) kc rfl; have HX : Hid (DzHas R (setAll x5 wb.heap.size 0 (cgL R.old R.new (.slice da R.del.length dc) (.slice aa R.add.length ac))) (.slice da R.del.length dc) (.slice aa R.add.length ac) ∧ Below wb.heap.size wb (setAll x5 wb.heap.size 0 (cgL R.old R.new (.slice da R.del.length dc) (.slice aa R.add.length ac)))) := ⟨(oc.setA (by omega) _ 0).has, below_setA (by omega) _ 0 _ bx5⟩; simp only [setAll, Nat.reduceAdd, Nat.zero_add] at kX HX; refine wpAnyL_one (i := 9) (by kernel_rfl) rfl (fun K hK => ?_); go_simp; refine hK.out _ _ (kS.out _ HX.out.2) (fun hHeld => ?_); clear hK K; refine tkL (i := 10) (v := ?_) rfl ?_ ?_; rotate_left 1
        · (rintro W ⟨s1, s2⟩; have ss1 := (fun i => blk_cell s1 i); have ss2 := (fun i => blk_cell s2 i); go_simp; try (with_reducible rfl))
        refine wpAnyL_done (by kernel_rfl) ?_; go_wp2_with fail
        go_meet
        case rel => exact ⟨wb.heap.size, _, _, rfl, rfl, by omega, kX, HX.out.1, HX.out.2⟩
     case rest =>
      obtain ⟨c0, d0, a0, rfl, rfl, hc0, kc0, hw0, bc0⟩ := hcut; obtain ⟨⟨da0, dc0, rfl⟩, aa0, ac0, rfl⟩ := hw0.sl; obtain ⟨lt0, lt0'⟩ := hw0.lt; have bwc := Nm.below_two bwb bc0; have hcc : c0 < wc.heap.size := blk_lt kc0; obtain ⟨ky3, kz3⟩ := kS.out _ bc0; have ry := fun i => blk_cell ky3 i
      clear hsp kS bd kyb kzb bc0 bwb; go_wp2_with fail
      go_at_call 7
      refine (hto1 _ bwc).mono ?_; rintro e w4 ⟨u4, qs4, rfl, hq4, z4, b4⟩; obtain ⟨ua4, uc4, hu4⟩ := own_sl z4.1; subst hu4; obtain ⟨hC4, hD4⟩ := z4.lt; have s4 := b4.size; have cA := (Below.refl w4.heap.size w4).alloc (Nat.le_refl _) (.cells #[.string o1, .slice ua4 qs4.length uc4] 35); have x4 := blk_new w4 #[.string o1, .slice ua4 qs4.length uc4] 35; have eA : (w4.alloc (.cells #[.string o1, .slice ua4 qs4.length uc4] 35)).heap.size = w4.heap.size + 1 := by simp
      have bA := Nm.below_two b4 cA; have ky4 := blk_below ky3 bA; have kz4 := blk_below kz3 bA; have kc4 := blk_below kc0 bA; have hw4 := hw0.below bA; have bw4 := Nm.below_two bwc bA; have z4A := z4.below cA; have rz := fun i => blk_cell kz4 i
      clear ry ky3 kz3 kc0 hw0 bA cA z4; go_wp2_with fail
      go_at_call 7
      refine (hto2 _ bw4).mono ?_; rintro e w5 ⟨u5, qs5, rfl, hq5, z5, b5⟩; obtain ⟨ua5, uc5, hu5⟩ := own_sl z5.1; subst hu5; obtain ⟨hC5, hD5⟩ := z5.lt; have s5 := b5.size; rw [eA] at s5 z5; have cB := (Below.refl w5.heap.size w5).alloc (Nat.le_refl _) (.cells #[.string o2, .slice ua5 qs5.length uc5] 35); have x5 := blk_new w5 #[.string o2, .slice ua5 qs5.length uc5] 35; have eB : (w5.alloc (.cells #[.string o2, .slice ua5 qs5.length uc5] 35)).heap.size = w5.heap.size + 1 := by simp
      have bB := Nm.below_two b5 cB; have ky5 := blk_below ky4 bB; have kz5 := blk_below kz4 bB; have kc5 := blk_below kc4 bB; have hw5 := hw4.below bB; have bw5 := Nm.below_two bw4 bB; have z45 := z4A.below bB; have z5B := z5.below cB; have x45 := blk_below x4 bB; have rx := fun i => blk_cell x45 i
      have rx' := fun i => blk_cell x5 i
      clear rz ky4 kz4 kc4 hw4 bB cB z5 z4A x4; go_wp2_with fail
      go_at_call 8
      refine (him _ _ qs4 qs5 _ hq4 hq5 z45.read z5B.read).mono ?_; rintro e w6 ⟨d6, a6, rfl, oc6, b6⟩; rw [eB] at oc6; obtain ⟨⟨da6, dc6, rfl⟩, aa6, ac6, rfl⟩ := oc6.sl; obtain ⟨lt6, lt6'⟩ := oc6.lt; have s6 := b6.size; rw [eB] at s6; have cC := (Below.refl w6.heap.size w6).alloc (Nat.le_refl _) (.cells (cgL R.old R.new (.slice da6 R.del.length dc6) (.slice aa6 R.add.length ac6)).toArray 30); have k6 := blk_new w6 (cgL R.old R.new (.slice da6 R.del.length dc6) (.slice aa6 R.add.length ac6)).toArray 30; have bC := Nm.below_two b6 cC; have ky6 := blk_below ky5 bC; have kz6 := blk_below kz5 bC; have kc6 := blk_below kc5 bC; have hw6 := hw5.below bC; have bw6 := Nm.below_two bw5 bC; have z46 := z45.below bC; have z56 := z5B.below bC; have x46 := blk_below x45 bC; have x56 := blk_below x5 bC; have oc6C := oc6.below cC; have heq := fun W (g0 : DzHas R W (.slice da6 R.del.length dc6) (.slice aa6 R.add.length ac6)) (g1 : DzHas R W (.slice da0 R.del.length dc0) (.slice aa0 R.add.length ac0)) => eqDz_any g0 g1
      have hco : (R.co != R.co) = false := by simp
      have r6 := fun i => blk_cell k6 i
      have rc := fun i => blk_cell kc6 i
      clear rx rx' ky5 kz5 kc5 hw5 bC z45 z5B x45 x5 oc6 cC; go_wp2_with fail
      go_at_call 9
      refine (heq _ oc6C.has hw6).mono ?_; rintro e w7 ⟨rfl, b7⟩; have ky7 := blk_below ky6 b7; have kz7 := blk_below kz6 b7; have kc7 := blk_below kc6 b7; have hw7 := hw6.below b7; have bw7 := Nm.below_two bw6 b7; have z47 := z46.below b7; have z57 := z56.below b7; have x47 := blk_below x46 b7; have x57 := blk_below x56 b7; have k7 := blk_below k6 b7; have oc7 := oc6C.below b7; clear r6 rc ky6 kz6 kc6 hw6 z46 z56 x46 x56 k6 oc6C bw6; have hez1 := fun (u u' : Value) (qs rs : List Zp) (W : World) (g1 : qs.map (·.1) = ps1.map (·.1)) (g2 : rs.map (·.1) = ps1.map (·.1)) (g3 : ZRow W u qs) (g4 : ZRow W u' rs) => eqZone_any o1 u u' qs rs W g3 g4 (g1.trans g2.symm) (fun q hq => by have := (fitZ_same g1 F1 q hq).2.1; omega)
      have hez2 := fun (u u' : Value) (qs rs : List Zp) (W : World) (g1 : qs.map (·.1) = ps2.map (·.1)) (g2 : rs.map (·.1) = ps2.map (·.1)) (g3 : ZRow W u qs) (g4 : ZRow W u' rs) => eqZone_any o2 u u' qs rs W g3 g4 (g1.trans g2.symm) (fun q hq => by have := (fitZ_same g1 F2 q hq).2.1; omega)
      go_upto_region 14 with fail
      have bd := (Below.refl w7.heap.size w7).drew; refine wp_region_last (fun X => Blk X w.heap.size #[.string o1, .slice va1 ps1.length vc1] 24 ∧ Blk X w4.heap.size #[.string o1, .slice ua4 qs4.length uc4] 35) 1000 (by kernel_rfl) ⟨blk_drew ky7, blk_drew x47⟩ (fun hHeld => ?_); refine tkL (i := 0) (v := ?_) rfl ?_ ?_; rotate_left 1
      · (rintro W ⟨s1, s2⟩; have ss1 := (fun i => blk_cell s1 i); have ss2 := (fun i => blk_cell s2 i); go_simp; try (with_reducible rfl))
      refine tkL (i := 1) (v := ?_) rfl ?_ ?_; rotate_left 1
      · (rintro W ⟨s1, s2⟩; have ss1 := (fun i => blk_cell s1 i); have ss2 := (fun i => blk_cell s2 i); go_simp; try (with_reducible rfl))
      refine wpAnyL_one (i := 2) (by kernel_rfl) rfl (fun K hK => ?_); go_simp; refine (hto1 _ (Nm.below_two bw7 bd)).mono ?_; rintro e wn ⟨un, qsn, rfl, hqn, zn, bn⟩; have b1n := Nm.below_two bd bn; go_wp2_with fail
      refine hK.out _ _ ⟨blk_below ky7 b1n, blk_below x47 b1n⟩ (fun hHeld => ?_); clear hK K; refine wpAnyL_one (i := 3) (by kernel_rfl) rfl (fun K hK => ?_); go_simp; refine (hez1 _ _ qs4 qsn _ hq4 hqn (z47.below b1n).read zn.read).mono ?_; rintro e w8 ⟨rfl, bn2⟩; have b2n := Nm.below_two b1n bn2; go_wp2_with fail
      refine hK.out _ _ ⟨blk_below ky7 b2n, blk_below x47 b2n⟩ (fun hHeld => ?_); clear hK K; refine tkL (i := 4) (v := ?_) rfl ?_ ?_; rotate_left 1
      · (rintro W ⟨s1, s2⟩; have ss1 := (fun i => blk_cell s1 i); have ss2 := (fun i => blk_cell s2 i); go_simp; try (with_reducible rfl))
      refine wpAnyL_done (by kernel_rfl) ?_; have ky8 := blk_below ky7 b2n; have kz8 := blk_below kz7 b2n; have kc8 := blk_below kc7 b2n; have hw8 := hw7.below b2n; have bw8 := Nm.below_two bw7 b2n; have z48 := z47.below b2n; have z58 := z57.below b2n; have x48 := blk_below x47 b2n; have x58 := blk_below x57 b2n; have k8 := blk_below k7 b2n; have oc8 := oc7.below b2n; clear ky7 kz7 kc7 hw7 z47 z57 x47 x57 k7 oc7 bw7; clear b1n bn bn2 zn hqn b2n bd; go_upto_region 16 with fail
      have bd := (Below.refl w8.heap.size w8).drew; refine wp_region_last (fun X => Blk X (w.heap.size + 1) #[.string o2, .slice va2 ps2.length vc2] 24 ∧ Blk X w5.heap.size #[.string o2, .slice ua5 qs5.length uc5] 35) 1000 (by kernel_rfl) ⟨blk_drew kz8, blk_drew x58⟩ (fun hHeld => ?_); refine tkL (i := 0) (v := ?_) rfl ?_ ?_; rotate_left 1
      · (rintro W ⟨s1, s2⟩; have ss1 := (fun i => blk_cell s1 i); have ss2 := (fun i => blk_cell s2 i); go_simp; try (with_reducible rfl))
      refine tkL (i := 1) (v := ?_) rfl ?_ ?_; rotate_left 1
      · (rintro W ⟨s1, s2⟩; have ss1 := (fun i => blk_cell s1 i); have ss2 := (fun i => blk_cell s2 i); go_simp; try (with_reducible rfl))
      refine wpAnyL_one (i := 2) (by kernel_rfl) rfl (fun K hK => ?_); go_simp; refine (hto2 _ (Nm.below_two bw8 bd)).mono ?_; rintro e wm ⟨un, qsn, rfl, hqn, zn, bn⟩; have b1n := Nm.below_two bd bn; go_wp2_with fail
      refine hK.out _ _ ⟨blk_below kz8 b1n, blk_below x58 b1n⟩ (fun hHeld => ?_); clear hK K; refine wpAnyL_one (i := 3) (by kernel_rfl) rfl (fun K hK => ?_); go_simp; refine (hez2 _ _ qs5 qsn _ hq5 hqn (z58.below b1n).read zn.read).mono ?_; rintro e w9 ⟨rfl, bn2⟩; have b2n := Nm.below_two b1n bn2; go_wp2_with fail
      refine hK.out _ _ ⟨blk_below kz8 b2n, blk_below x58 b2n⟩ (fun hHeld => ?_); clear hK K; refine tkL (i := 4) (v := ?_) rfl ?_ ?_; rotate_left 1
      · (rintro W ⟨s1, s2⟩; have ss1 := (fun i => blk_cell s1 i); have ss2 := (fun i => blk_cell s2 i); go_simp; try (with_reducible rfl))
      refine wpAnyL_done (by kernel_rfl) ?_; have ky9 := blk_below ky8 b2n; have kz9 := blk_below kz8 b2n; have kc9 := blk_below kc8 b2n; have hw9 := hw8.below b2n; have bw9 := Nm.below_two bw8 b2n; have z49 := z48.below b2n; have z59 := z58.below b2n; have x49 := blk_below x48 b2n; have x59 := blk_below x58 b2n; have k9 := blk_below k8 b2n; have oc9 := oc8.below b2n; clear ky8 kz8 kc8 hw8 z48 z58 x48 x58 k8 oc8 bw8; clear b1n bn bn2 zn hqn b2n bd; have n1 : zl qs4 ≤ 5000000 := by have h := zl_le qs4; have e := congrArg List.length hq4; rw [zsum_same hq4] at h; simp at e; omega
      have n2 : zl qs5 ≤ 5000000 := by have h := zl_le qs5; have e := congrArg List.length hq5; rw [zsum_same hq5] at h; simp at e; omega
      have hm1 := markZone_mk o1 _ qs4 wc.heap.size w4.heap.size 1 w9 z49 hC4 hD4 (by omega) (by decide); obtain ⟨K1, hK1⟩ : ∃ K1 : Nat, K1 = 1 + zl qs4 := ⟨_, rfl⟩; have hm2 := fun W (g : OZ W (w4.heap.size + 1) (.slice ua5 qs5.length uc5) qs5) => markZone_mk o2 _ qs5 (w4.heap.size + 1) w5.heap.size K1 W g hC5 hD5 (by omega) (by omega)
      obtain ⟨K2, hK2⟩ : ∃ K2 : Nat, K2 = K1 + zl qs5 := ⟨_, rfl⟩; rw [← hK1] at hm1; rw [← hK2] at hm2; have p2 : (0 : Int) ≤ (K2 : Int) := by omega
      clear hK1 hK2 n1 n2 hez1 hez2; have rx := fun i => blk_cell x49 i
      go_wp2_with fail
      go_at_call 11
      refine hm1.mono ?_; rintro e w10 ⟨rfl, m1⟩; have hz9 := blk_lt k9; have ky10 := blk_mj ky9 (.inl (by omega)) m1; have kz10 := blk_mj kz9 (.inl (by omega)) m1; have kc10 := blk_mj kc9 (.inl hcc) m1; have hw10 := hw9.mj lt0 lt0' (Nat.le_refl _) m1; have z510 := z59.mj (by omega) m1; have x510 := blk_mj x59 (.inr (by omega)) m1; have k10 := blk_mj k9 (.inr (by omega)) m1; have oc10 := oc9.mj (by omega) m1; have bw10 : Below w.heap.size w w10 := bw9.trans (m1.down (by omega) bw9.size); clear rx ky9 kz9 kc9 hw9 z59 x59 k9 oc9 x49 z49 bw9 hm1; have rx := fun i => blk_cell x510 i
      go_wp2_with fail
      go_at_call 11
      refine (hm2 _ z510).mono ?_; rintro e w11 ⟨rfl, m2⟩; have ky11 := blk_mj ky10 (.inl (by omega)) m2; have kz11 := blk_mj kz10 (.inl (by omega)) m2; have kc11 := blk_mj kc10 (.inl (by omega)) m2; have hw11 := hw10.mj lt0 lt0' (by omega) m2; have k11 := blk_mj k10 (.inr (by omega)) m2; have oc11 := oc10.mj (by omega) m2; have bw11 : Below w.heap.size w w11 := bw10.trans (m2.down (by omega) bw10.size); have r6 := fun i => blk_cell k11 i
      have rc := fun i => blk_cell kc11 i
      clear rx ky10 kz10 kc10 hw10 z510 x510 k10 oc10 bw10 hm2; go_wp2_with fail
      go_at_call 9
      refine (heq _ oc11.has hw11).mono ?_; rintro e w12 ⟨rfl, b12⟩; have ky12 := blk_below ky11 b12; have kz12 := blk_below kz11 b12; have kc12 := blk_below kc11 b12; have hw12 := hw11.below b12; have k12 := blk_below k11 b12; have oc12 := oc11.below b12; have bw12 := Nm.below_two bw11 b12; have s12 : w6.heap.size < w12.heap.size := blk_lt k12; have hmc := markChange_any R.old R.new _ _ R.del R.add (w5.heap.size + 1) 1 w12 oc12 (by omega) hRl.1 hRl.2 (by decide); obtain ⟨N, hN⟩ : ∃ N : Nat, N = 1 + R.del.length * 5 + R.add.length * 5 := ⟨_, rfl⟩; have hhc := fun W g => heldChange_any R.old R.new (.slice da6 R.del.length dc6) (.slice aa6 R.add.length ac6) (w5.heap.size + 1) R.del.length R.add.length 1 W g hRl.1 hRl.2 (by decide)
      rw [← hN] at hmc hhc; have hNp : (0 : Int) ≤ (N : Int) := by omega
      have hNn : ((N : Int) != (N : Int)) = false := by simp
      clear r6 rc ky11 kz11 kc11 hw11 k11 oc11 bw11 hN; have r6 := fun i => blk_cell k12 i
      go_wp2_with fail
      go_at_call 12
      refine hmc.mono ?_; rintro e w13 ⟨rfl, cm13, b13, hk13⟩; have ky13 : Blk w13 w.heap.size #[.string o1, .slice va1 ps1.length vc1] 24 := (b13.block _ (by omega)).trans ky12; have kz13 : Blk w13 (w.heap.size + 1) #[.string o2, .slice va2 ps2.length vc2] 24 := (b13.block _ (by omega)).trans kz12; have kc13 : Blk w13 c0 (cgL R.old R.new (.slice da0 R.del.length dc0) (.slice aa0 R.add.length ac0)).toArray 30 := (b13.block _ (by omega)).trans kc12; have hw13 := hw12.low (N := w5.heap.size + 1) (fun g hg => by have := lt0 g hg; omega) (fun g hg => by have := lt0' g hg; omega) b13; have k13 : Blk w13 w6.heap.size (cgL R.old R.new (.slice da6 R.del.length dc6) (.slice aa6 R.add.length ac6)).toArray 30 := (hk13 _ s12 (fun e => by have := lt6 _ e; omega) (fun e => by have := lt6' _ e; omega)).trans k12; have bw13 : Below w.heap.size w w13 := bw12.trans (Below.mono b13 (by omega)); have r13 := fun i => blk_cell k13 i
      clear r6 ky12 kz12 kc12 hw12 k12 oc12 bw12 hmc hk13; go_wp2_with fail
      go_at_call 13
      refine (hhc _ cm13).mono ?_; rintro e wq ⟨rfl, b14⟩; have kyq := blk_below ky13 b14; have kzq := blk_below kz13 b14; have kcq := blk_below kc13 b14; have hwq := hw13.below b14; have kq := blk_below k13 b14; have cmq := cm13.below b14; have bwq := Nm.below_two bw13 b14; have zq : w6.heap.size < wq.heap.size := blk_lt kq; clear r13 ky13 kz13 kc13 hw13 k13 cm13 bw13 b13 b14; have kS : Hid (∀ X, Below wq.heap.size wq X → Blk X w.heap.size #[.string o1, .slice va1 ps1.length vc1] 24 ∧ Blk X (w.heap.size + 1) #[.string o2, .slice va2 ps2.length vc2] 24) := fun X hX => ⟨blk_below kyq hX, blk_below kzq hX⟩
      have bd := (Below.refl wq.heap.size wq).drew; go_upto_region 31 with fail
      go_cut [15, 16] from 94 to 101 (fun p q wx => ∃ (c : Nat) (d a : Value), p = .pointer (some ⟨c, 0, none⟩) ∧ q = .int .i64 R.co ∧ wq.heap.size ≤ c ∧ Blk wx c (cgL R.old R.new d a).toArray 30 ∧ DzHas R wx d a ∧ Below wq.heap.size wq wx)
      case first =>
       refine wp_region_last (fun X => Blk X w.heap.size #[.string o1, .slice va1 ps1.length vc1] 24 ∧ Blk X (w.heap.size + 1) #[.string o2, .slice va2 ps2.length vc2] 24) 1000 (by kernel_rfl) (kS.out _ bd) (fun hHeld => ?_); refine tkL (i := 0) (v := ?_) rfl ?_ ?_; rotate_left 1
       · (rintro W ⟨s1, s2⟩; have ss1 := (fun i => blk_cell s1 i); have ss2 := (fun i => blk_cell s2 i); go_simp; try (with_reducible rfl))
       refine tkL (i := 2) (v := ?_) rfl ?_ ?_; rotate_left 1
       · (rintro W ⟨s1, s2⟩; have ss1 := (fun i => blk_cell s1 i); have ss2 := (fun i => blk_cell s2 i); go_simp; try (with_reducible rfl))
       refine wpAnyL_two (i := 1) (j := 8) (by kernel_rfl) rfl rfl (fun K hK => ?_) (fun K hK => ?_)
       · go_simp; refine (hto1 _ (Nm.below_two bwq bd)).mono ?_; rintro e x3 ⟨u1, q1, rfl, e1, z1, cx3⟩; have bx3 := Nm.below_two bd cx3; go_wp2_with fail
         refine hK.out _ _ (kS.out _ bx3) (fun hHeld => ?_); clear hK K; refine wpAnyL_two (i := 3) (j := 8) (by kernel_rfl) rfl rfl (fun K hK => ?_) (fun K hK => ?_)
         · go_simp; refine (hto2 _ (Nm.below_two bwq bx3)).mono ?_; rintro e x4 ⟨u2, q2, rfl, e2, z2, cx4⟩; have z1 := z1.below cx4; have bx4 := Nm.below_two bx3 cx4; go_wp2_with fail
           refine hK.out _ _ (kS.out _ bx4) (fun hHeld => ?_); clear hK K; refine wpAnyL_two (i := 4) (j := 8) (by kernel_rfl) rfl rfl (fun K hK => ?_) (fun K hK => ?_)
           · go_simp; refine (him u1 u2 q1 q2 _ e1 e2 z1.read z2.read).mono ?_; rintro e x5 ⟨d, a, rfl, oc, cx5⟩; have bx5 := Nm.below_two bx4 cx5; obtain ⟨⟨da, dc, rfl⟩, aa, ac, rfl⟩ := oc.sl; go_wp2_with fail
             refine hK.out _ _ (kS.out _ bx5) (fun hHeld => ?_); clear hK K; refine tkL (i := 5) (v := ?_) rfl ?_ ?_; rotate_left 1
             · (rintro W ⟨s1, s2⟩; have ss1 := (fun i => blk_cell s1 i); have ss2 := (fun i => blk_cell s2 i); go_simp; try (with_reducible rfl))
             refine tkL (i := 6) (v := ?_) rfl ?_ ?_; rotate_left 1
             · (rintro W ⟨s1, s2⟩; have ss1 := (fun i => blk_cell s1 i); have ss2 := (fun i => blk_cell s2 i); go_simp; try (with_reducible rfl))
             refine tkL (i := 7) (v := ?_) rfl ?_ ?_; rotate_left 1
             · (rintro W ⟨s1, s2⟩; have ss1 := (fun i => blk_cell s1 i); have ss2 := (fun i => blk_cell s2 i); go_simp; try (with_reducible rfl))
             refine wpAnyL_one (i := 8) (by kernel_rfl) rfl (fun K hK => ?_); go_simp; have ca := (Below.refl x5.heap.size x5).alloc (Nat.le_refl _) (.cells #[.string ⟨#[]⟩, .int .i64 0, .int .i64 0, .int .i64 0, .string ⟨#[]⟩, .string ⟨#[]⟩, .int .i64 0, .int .i64 0, .int .i64 0, .string ⟨#[]⟩, .slice none 0 0, .slice none 0 0] 30); have kc := blk_new x5 #[.string ⟨#[]⟩, .int .i64 0, .int .i64 0, .int .i64 0, .string ⟨#[]⟩, .string ⟨#[]⟩, .int .i64 0, .int .i64 0, .int .i64 0, .string ⟨#[]⟩, .slice none 0 0, .slice none 0 0] 30; have rk := fun i => blk_cell kc i
             have fk := fun i => blk_frozen kc i
             have lb := bx5.size; refine hK.out _ _ (kS.out _ (Nm.below_two bx5 ca)) (fun hHeld => ?_); clear hK K; have cn := (Below.refl x5.heap.size x5).alloc (Nat.le_refl _) (.cells (cgL R.old R.new (.slice da R.del.length dc) (.slice aa R.add.length ac)).toArray 30); have kX := blk_new x5 (cgL R.old R.new (.slice da R.del.length dc) (.slice aa R.add.length ac)).toArray 30; have HX := Nm.hide (And.intro (oc.below cn).has (Nm.below_two bx5 cn)); refine wpAnyL_one (i := 9) (by kernel_rfl) rfl (fun K hK => ?_); go_simp; refine hK.out _ _ (kS.out _ HX.out.2) (fun hHeld => ?_); clear hK K; refine tkL (i := 10) (v := ?_) rfl ?_ ?_; rotate_left 1
             · (rintro W ⟨s1, s2⟩; have ss1 := (fun i => blk_cell s1 i); have ss2 := (fun i => blk_cell s2 i); go_simp; try (with_reducible rfl))
             refine wpAnyL_done (by kernel_rfl) ?_; go_wp2_with fail
             go_meet
             case rel => exact ⟨x5.heap.size, _, _, rfl, rfl, by omega, kX, HX.out.1, HX.out.2⟩
           · go_simp; have ca := (Below.refl x4.heap.size x4).alloc (Nat.le_refl _) (.cells #[.string ⟨#[]⟩, .int .i64 0, .int .i64 0, .int .i64 0, .string ⟨#[]⟩, .string ⟨#[]⟩, .int .i64 0, .int .i64 0, .int .i64 0, .string ⟨#[]⟩, .slice none 0 0, .slice none 0 0] 30); have kc := blk_new x4 #[.string ⟨#[]⟩, .int .i64 0, .int .i64 0, .int .i64 0, .string ⟨#[]⟩, .string ⟨#[]⟩, .int .i64 0, .int .i64 0, .int .i64 0, .string ⟨#[]⟩, .slice none 0 0, .slice none 0 0] 30; have la : x4.heap.size < (x4.alloc (.cells #[.string ⟨#[]⟩, .int .i64 0, .int .i64 0, .int .i64 0, .string ⟨#[]⟩, .string ⟨#[]⟩, .int .i64 0, .int .i64 0, .int .i64 0, .string ⟨#[]⟩, .slice none 0 0, .slice none 0 0] 30)).heap.size := by simp
             have lb := bx4.size; have bA := Nm.below_two bx4 ca; have z1 := z1.below ca; have z2 := z2.below ca; refine hK.out _ _ (kS.out _ bA) (fun hHeld => ?_); clear hK K; refine wpAnyL_one (i := 4) (by kernel_rfl) rfl (fun K hK => ?_); go_simp; refine (him u1 u2 q1 q2 _ e1 e2 z1.read z2.read).mono ?_; rintro e x5 ⟨d, a, rfl, oc, cx5⟩; have bx5 := Nm.below_two bA cx5; obtain ⟨⟨da, dc, rfl⟩, aa, ac, rfl⟩ := oc.sl; go_wp2_with fail
             refine hK.out _ _ (kS.out _ bx5) (fun hHeld => ?_); clear hK K; refine tkL (i := 5) (v := ?_) rfl ?_ ?_; rotate_left 1
             · (rintro W ⟨s1, s2⟩; have ss1 := (fun i => blk_cell s1 i); have ss2 := (fun i => blk_cell s2 i); go_simp; try (with_reducible rfl))
             refine tkL (i := 6) (v := ?_) rfl ?_ ?_; rotate_left 1
             · (rintro W ⟨s1, s2⟩; have ss1 := (fun i => blk_cell s1 i); have ss2 := (fun i => blk_cell s2 i); go_simp; try (with_reducible rfl))
             refine tkL (i := 7) (v := ?_) rfl ?_ ?_; rotate_left 1
             · (rintro W ⟨s1, s2⟩; have ss1 := (fun i => blk_cell s1 i); have ss2 := (fun i => blk_cell s2 i); go_simp; try (with_reducible rfl))
             have kc := blk_below kc cx5; have rk := fun i => blk_cell kc i
             have fk := fun i => blk_frozen kc i
             have kX := setAll_new (cgL R.old R.new (.slice da R.del.length dc) (.slice aa R.add.length ac)) kc rfl; have HX : Hid (DzHas R (setAll x5 x4.heap.size 0 (cgL R.old R.new (.slice da R.del.length dc) (.slice aa R.add.length ac))) (.slice da R.del.length dc) (.slice aa R.add.length ac) ∧ Below wq.heap.size wq (setAll x5 x4.heap.size 0 (cgL R.old R.new (.slice da R.del.length dc) (.slice aa R.add.length ac)))) := ⟨(oc.setA (by omega) _ 0).has, below_setA (by omega) _ 0 _ bx5⟩; simp only [setAll, Nat.reduceAdd, Nat.zero_add] at kX HX; refine wpAnyL_one (i := 9) (by kernel_rfl) rfl (fun K hK => ?_); go_simp; refine hK.out _ _ (kS.out _ HX.out.2) (fun hHeld => ?_); clear hK K; refine tkL (i := 10) (v := ?_) rfl ?_ ?_; rotate_left 1
             · (rintro W ⟨s1, s2⟩; have ss1 := (fun i => blk_cell s1 i); have ss2 := (fun i => blk_cell s2 i); go_simp; try (with_reducible rfl))
             refine wpAnyL_done (by kernel_rfl) ?_; go_wp2_with fail
             go_meet
             case rel => exact ⟨x4.heap.size, _, _, rfl, rfl, by omega, kX, HX.out.1, HX.out.2⟩
         · go_simp; have ca := (Below.refl x3.heap.size x3).alloc (Nat.le_refl _) (.cells #[.string ⟨#[]⟩, .int .i64 0, .int .i64 0, .int .i64 0, .string ⟨#[]⟩, .string ⟨#[]⟩, .int .i64 0, .int .i64 0, .int .i64 0, .string ⟨#[]⟩, .slice none 0 0, .slice none 0 0] 30); have kc := blk_new x3 #[.string ⟨#[]⟩, .int .i64 0, .int .i64 0, .int .i64 0, .string ⟨#[]⟩, .string ⟨#[]⟩, .int .i64 0, .int .i64 0, .int .i64 0, .string ⟨#[]⟩, .slice none 0 0, .slice none 0 0] 30; have la : x3.heap.size < (x3.alloc (.cells #[.string ⟨#[]⟩, .int .i64 0, .int .i64 0, .int .i64 0, .string ⟨#[]⟩, .string ⟨#[]⟩, .int .i64 0, .int .i64 0, .int .i64 0, .string ⟨#[]⟩, .slice none 0 0, .slice none 0 0] 30)).heap.size := by simp
           have lb := bx3.size; have bA := Nm.below_two bx3 ca; have z1 := z1.below ca; refine hK.out _ _ (kS.out _ bA) (fun hHeld => ?_); clear hK K; refine wpAnyL_one (i := 3) (by kernel_rfl) rfl (fun K hK => ?_); go_simp; refine (hto2 _ (Nm.below_two bwq bA)).mono ?_; rintro e x4 ⟨u2, q2, rfl, e2, z2, cx4⟩; have z1 := z1.below cx4; have bx4 := Nm.below_two bA cx4; go_wp2_with fail
           refine hK.out _ _ (kS.out _ bx4) (fun hHeld => ?_); clear hK K; have kc := blk_below kc cx4; have lc := cx4.size; refine wpAnyL_one (i := 4) (by kernel_rfl) rfl (fun K hK => ?_); go_simp; refine (him u1 u2 q1 q2 _ e1 e2 z1.read z2.read).mono ?_; rintro e x5 ⟨d, a, rfl, oc, cx5⟩; have bx5 := Nm.below_two bx4 cx5; obtain ⟨⟨da, dc, rfl⟩, aa, ac, rfl⟩ := oc.sl; go_wp2_with fail
           refine hK.out _ _ (kS.out _ bx5) (fun hHeld => ?_); clear hK K; refine tkL (i := 5) (v := ?_) rfl ?_ ?_; rotate_left 1
           · (rintro W ⟨s1, s2⟩; have ss1 := (fun i => blk_cell s1 i); have ss2 := (fun i => blk_cell s2 i); go_simp; try (with_reducible rfl))
           refine tkL (i := 6) (v := ?_) rfl ?_ ?_; rotate_left 1
           · (rintro W ⟨s1, s2⟩; have ss1 := (fun i => blk_cell s1 i); have ss2 := (fun i => blk_cell s2 i); go_simp; try (with_reducible rfl))
           refine tkL (i := 7) (v := ?_) rfl ?_ ?_; rotate_left 1
           · (rintro W ⟨s1, s2⟩; have ss1 := (fun i => blk_cell s1 i); have ss2 := (fun i => blk_cell s2 i); go_simp; try (with_reducible rfl))
           have kc := blk_below kc cx5; have rk := fun i => blk_cell kc i
           have fk := fun i => blk_frozen kc i
           have kX := setAll_new (cgL R.old R.new (.slice da R.del.length dc) (.slice aa R.add.length ac)) kc rfl; have HX : Hid (DzHas R (setAll x5 x3.heap.size 0 (cgL R.old R.new (.slice da R.del.length dc) (.slice aa R.add.length ac))) (.slice da R.del.length dc) (.slice aa R.add.length ac) ∧ Below wq.heap.size wq (setAll x5 x3.heap.size 0 (cgL R.old R.new (.slice da R.del.length dc) (.slice aa R.add.length ac)))) := ⟨(oc.setA (by omega) _ 0).has, below_setA (by omega) _ 0 _ bx5⟩; simp only [setAll, Nat.reduceAdd, Nat.zero_add] at kX HX; refine wpAnyL_one (i := 9) (by kernel_rfl) rfl (fun K hK => ?_); go_simp; refine hK.out _ _ (kS.out _ HX.out.2) (fun hHeld => ?_); clear hK K; refine tkL (i := 10) (v := ?_) rfl ?_ ?_; rotate_left 1
           · (rintro W ⟨s1, s2⟩; have ss1 := (fun i => blk_cell s1 i); have ss2 := (fun i => blk_cell s2 i); go_simp; try (with_reducible rfl))
           refine wpAnyL_done (by kernel_rfl) ?_; go_wp2_with fail
           go_meet
           case rel => exact ⟨x3.heap.size, _, _, rfl, rfl, by omega, kX, HX.out.1, HX.out.2⟩
       · go_simp; have ca := (Below.refl wq.drew.heap.size wq.drew).alloc (Nat.le_refl _) (.cells #[.string ⟨#[]⟩, .int .i64 0, .int .i64 0, .int .i64 0, .string ⟨#[]⟩, .string ⟨#[]⟩, .int .i64 0, .int .i64 0, .int .i64 0, .string ⟨#[]⟩, .slice none 0 0, .slice none 0 0] 30); have kc : Blk (wq.drew.alloc (.cells #[.string ⟨#[]⟩, .int .i64 0, .int .i64 0, .int .i64 0, .string ⟨#[]⟩, .string ⟨#[]⟩, .int .i64 0, .int .i64 0, .int .i64 0, .string ⟨#[]⟩, .slice none 0 0, .slice none 0 0] 30)) wq.heap.size #[.string ⟨#[]⟩, .int .i64 0, .int .i64 0, .int .i64 0, .string ⟨#[]⟩, .string ⟨#[]⟩, .int .i64 0, .int .i64 0, .int .i64 0, .string ⟨#[]⟩, .slice none 0 0, .slice none 0 0] 30 := blk_new wq.drew #[.string ⟨#[]⟩, .int .i64 0, .int .i64 0, .int .i64 0, .string ⟨#[]⟩, .string ⟨#[]⟩, .int .i64 0, .int .i64 0, .int .i64 0, .string ⟨#[]⟩, .slice none 0 0, .slice none 0 0] 30; have la : wq.heap.size < (wq.drew.alloc (.cells #[.string ⟨#[]⟩, .int .i64 0, .int .i64 0, .int .i64 0, .string ⟨#[]⟩, .string ⟨#[]⟩, .int .i64 0, .int .i64 0, .int .i64 0, .string ⟨#[]⟩, .slice none 0 0, .slice none 0 0] 30)).heap.size := by show wq.heap.size < (wq.heap.push _).size; simp
         have bA := Nm.below_two bd ca; refine hK.out _ _ (kS.out _ bA) (fun hHeld => ?_); clear hK K; refine wpAnyL_one (i := 1) (by kernel_rfl) rfl (fun K hK => ?_); go_simp; refine (hto1 _ (Nm.below_two bwq bA)).mono ?_; rintro e x3 ⟨u1, q1, rfl, e1, z1, cx3⟩; have bx3 := Nm.below_two bA cx3; go_wp2_with fail
         refine hK.out _ _ (kS.out _ bx3) (fun hHeld => ?_); clear hK K; have kc := blk_below kc cx3; have lc := cx3.size; refine wpAnyL_one (i := 3) (by kernel_rfl) rfl (fun K hK => ?_); go_simp; refine (hto2 _ (Nm.below_two bwq bx3)).mono ?_; rintro e x4 ⟨u2, q2, rfl, e2, z2, cx4⟩; have z1 := z1.below cx4; have bx4 := Nm.below_two bx3 cx4; go_wp2_with fail
         refine hK.out _ _ (kS.out _ bx4) (fun hHeld => ?_); clear hK K; have kc := blk_below kc cx4; have ld := cx4.size; refine wpAnyL_one (i := 4) (by kernel_rfl) rfl (fun K hK => ?_); go_simp; refine (him u1 u2 q1 q2 _ e1 e2 z1.read z2.read).mono ?_; rintro e x5 ⟨d, a, rfl, oc, cx5⟩; have bx5 := Nm.below_two bx4 cx5; obtain ⟨⟨da, dc, rfl⟩, aa, ac, rfl⟩ := oc.sl; go_wp2_with fail
         refine hK.out _ _ (kS.out _ bx5) (fun hHeld => ?_); clear hK K; refine tkL (i := 5) (v := ?_) rfl ?_ ?_; rotate_left 1
         · (rintro W ⟨s1, s2⟩; have ss1 := (fun i => blk_cell s1 i); have ss2 := (fun i => blk_cell s2 i); go_simp; try (with_reducible rfl))
         refine tkL (i := 6) (v := ?_) rfl ?_ ?_; rotate_left 1
         · (rintro W ⟨s1, s2⟩; have ss1 := (fun i => blk_cell s1 i); have ss2 := (fun i => blk_cell s2 i); go_simp; try (with_reducible rfl))
         refine tkL (i := 7) (v := ?_) rfl ?_ ?_; rotate_left 1
         · (rintro W ⟨s1, s2⟩; have ss1 := (fun i => blk_cell s1 i); have ss2 := (fun i => blk_cell s2 i); go_simp; try (with_reducible rfl))
         have kc := blk_below kc cx5; have rk := fun i => blk_cell kc i
         have fk := fun i => blk_frozen kc i
         have kX := setAll_new (cgL R.old R.new (.slice da R.del.length dc) (.slice aa R.add.length ac)) kc rfl; have HX : Hid (DzHas R (setAll x5 wq.heap.size 0 (cgL R.old R.new (.slice da R.del.length dc) (.slice aa R.add.length ac))) (.slice da R.del.length dc) (.slice aa R.add.length ac) ∧ Below wq.heap.size wq (setAll x5 wq.heap.size 0 (cgL R.old R.new (.slice da R.del.length dc) (.slice aa R.add.length ac)))) := ⟨(oc.setA (by omega) _ 0).has, below_setA (by omega) _ 0 _ bx5⟩; simp only [setAll, Nat.reduceAdd, Nat.zero_add] at kX HX; refine wpAnyL_one (i := 9) (by kernel_rfl) rfl (fun K hK => ?_); go_simp; refine hK.out _ _ (kS.out _ HX.out.2) (fun hHeld => ?_); clear hK K; refine tkL (i := 10) (v := ?_) rfl ?_ ?_; rotate_left 1
         · (rintro W ⟨s1, s2⟩; have ss1 := (fun i => blk_cell s1 i); have ss2 := (fun i => blk_cell s2 i); go_simp; try (with_reducible rfl))
         refine wpAnyL_done (by kernel_rfl) ?_; go_wp2_with fail
         go_meet
         case rel => exact ⟨wq.heap.size, _, _, rfl, rfl, by omega, kX, HX.out.1, HX.out.2⟩
      case rest =>
       obtain ⟨cE, dE, aE, rfl, rfl, hcE, kcE, hwE, bE⟩ := hcut; obtain ⟨⟨daE, dcE, rfl⟩, aaE, acE, rfl⟩ := hwE.sl; have kcE0 := blk_below kcq bE; have hwE0 := hwq.below bE; have kE := blk_below kq bE; have cmE := cmq.below bE; have bwE := Nm.below_two bwq bE; have rE := fun i => blk_cell kcE i
       have rE0 := fun i => blk_cell kcE0 i
       clear kS bd kyq kzq kcq hwq kq cmq bwq bE; go_wp2_with fail
       go_at_call 9
       refine (eqDz_any hwE hwE0).mono ?_; rintro e w20 ⟨rfl, b20⟩; have k20 := blk_below kE b20; have r20 := fun i => blk_cell k20 i
       have bw20 := Nm.below_two bwE b20; clear rE rE0 kcE kcE0; go_wp2_with fail
       go_at_call 13
       refine (hhc _ (cmE.below b20)).mono ?_; rintro e w21 ⟨rfl, b21⟩; go_wp2; go_ret; exact ⟨rfl, Nm.below_two bw20 b21⟩
   · have e2 : szZ o2 ps2 (1048576 - (o1.size : Int) - (ps1.length : Int) - (zsum ps1 : Int)) = -1 := if_neg hb2; rw [e2] at hsyL; generalize (1048576 - (o1.size : Int) - (ps1.length : Int) - (zsum ps1 : Int)) = L1 at *; clear hb hb2 hx1 hx2 e1 e2 hsy; go_enter Tryz.func3, Tryz.ntmps3; go_wp2_with fail
     go_at_call 5
     refine hsz.mono ?_; rintro e w1 ⟨rfl, b1⟩; have bw1 := Nm.below_two b0 b1; have kz1 := blk_below kz b1; have rz := fun i => blk_cell kz1 i
     go_wp2_with fail
     go_at_call 5
     refine (hsyL _ bw1).mono ?_; rintro e w2 ⟨rfl, b2⟩; go_wp2; go_ret; exact ⟨rfl, Nm.below_two bw1 b2⟩
 · have e1 : szZ o1 ps1 1048576 = -1 := if_neg hb; rw [e1] at hsz; clear hb e1 hx1 hsy; go_enter Tryz.func3, Tryz.ntmps3; go_wp2_with fail
   go_at_call 5
   refine hsz.mono ?_; rintro e w1 ⟨rfl, b1⟩; go_wp2; go_ret; exact ⟨rfl, Nm.below_two b0 b1⟩
end Go.Proofs.YtieobflhfcgliaaGreat
