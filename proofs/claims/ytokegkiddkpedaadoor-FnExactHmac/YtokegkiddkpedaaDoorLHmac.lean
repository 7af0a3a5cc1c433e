/- The law of Hmac: its walk. -/
import Derived.Test.YtokegkiddkpedaaDoorByT
import Derived.Test.YtokegkiddkpedaaDoorSHm
import Derived.Test.YtokegkiddkpedaaDoorIHm
import Derived.Test.YtokegkiddkpedaaDoorEqA
import Derived.Test.YtokegkiddkpedaaDoorLaidM
namespace Go.Proofs.YtokegkiddkpedaaDoor
open Go.RowKit
set_option linter.unusedVariables false

theorem KL_tab {H : Type} : (Rows.laid_loop_example_s01858_impl_roundWords : DataW H) = Lib.tabData .u32 (KL.map fun n => ((n : Nat) : Int)) := rfl
theorem H0_tab {H : Type} : (Rows.laid_loop_example_s01858_impl_firstState : DataW H) = Lib.tabData .u32 [1779033703, 3144134277, 1013904242, 2773480762, 1359893119, 2600822924, 528734635, 1541459225] := rfl

theorem first_of {W : World} (hL : laidMet Tryd.prog Rows.fnExactHmacRow.laid W) : ∃ t fr, W.heap[0]? = some (.cells (hvA H0) t fr) := by
  have h := tab_of_laid (g := 0) (t := 40) (e := 35) (n := 8) (k := .u32) (zs := [1779033703, 3144134277, 1013904242, 2773480762, 1359893119, 2600822924, 528734635, 1541459225]) hL (by exact List.Mem.head _) (by kernel_rfl) (by kernel_rfl) Tryd.underlying40 Tryd.underlying35 (by kernel_rfl) (by kernel_rfl)
  exact var_block (by kernel_rfl) h
theorem round_of {W : World} (hL : laidMet Tryd.prog Rows.fnExactHmacRow.laid W) : KAt W 1 := by
  have h := tab_of_laid (g := 1) (t := 37) (e := 35) (n := 64) (k := .u32) (zs := KL.map fun n => ((n : Nat) : Int)) hL (by exact List.Mem.tail _ (List.Mem.head _)) (by kernel_rfl) (by kernel_rfl) Tryd.underlying37 Tryd.underlying35 (by kernel_rfl) (by kernel_rfl)
  obtain ⟨t, fr, hh⟩ := var_block (g := 1) (by kernel_rfl) h
  intro i hi
  rw [cell_of_row _ _ _ _ _ _ hh, List.map_map]
  exact KW_at hi

set_option maxRecDepth 100000 in
set_option maxHeartbeats 1600000 in
theorem fnExactHmac_walk (a0 : Option Addr) (len0 cap0 : Nat) (z0 : List Int) (a1 : Option Addr) (len1 cap1 : Nat) (z1 : List Int) (w : World) (w0 : RowB w a0 len0 cap0 z0) (w1 : RowB w a1 len1 cap1 z1) (hL : laidMet Tryd.prog Rows.fnExactHmacRow.laid w) :
    Calls Tryd.prog 3 #[.slice a0 len0 cap0, .slice a1 len1 cap1] w fun e w' => e = .returned (.bool true) ∧ Below w.heap.size w w' := by
  obtain ⟨l, hlen, hrow⟩ := rowB w0
  obtain ⟨m, hlem, hrom⟩ := rowB w1
  have hF := first_of hL
  have hK := round_of hL
  clear hL w0 w1
  by_cases hl : 1048576 < len0
  · have hl' : (1048576 : Int) < (len0 : Int) := by omega
    go_enter Tryd.func3, Tryd.ntmps3
    go_wp2
    go_ret
    exact ⟨rfl, Below.refl _ _⟩
  by_cases hm : 1048576 < len1
  · have hl' : ¬ (1048576 : Int) < (len0 : Int) := by omega
    have hm' : (1048576 : Int) < (len1 : Int) := by omega
    go_enter Tryd.func3, Tryd.ntmps3
    go_wp2
    go_ret
    exact ⟨rfl, Below.refl _ _⟩
  · subst hlen
    subst hlem
    have hl' : ¬ (1048576 : Int) < (l.length : Int) := by omega
    have hm' : ¬ (1048576 : Int) < (m.length : Int) := by omega
    have hz32 : ∀ W, (zeroValue 23).run Tryd.prog W = .ok (.agg (Array.replicate 32 (.int .u8 0))) W := by
      have := zero_of_info (P := Tryd.prog) (t := 23) (v := .agg (Array.replicate 32 (.int .u8 0))) (n := 32) (by kernel_rfl)
      exact this.1
    have hs32 : (hmacL l m).length = 32 := by rw [hmacL, shaL]; exact outL_len _
    have hto := fun V W (h : BySl W V l) => toByteS_any V l W h (by omega)
    have htm := fun V W (h : BySl W V m) => toByteS_any V m W h (by omega)
    have hsp := fun V U W (h : BySl W V l) (h' : BySl W U m) => specHmac_any V U l m W h h' (by omega) (by omega)
    have him := fun V U W (h : BySl W V l) (h' : BySl W U m) (hb : Below w.heap.size w W) => implHmac_any V U l m W h h' (by omega) (by omega) (by
      obtain ⟨t, fr, hh⟩ := hF
      exact ⟨t, fr, (hb.block _ (Array.getElem?_eq_some_iff.1 hh).1).trans hh⟩) (hK.below hb)
    have heq := fun V U W (h : BySl W V l) (h' : BySl W U l) => eqByteS_any V U l W h h' (by omega)
    have hem := fun V U W (h : BySl W V m) (h' : BySl W U m) => eqByteS_any V U m W h h' (by omega)
    have heA := fun W => eqByteA32_any (hmacL l m) hs32 W
    generalize hmacL l m = sl at *
    have hsB : (byA sl).size = 32 := by rw [byA_size]; exact hs32
    have hinfB : (Tryd.prog.info? 23).map (·.size) = some (byA sl).size := by rw [hsB]; kernel_rfl
    have HsB := Nm.hide hsB
    clear hF hK hs32 hsB
    have hnew : ∀ W W' : World, Only W.heap.size (W.alloc (.cells (Array.replicate 32 (.int .u8 0)) 23)) W' → Below W.heap.size W W' := fun W W' o =>
      o.below ((Below.refl _ W).alloc (Nat.le_refl _) _) (Nat.le_refl _) (by rw [World.size_alloc]; omega)
    go_enter Tryd.func3, Tryd.ntmps3
    go_wp2_with fail
    refine (hto _ _ hrow).mono ?_
    rintro e w1 ⟨v1, rfl, c1, b1⟩
    go_wp2_with fail
    refine (htm _ _ (hrom.below b1)).mono ?_
    rintro e w2 ⟨v2, rfl, c2, b2⟩
    have b02 := Nm.below_two b1 b2
    go_wp2_with fail
    refine (hsp _ _ _ (c1.below b2) c2).mono ?_
    rintro e w3 ⟨rfl, b3⟩
    have b03 := Nm.below_two b02 b3
    clear c1 c2 b1 b2 b3 b02
    go_wp2_with (refine wpList_store_blk (.tmp 5) (.tmp 19) 23 rfl rfl rfl w3.heap.size _ _ (blk_new _ _ _) rfl rfl hinfB (by rw [HsB.out]; simp) (byA_one _) ?_; intro w4 k4 o4; have b4 := hnew _ _ o4; clear o4)
    have b04 := Nm.below_two b03 b4
    clear b4 b03
    generalize w3.heap.size = q3 at *
    refine (hto _ _ (hrow.below b04)).mono ?_
    rintro e w5 ⟨v5, rfl, c5, b5⟩
    have b05 := Nm.below_two b04 b5
    have k5 := blk_below k4 b5
    clear b04 k4
    go_wp2_with fail
    refine (htm _ _ (hrom.below b05)).mono ?_
    rintro e w6 ⟨v6, rfl, c6, b6⟩
    have b06 := Nm.below_two b05 b6
    have k6 := blk_below k5 b6
    have c56 := c5.below b6
    clear b05 k5 c5 b5
    go_wp2_with fail
    refine (him _ _ _ c56 c6 b06).mono ?_
    rintro e w7 ⟨rfl, b7⟩
    have b07 := Nm.below_two b06 b7
    have k7 := blk_below k6 b7
    have c57 := c56.below b7
    have c67 := c6.below b7
    clear b06 k6 c56 c6 b6 b7 hsp him
    go_wp2_with (first
      | (refine wpList_store_blk (.tmp 8) (.tmp 26) 23 rfl rfl rfl w7.heap.size _ _ (blk_new _ _ _) rfl rfl hinfB (by rw [HsB.out]; simp) (byA_one _) ?_; intro w8 k8 o8; have b8 := hnew _ _ o8; have k78 := blk_below k7 b8; clear o8)
      | (refine wpList_load_blk (.tmp 8) 23 rfl rfl w7.heap.size _ _ k8 rfl Tryd.underlying23 rfl hinfB ?_)
      | (refine wpList_load_blk (.tmp 5) 23 rfl rfl q3 _ _ k78 rfl Tryd.underlying23 rfl hinfB ?_))
    have b08 := Nm.below_two b07 b8
    have c58 := c57.below b8
    have c68 := c67.below b8
    clear c57 c67 b07 b8
    refine (heA _).mono ?_
    rintro e w9 ⟨rfl, b9⟩
    have b09 := Nm.below_two b08 b9
    have c59 := c58.below b9
    have c69 := c68.below b9
    clear c58 c68 b08 b9
    go_wp2_with fail
    refine (hto _ _ (hrow.below b09)).mono ?_
    rintro e w10 ⟨v10, rfl, c10, b10⟩
    have b010 := Nm.below_two b09 b10
    go_wp2_with fail
    refine (heq _ _ _ (c59.below b10) c10).mono ?_
    rintro e w11 ⟨rfl, b11⟩
    have b011 := Nm.below_two b010 b11
    have c611 := (c69.below b10).below b11
    go_wp2_with fail
    refine (htm _ _ (hrom.below b011)).mono ?_
    rintro e w12 ⟨v12, rfl, c12, b12⟩
    have b012 := Nm.below_two b011 b12
    go_wp2_with fail
    refine (hem _ _ _ (c611.below b12) c12).mono ?_
    rintro e w13 ⟨rfl, b13⟩
    go_wp2
    go_ret
    exact ⟨rfl, Nm.below_two b012 b13⟩
end Go.Proofs.YtokegkiddkpedaaDoor
