/- The law of Sha256: its walk. -/
import Derived.Test.YtopgflejlgaciaaDoorByT
import Derived.Test.YtopgflejlgaciaaDoorShA
import Derived.Test.YtopgflejlgaciaaDoorISh
import Derived.Test.YtopgflejlgaciaaDoorLaidM
namespace Go.Proofs.YtopgflejlgaciaaDoor
open Go.RowKit
set_option linter.unusedVariables false

theorem byA_at {l : List UInt8} {k : Nat} (h : k < l.length) : (byA l)[k]? = some (.int .u8 ((l[k]).toNat : Int)) := by simp [byA, h]

set_option maxRecDepth 100000 in
set_option maxHeartbeats 1600000 in
theorem eqByteA32_any (l : List UInt8) (hl : l.length = 32) (w : World) :
    Calls Tryd.prog 7 #[.agg (byA l), .agg (byA l)] w fun e w' => e = .returned (.bool true) ∧ Below w.heap.size w w' := by
  obtain ⟨W0, hW0⟩ : ∃ W0, W0 = (w.alloc (.cells (byA l) 23)).alloc (.cells (byA l) 23) := ⟨_, rfl⟩
  have b1 : Blk W0 w.heap.size (byA l) 23 := by rw [hW0]; exact blk_alloc (blk_new _ _ _) _
  have b2 : Blk W0 (w.heap.size + 1) (byA l) 23 := by
    have h := blk_new (w.alloc (.cells (byA l) 23)) (byA l) 23
    rw [World.size_alloc] at h
    rw [hW0]; exact h
  have hB : Below w.heap.size w W0 := by
    have h1 := (Below.refl w.heap.size w).alloc (Nat.le_refl _) (.cells (byA l) 23)
    rw [hW0]; exact h1.alloc h1.size _
  go_enter Tryd.func7, Tryd.ntmps7
  go_wp2
  rw [← hW0]
  have HL := Nm.hide hl
  clear hW0 hl
  go_loopw [5] (fun i wr => ∃ k : Nat, k ≤ 32 ∧ i = .int .i64 k ∧ Blk wr w.heap.size (byA l) 23 ∧ Blk wr (w.heap.size + 1) (byA l) 23 ∧ Below w.heap.size w wr) (fun i _ => 32 - (intOf i).toNat)
  case atStart => exact ⟨0, by omega, rfl, b1, b2, hB⟩
  case round =>
    clear b1 b2 hB
    obtain ⟨k, hk, rfl, b1, b2, hB⟩ := hrel
    by_cases hlt : k < 32
    · have i1 : (0 : Int) ≤ (k : Int) := by omega
      have i2 : (k : Int) < 32 := by omega
      have hkl : k < l.length := by rw [HL.out]; exact hlt
      have c1 := (blk_cell b1 k).trans (byA_at hkl)
      have c2 := (blk_cell b2 k).trans (byA_at hkl)
      generalize l[k] = c at *
      have hcc : ((c.toNat : Int) != (c.toNat : Int)) = false := by simp
      go_wp2
      go_region
      all_goals go_wp2
      go_roundw
      case rel => exact ⟨k + 1, by omega, by go_num, blk_drew b1, blk_drew b2, hB.drew⟩
      case measure => simp [intOf]; omega
    · obtain rfl : k = 32 := by omega
      have i2 : ¬ ((32 : Nat) : Int) < 32 := by omega
      go_wp2
      go_ret
      exact ⟨rfl, hB⟩

theorem KL_tab {H : Type} : (Rows.laid_loop_example_s01858_impl_roundWords : DataW H) = Lib.tabData .u32 (KL.map fun n => ((n : Nat) : Int)) := rfl
theorem H0_tab {H : Type} : (Rows.laid_loop_example_s01858_impl_firstState : DataW H) = Lib.tabData .u32 [1779033703, 3144134277, 1013904242, 2773480762, 1359893119, 2600822924, 528734635, 1541459225] := rfl

theorem first_of {W : World} (hL : laidMet Tryd.prog Rows.fnExactSha256Row.laid W) : ∃ t fr, W.heap[0]? = some (.cells (hvA H0) t fr) := by
  have h := tab_of_laid (g := 0) (t := 35) (e := 30) (n := 8) (k := .u32) (zs := [1779033703, 3144134277, 1013904242, 2773480762, 1359893119, 2600822924, 528734635, 1541459225]) hL (by exact List.Mem.head _) (by kernel_rfl) (by kernel_rfl) Tryd.underlying35 Tryd.underlying30 (by kernel_rfl) (by kernel_rfl)
  exact var_block (by kernel_rfl) h
theorem round_of {W : World} (hL : laidMet Tryd.prog Rows.fnExactSha256Row.laid W) : KAt W 1 := by
  have h := tab_of_laid (g := 1) (t := 32) (e := 30) (n := 64) (k := .u32) (zs := KL.map fun n => ((n : Nat) : Int)) hL (by exact List.Mem.tail _ (List.Mem.head _)) (by kernel_rfl) (by kernel_rfl) Tryd.underlying32 Tryd.underlying30 (by kernel_rfl) (by kernel_rfl)
  obtain ⟨t, fr, hh⟩ := var_block (g := 1) (by kernel_rfl) h
  intro i hi
  rw [cell_of_row _ _ _ _ _ _ hh, List.map_map]
  exact KW_at hi

set_option maxRecDepth 100000 in
set_option maxHeartbeats 1600000 in
theorem fnExactSha256_walk (a0 : Option Addr) (len0 cap0 : Nat) (z0 : List Int) (w : World) (w0 : RowB w a0 len0 cap0 z0) (hL : laidMet Tryd.prog Rows.fnExactSha256Row.laid w) :
    Calls Tryd.prog 3 #[.slice a0 len0 cap0] w fun e w' => e = .returned (.bool true) ∧ Below w.heap.size w w' := by
  obtain ⟨l, hlen, hrow⟩ := rowB w0
  have hF := first_of hL
  have hK := round_of hL
  clear hL w0
  by_cases hl : 1048576 < len0
  · have hl' : (1048576 : Int) < (len0 : Int) := by omega
    go_enter Tryd.func3, Tryd.ntmps3
    go_wp2
    go_ret
    exact ⟨rfl, Below.refl _ _⟩
  · subst hlen
    have hl' : ¬ (1048576 : Int) < (l.length : Int) := by omega
    have hz32 : ∀ W, (zeroValue 23).run Tryd.prog W = .ok (.agg (Array.replicate 32 (.int .u8 0))) W := by
      have := zero_of_info (P := Tryd.prog) (t := 23) (v := .agg (Array.replicate 32 (.int .u8 0))) (n := 32) (by kernel_rfl)
      exact this.1
    have hs32 : (shaL l).length = 32 := by rw [shaL]; exact outL_len _
    have hto := fun V W (h : BySl W V l) => toByteS_any V l W h (by omega)
    have hsp := fun V W (h : BySl W V l) => specSha256_any V l W h (by omega)
    have him := fun V W (h : BySl W V l) (hb : Below w.heap.size w W) => implSha256_any V l W h (by omega) (by
      obtain ⟨t, fr, hh⟩ := hF
      exact ⟨t, fr, (hb.block _ (Array.getElem?_eq_some_iff.1 hh).1).trans hh⟩) (hK.below hb)
    have heq := fun V U W (h : BySl W V l) (h' : BySl W U l) => eqByteS_any V U l W h h' (by omega)
    have heA := fun W => eqByteA32_any (shaL l) hs32 W
    generalize shaL l = sl at *
    have hsB : (byA sl).size = 32 := by rw [byA_size]; exact hs32
    have hinfB : (Tryd.prog.info? 23).map (·.size) = some (byA sl).size := by rw [hsB]; kernel_rfl
    have HsB := Nm.hide hsB
    clear hF hK hs32 hsB
    have hnew : ∀ W W' : World, Only W.heap.size (W.alloc (.cells (Array.replicate 32 (.int .u8 0)) 23)) W' → Below W.heap.size W W' := fun W W' o =>
      o.below ((Below.refl _ W).alloc (Nat.le_refl _) _) (Nat.le_refl _) (by rw [World.size_alloc]; omega)
    go_enter Tryd.func3, Tryd.ntmps3
    go_wp2_with fail
    refine (hto _ _ hrow).mono ?_
    rintro e w1 ⟨v1, rfl, c1, b1⟩
    go_wp2_with fail
    refine (hsp _ _ c1).mono ?_
    rintro e w2 ⟨rfl, b2⟩
    have b02 := Nm.below_two b1 b2
    go_wp2_with (refine wpList_store_blk (.tmp 3) (.tmp 11) 23 rfl rfl rfl w2.heap.size _ _ (blk_new _ _ _) rfl rfl hinfB (by rw [HsB.out]; simp) (byA_one _) ?_; intro w3 k3 o3; have b3 := hnew _ _ o3; clear o3)
    have b03 := Nm.below_two b02 b3
    refine (hto _ _ (hrow.below b03)).mono ?_
    rintro e w4 ⟨v4, rfl, c4, b4⟩
    have b04 := Nm.below_two b03 b4
    have k34 := blk_below k3 b4
    go_wp2_with fail
    refine (him _ _ c4 b04).mono ?_
    rintro e w5 ⟨rfl, b5⟩
    have k35 := blk_below k34 b5
    have b05 := Nm.below_two b04 b5
    have c5 := c4.below b5
    generalize w2.heap.size = q3 at *
    clear b1 b2 b02 b3 b03 b4 b04 k3 k34 c1 c4 hsp him b5
    go_wp2_with (first
      | (refine wpList_store_blk (.tmp 5) (.tmp 15) 23 rfl rfl rfl w5.heap.size _ _ (blk_new _ _ _) rfl rfl hinfB (by rw [HsB.out]; simp) (byA_one _) ?_; intro w6 k6 o6; have b6 := hnew _ _ o6; have k36 := blk_below k35 b6; clear o6)
      | (refine wpList_load_blk (.tmp 5) 23 rfl rfl w5.heap.size _ _ k6 rfl Tryd.underlying23 rfl hinfB ?_)
      | (refine wpList_load_blk (.tmp 3) 23 rfl rfl q3 _ _ k36 rfl Tryd.underlying23 rfl hinfB ?_))
    have b06 := Nm.below_two b05 b6
    have c6 := c5.below b6
    refine (heA _).mono ?_
    rintro e w7 ⟨rfl, b7⟩
    have b07 := Nm.below_two b06 b7
    have c7 := c6.below b7
    go_wp2_with fail
    refine (hto _ _ (hrow.below b07)).mono ?_
    rintro e w8 ⟨v8, rfl, c8, b8⟩
    have b08 := Nm.below_two b07 b8
    go_wp2_with fail
    refine (heq _ _ _ (c7.below b8) c8).mono ?_
    rintro e w9 ⟨rfl, b9⟩
    go_wp2
    go_ret
    exact ⟨rfl, Nm.below_two b08 b9⟩
end Go.Proofs.YtopgflejlgaciaaDoor
