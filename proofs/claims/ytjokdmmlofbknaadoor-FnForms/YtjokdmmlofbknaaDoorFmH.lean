import Derived.Test.YtjokdmmlofbknaaDoorJDrT
import Derived.Test.YtjokdmmlofbknaaDoorJCRow
import Derived.Test.YtjokdmmlofbknaaDoorDrM
/- spec.DrawTypeMap by its contract. -/
namespace Go.Proofs.YtjokdmmlofbknaaDoor
open Go.RowKit
set_option linter.unusedVariables false

theorem drw_stepB {w w3 wb : World} {g n cap e m B : Nat} {a : Option Addr} {v : Value} {xs : List Value} {o : Obj} (hB : w.heap.size ≤ B)
    (hown : w3.ownsRow B e 1 v m xs) (hsrc : Src w3 g a n cap) (hg : w.grownBy w3 (some g)) (hlt : g < w.heap.size) (hcode : CodeAt w g a n) (hgrow : (w3.alloc o).grownBy wb v.ownBlock) :
    Src wb g a n cap ∧ w.grownBy wb (some g) := by
  have hrow : ∀ q, v.ownBlock = some q → w.heap.size ≤ q := fun q hq => Nat.le_trans hB (hown.lt q hq).1
  exact ⟨src_grown (src_below hsrc ((Below.refl _ _).alloc (Nat.le_refl _) _)) hgrow hrow hlt hcode, grown_own (grown_alloc hg _) hgrow hrow⟩
theorem tm_snoc {w : World} {g k : Nat} {v : Value} {l : List Int} {x : Int} (h : w.ownsRow (g + 1) 2 1 v k (intCells l ++ [.int .i64 x])) : ∃ l2 : List Int, w.ownsRow (g + 1) 2 1 v k (intCells l2) :=
  ⟨l ++ [x], by simpa [intCells] using h⟩
theorem tm_end {w W wb : World} {g k : Nat} {v : Value} {l : List Int} (hB : Below w.heap.size w W) (h1 : w.heap.size ≤ g) (hz : W.heap.size = g + 1) (ho : wb.ownsRow (g + 1) 2 1 v k (intCells l)) (hg : W.grownBy wb (some g)) (hk : k ≤ 20) :
    ∃ (v' : Value) (l : List Int), Ending.returned v = .returned v' ∧ wb.ownsRow w.heap.size 2 1 v' l.length (intCells l) ∧ l.length ≤ 20 ∧ Below w.heap.size w wb := by
  have hlen : l.length = k := by have := ho.1; rw [intCells_len] at this; omega
  refine ⟨v, l, rfl, ?_, by omega, hB.grown hg hB.size (fun q hq => by simp at hq; omega)⟩
  rw [hlen]
  exact own_base ho (by omega)

set_option maxRecDepth 100000 in
set_option maxHeartbeats 1600000 in
theorem drawTypeMap_any (a : Option Addr) (n cap : Nat) (w : World) (h : CodeIn w a n) (hn : n ≤ 1048576) :
    Calls Tryd.prog 16 #[.slice a n cap] w fun e w' => ∃ (v : Value) (l : List Int), e = .returned v ∧ w'.ownsRow w.heap.size 2 1 v l.length (intCells l) ∧ l.length ≤ 20 ∧ Below w.heap.size w w' := by
  obtain ⟨i0, hi, hz0, hz1, hz2⟩ := info_parts Tryd.infoI64d
  go_enter Tryd.func16, Tryd.ntmps16
  go_wp2_with fail
  refine (l01Begin_any a n cap _ h hn).mono ?_
  rintro e w1 ⟨st, rfl, hb1⟩
  have HS := src_made (cap := cap) (code_below h hb1) hn st
  have HB := hb1.alloc hb1.size (.cells #[.slice a n cap, .int .i64 0, .int .u64 st] 40 (0, 0))
  have HZ : Hid ((w1.alloc (.cells #[.slice a n cap, .int .i64 0, .int .u64 st] 40 (0, 0))).heap.size = w1.heap.size + 1) := World.size_alloc _ _
  have HZ1 := Nm.hide hb1.size
  go_wp2_with fail
  generalize w1.alloc (.cells #[.slice a n cap, .int .i64 0, .int .u64 st] 40 (0, 0)) = W at *
  generalize w1.heap.size = g at *
  refine (l01Next_any g a n cap 9 _ (src_below HS ((Below.refl _ _).alloc (Nat.le_refl _) _)) (by decide)).mono ?_
  rintro e w2 ⟨m, rfl, hm0, hm1, hs2, hg2⟩
  have hm2 := hm1 (by decide)
  obtain ⟨m, rfl⟩ := Int.eq_ofNat_of_zero_le hm0
  obtain ⟨hcode, hglt⟩ := src_code HS
  have hrow : w2.ownsRow (g + 1) 2 1 (.slice (some ⟨g + 1, 0, none⟩) 0 0) 0 [] := by
    have h1 := (World.ownsRow_made (base := W.heap.size) (e := 2) (size := 1) W #[] 0 (Nat.le_refl _) (by decide) rfl).kept hg2 (.inr (by simp only [Value.ownBlock, ne_eq, Option.some.injEq]; omega))
    rw [HZ.out] at h1
    exact h1
  have G2 : W.grownBy w2 (some g) := grown_step (grown_alloc (World.grownBy.refl _ _) _) hg2
  clear hm1 hg2 h hn hb1 HS
  go_wp2_with fail
  go_loopw [4, 6] (fun v i wr => ∃ (k : Nat) (l : List Int), k ≤ m ∧ i = .int .i64 k ∧ wr.ownsRow (g + 1) 2 1 v k (intCells l) ∧ Src wr g a n cap ∧ W.grownBy wr (some g))
    (fun _ i _ => m - (intOf i).toNat)
  case atStart => exact ⟨0, [], Nat.zero_le _, rfl, hrow, hs2, G2⟩
  case round =>
    obtain ⟨k, l, hk, rfl, hown, hsrc, hgr⟩ := hrel
    have hsz := hgr.size
    have hbz : g + 1 ≤ wr.heap.size := by have := HZ.out; omega
    clear hrow hs2 G2 hsz
    by_cases hlt : k < m
    · go_wp2_with fail
      refine (l02Type_any g a n cap _ hsrc).mono ?_
      rintro e w3 ⟨x, rfl, hx, hs3, hg3⟩
      have o3 := hown.kept hg3 (row_src hown hsrc (by decide))
      have G3 := grown_step hgr hg3
      have z3 : g + 1 ≤ w3.heap.size := by have := hg3.size; omega
      clear hown hsrc hgr hg3 hbz
      go_wp2_with fail
      refine (l01Next_any g a n cap 4 _ hs3 (by decide)).mono ?_
      rintro e w4 ⟨q, rfl, hq0, hq1, hs4, hg4⟩
      have o4 := o3.kept hg4 (row_src o3 hs3 (by decide))
      have G4 := grown_step G3 hg4
      have z4 : g + 1 ≤ w4.heap.size := by have := hg4.size; omega
      clear o3 hs3 G3 hg4 z3 hq1
      by_cases hq : q = 0
      · subst hq
        go_wp2_with fail
        refine (l01Next_any g a n cap 65536 _ hs4 (by decide)).mono ?_
        rintro e w5 ⟨y, rfl, hy0, hy1, hs5, hg5⟩
        have o5 := o4.kept hg5 (row_src o4 hs4 (by decide))
        have G5 := grown_step G4 hg5
        have z5 : g + 1 ≤ w5.heap.size := by have := hg5.size; omega
        clear o4 hs4 G4 hg5 z4 hy1
        go_wp2_with (at_builtin; refine wpList_append_own _ rfl (.tmp 21) (.tmp 23) 31 rfl (g + 1) 2 i0 (.int .i64 0) 1 8 Tryd.underlying31 hi hz0 hz1 hz2 rfl (by decide) _ _ _ rfl (o5.alloc _) ⟨w5.heap.size, 0, none⟩ 1 1 [.int .i64 y] rfl rfl (cell_one_new _ _ _) (Nm.one_cell _ rfl) (by unfold maxLen; omega) (by omega) (by simp; omega) ?_; intro vb wb hown6 hgrow6 hnl6; clear hnl6; have R := drw_stepB (by have := HZ.out; omega) o5 hs5 G5 hglt hcode hgrow6; clear hgrow6)
        go_roundw
        case rel => exact ⟨k + 1, l ++ [y], by omega, by go_num, by simpa [intCells] using hown6, R.1, R.2⟩
        case measure => simp [intOf]; omega
      · have hq' : (q == 0) = false := by rw [beq_eq_false_iff_ne]; exact hq
        go_wp2_with (at_builtin; refine wpList_append_own _ rfl (.tmp 21) (.tmp 23) 31 rfl (g + 1) 2 i0 (.int .i64 0) 1 8 Tryd.underlying31 hi hz0 hz1 hz2 rfl (by decide) _ _ _ rfl (o4.alloc _) ⟨w4.heap.size, 0, none⟩ 1 1 [.int .i64 (x : Int)] rfl rfl (cell_one_new _ _ _) (Nm.one_cell _ rfl) (by unfold maxLen; omega) (by omega) (by simp; omega) ?_; intro vb wb hown6 hgrow6 hnl6; clear hnl6; have R := drw_stepB (by have := HZ.out; omega) o4 hs4 G4 hglt hcode hgrow6; clear hgrow6)
        go_roundw
        case rel => exact ⟨k + 1, l ++ [(x : Int)], by omega, by go_num, by simpa [intCells] using hown6, R.1, R.2⟩
        case measure => simp [intOf]; omega
    · obtain rfl : k = m := by omega
      clear hlt
      go_wp2_with fail
      refine (l01Next_any g a n cap 15 _ hsrc (by decide)).mono ?_
      rintro e w3 ⟨p, rfl, hp0, hp1, hs3, hg3⟩
      have o3 := hown.kept hg3 (row_src hown hsrc (by decide))
      have G3 := grown_step hgr hg3
      have z3 : g + 1 ≤ w3.heap.size := by have := hg3.size; omega
      clear hown hsrc hgr hg3 hbz hp1
      by_cases hp : p = 0
      · subst hp
        go_wp2_with fail
        refine (l01Next_any g a n cap 2 _ hs3 (by decide)).mono ?_
        rintro e w4 ⟨r, rfl, hr0, hr1, hs4, hg4⟩
        have o4 := o3.kept hg4 (row_src o3 hs3 (by decide))
        have G4 := grown_step G3 hg4
        have z4 : g + 1 ≤ w4.heap.size := by have := hg4.size; omega
        have hr2 := hr1 (by decide)
        clear o3 hs3 G3 hg4 z3 hr1
        go_wp2_with fail
        refine (l01Next_any g a n cap 2 _ hs4 (by decide)).mono ?_
        rintro e w5 ⟨t, rfl, ht0, ht1, hs5, hg5⟩
        have o5 := o4.kept hg5 (row_src o4 hs4 (by decide))
        have G5 := grown_step G4 hg5
        have z5 : g + 1 ≤ w5.heap.size := by have := hg5.size; omega
        have ht2 := ht1 (by decide)
        clear o4 hs4 G4 hg5 z4 ht1
        go_wp2_with (at_builtin; refine wpList_append_own _ rfl (.tmp 27) (.tmp 34) 31 rfl (g + 1) 2 i0 (.int .i64 0) 1 8 Tryd.underlying31 hi hz0 hz1 hz2 rfl (by decide) _ _ _ rfl (o5.alloc _) ⟨w5.heap.size, 0, none⟩ 1 1 [.int .i64 _] rfl rfl (cell_one_new _ _ _) (Nm.one_cell _ rfl) (by unfold maxLen; omega) (by omega) (by simp; omega) ?_; intro vb wb hown7 hgrow7 hnl7; clear hnl7; have R := drw_stepB (by have := HZ.out; omega) o5 hs5 G5 hglt hcode hgrow7; have z7 : g + 1 ≤ wb.heap.size := (by have := hgrow7.size; simp at this; omega); clear hgrow7 o5 hs5 G5; obtain ⟨l7, HL7⟩ := tm_snoc hown7; clear hown7; obtain ⟨hs7, G7⟩ := R)
        refine (l01Next_any g a n cap 20 _ hs7 (by decide)).mono ?_
        rintro e w6 ⟨q, rfl, hq0, hq1, hs6, hg6⟩
        have o6 := HL7.kept hg6 (row_src HL7 hs7 (by decide))
        have G6 := grown_step G7 hg6
        have z6 : g + 1 ≤ w6.heap.size := by have := hg6.size; omega
        clear hg6 hq1
        by_cases hq : q = 0
        · subst hq
          go_wp2_with (at_builtin; refine wpList_append_own _ rfl (.tmp 38) (.tmp 39) 31 rfl (g + 1) 2 i0 (.int .i64 0) 1 8 Tryd.underlying31 hi hz0 hz1 hz2 rfl (by decide) _ _ _ rfl (o6.alloc _) ⟨w6.heap.size, 0, none⟩ 1 1 [.int .i64 65536] rfl rfl (cell_one_new _ _ _) (Nm.one_cell _ rfl) (by unfold maxLen; omega) (by omega) (by simp; omega) ?_; intro vb wb hown8 hgrow8 hnl8; clear hnl8; have R := drw_stepB (by have := HZ.out; omega) o6 hs6 G6 hglt hcode hgrow8; clear hgrow8)
          go_ret
          exact tm_end (l := l7 ++ [65536]) HB HZ1.out HZ.out (by simpa [intCells] using hown8) R.2 (by omega)
        · have hq' : (q == 0) = false := by rw [beq_eq_false_iff_ne]; exact hq
          go_wp2
          go_ret
          exact tm_end HB HZ1.out HZ.out o6 G6 (by omega)
      · have hp' : (p == 0) = false := by rw [beq_eq_false_iff_ne]; exact hp
        go_wp2_with fail
        refine (l01Next_any g a n cap 20 _ hs3 (by decide)).mono ?_
        rintro e w4 ⟨q, rfl, hq0, hq1, hs4, hg4⟩
        have o4 := o3.kept hg4 (row_src o3 hs3 (by decide))
        have G4 := grown_step G3 hg4
        have z4 : g + 1 ≤ w4.heap.size := by have := hg4.size; omega
        clear o3 hs3 G3 hg4 z3 hq1
        by_cases hq : q = 0
        · subst hq
          go_wp2_with (at_builtin; refine wpList_append_own _ rfl (.tmp 38) (.tmp 39) 31 rfl (g + 1) 2 i0 (.int .i64 0) 1 8 Tryd.underlying31 hi hz0 hz1 hz2 rfl (by decide) _ _ _ rfl (o4.alloc _) ⟨w4.heap.size, 0, none⟩ 1 1 [.int .i64 65536] rfl rfl (cell_one_new _ _ _) (Nm.one_cell _ rfl) (by unfold maxLen; omega) (by omega) (by simp; omega) ?_; intro vb wb hown6 hgrow6 hnl6; clear hnl6; have R := drw_stepB (by have := HZ.out; omega) o4 hs4 G4 hglt hcode hgrow6; clear hgrow6)
          go_ret
          exact tm_end (l := l ++ [65536]) HB HZ1.out HZ.out (by simpa [intCells] using hown6) R.2 (by omega)
        · have hq' : (q == 0) = false := by rw [beq_eq_false_iff_ne]; exact hq
          go_wp2
          go_ret
          exact tm_end HB HZ1.out HZ.out o4 G4 (by omega)
end Go.Proofs.YtjokdmmlofbknaaDoor
