import Derived.Test.YtmaopfagkffccaaGreatDlE
import Derived.Test.YtmaopfagkffccaaGreatJCrI
import Derived.Deep.RegionHeld3
import Derived.BigQuiet
/- impl.dropRun by its contract, at isOPT and at noneStays. -/
namespace Go.Proofs.YtmaopfagkffccaaGreat
open Go.RowKit
set_option linter.unusedVariables false

theorem isOPTd_any (r : Rr) (w : World) :
    Calls Tryz.prog 50 #[.agg #[.string r.own, .int .i64 r.ty, .int .i64 r.cl, .int .i64 r.tt, .string r.da]] w fun e w' => e = .returned (.bool (decide (r.ty = 41))) ∧ Below w.heap.size w w' := by
  have hB := (Below.refl w.heap.size w).alloc (Nat.le_refl _) (.cells #[.string r.own, .int .i64 r.ty, .int .i64 r.cl, .int .i64 r.tt, .string r.da] 72)
  obtain ⟨o, ty, cl, tt, da⟩ := r
  simp only at *
  have e1 : (ty == 41) = decide (ty = 41) := by by_cases h : ty = 41 <;> simp [h]
  go_enter Tryz.func50, Tryz.ntmps50
  go_wp2
  go_ret
  exact ⟨rfl, hB⟩

/-- slices.Delete, whatever room the row has. -/
theorem deleteRR_all (B g cap : Nat) (xs : List Rr) (i j : Nat) (w : World) (hown : w.ownsRow B 72 5 (.slice (some ⟨g, 0, none⟩) xs.length cap) xs.length (rvVs xs)) (hij : i < j) (hj : j ≤ xs.length) (hn : xs.length ≤ 1048576) :
    Calls Tryz.prog 74 #[.slice (some ⟨g, 0, none⟩) xs.length cap, .int .i64 (i : Int), .int .i64 (j : Int)] w fun e w' => e = .returned (.slice (some ⟨g, 0, none⟩) (i + (xs.length - j)) cap) ∧ w'.ownsRow B 72 5 (.slice (some ⟨g, 0, none⟩) (i + (xs.length - j)) cap) (xs.take i ++ xs.drop j).length (rvVs (xs.take i ++ xs.drop j)) ∧ Only g w w' := by
  by_cases hcj : cap = j
  · have hc : xs.length ≤ cap := by
      rcases hown.2 with ⟨e0, _⟩ | ⟨g', cap', cur, e0, _, _, hnc, _⟩
      · cases e0
      · simp only [Value.slice.injEq] at e0; omega
    have e1 : xs.length = j := by omega
    subst hcj
    rw [e1] at hown ⊢
    rw [List.drop_of_length_le (by omega), List.append_nil, Nat.sub_self, Nat.add_zero]
    exact deleteRR_end B g cap i xs w e1 hown hij (by omega)
  · exact deleteRR_in B g cap xs i j w hown hij hj hn hcj

/-- What dropRun leaves. -/
def DrPost (p : Rr → Bool) (B : Nat) (v : Value) (xs : List Rr) (w : World) (e : Ending) (w' : World) : Prop :=
  (dropS p xs = none ∧ e = .returned (.tuple #[v, .bool false]) ∧ Below w.heap.size w w') ∨
  ∃ ys u g, dropS p xs = some ys ∧ v.ownBlock = some g ∧ u.ownBlock = some g ∧ e = .returned (.tuple #[u, .bool true]) ∧ w'.ownsRow B 72 5 u ys.length (rvVs ys) ∧ Only g w w'

theorem dropS_none {p : Rr → Bool} {xs : List Rr} (h : tdN p xs xs.length = 0) : dropS p xs = none := by rw [dropS, h]
theorem dropS_some {p : Rr → Bool} {xs : List Rr} {t : Nat} {r : Rr} (h : tdN p xs xs.length = t + 1) (hr : xs[t]? = some r) : dropS p xs = some (xs.take (frN xs r t) ++ xs.drop (t + 1)) := by rw [dropS, h]; simp [hr]

set_option maxRecDepth 100000 in
set_option maxHeartbeats 3200000 in
theorem dropOPT_any (B : Nat) (v : Value) (xs : List Rr) (w : World) (hown : w.ownsRow B 72 5 v xs.length (rvVs xs)) (hn : xs.length ≤ 1048576) :
    Calls Tryz.prog 49 #[v, .func (.func 50) #[] #[]] w (DrPost (fun r => decide (r.ty = 41)) B v xs w) := by
  obtain ⟨a, cap, rfl⟩ := own_sl hown
  have hc := CRow.of_owns hown
  obtain ⟨_, a', cap', e0, hcap, hmx, hc⟩ := hc
  simp only [Value.slice.injEq] at e0
  obtain ⟨rfl, _, rfl⟩ := e0
  unfold maxLen at hmx
  have hcall := fun (r : Rr) (W : World) => isOPTd_any r W
  go_enter Tryz.func49, Tryz.ntmps49
  go_wp2
  go_loopw [6] (fun t wr => ∃ k : Nat, k ≤ xs.length ∧ t = .int .i64 k ∧ Hid (tdN (fun r => decide (r.ty = 41)) xs xs.length = tdN (fun r => decide (r.ty = 41)) xs k) ∧ Below w.heap.size w wr) (fun t _ => (intOf t).toNat)
  case atStart => exact ⟨xs.length, Nat.le_refl _, rfl, rfl, Below.refl _ _⟩
  case round =>
    obtain ⟨k, hk, rfl, HT, hbel⟩ := hrel
    cases k with
    | zero =>
      have HD : Hid (dropS (fun r => decide (r.ty = 41)) xs = none) := dropS_none HT.out
      clear hc hcall HT
      go_wp2
      go_ret2
      exact .inl ⟨HD.out, rfl, hbel⟩
    | succ j =>
      have hlt : j < xs.length := by omega
      obtain ⟨x, hxk⟩ : ∃ x, xs[j]? = some x := ⟨_, List.getElem?_eq_getElem hlt⟩
      obtain ⟨b, off, rfl, hcell⟩ := hc (by omega)
      obtain ⟨c0, c1, c2, c3, c4⟩ := rv_cells hcell hxk
      have put : ∀ {O : Nat} {z : Value}, w.cell? ⟨b, O, none⟩ = some z → wr.cell? ⟨b, O, none⟩ = some z := fun h => (hbel.cell (World.block_lt_of_cell? w _ h)).trans h
      replace c0 := put c0
      replace c1 := put c1
      replace c2 := put c2
      replace c3 := put c3
      replace c4 := put c4
      have hone := hcall x wr
      have i0 : (0 : Int) < ((j + 1 : Nat) : Int) := by omega
      have i1 : (0 : Int) ≤ (j : Int) := by omega
      have i2 : (j : Int) < (xs.length : Int) := by omega
      have i3 : ((j + 1 : Nat) : Int) - 1 = (j : Int) := by omega
      have i4 : ((j : Int) + 1 == 0) = false := by simpa using (by omega : ¬ (j : Int) + 1 = 0)
      have hwj : IntKind.i64.wrap (j : Int) = (j : Int) := Go.wrap_small _ (by omega) (by omega)
      have HXK := Nm.hide hxk
      cases hok : (fun r => decide (r.ty = 41)) x with
      | true =>
        have HT2 : Hid (tdN (fun r => decide (r.ty = 41)) xs xs.length = tdN (fun r => decide (r.ty = 41)) xs j) := HT.out.trans (tdN_yes hxk hok)
        rw [show decide (x.ty = 41) = true from hok] at hone
        clear hok hxk hcell hc put hcall
        obtain ⟨o, ty, cl, tt, da⟩ := x
        simp only at *
        go_wp2_with (go_at_call 50; refine hone.mono ?_; rintro e w1 ⟨rfl, hb1⟩)
        have hbel1 := Nm.below_two hbel hb1
        go_roundw
        case rel => exact ⟨j, by omega, by go_num, HT2, hbel1⟩
        case measure => simp [intOf]
      | false =>
        have HT2 : Hid (tdN (fun r => decide (r.ty = 41)) xs xs.length = j + 1) := HT.out.trans (tdN_no hxk hok)
        rw [show decide (x.ty = 41) = false from hok] at hone
        clear hok
        have hrow : w.ownsRow B 72 5 (.slice (some ⟨b, off, none⟩) xs.length cap) xs.length (rvVs xs) := hown
        have hdel : ∀ (i : Nat), i < j + 1 → ∀ (W : World), Below w.heap.size w W → Calls Tryz.prog 74 #[.slice (some ⟨b, off, none⟩) xs.length cap, .int .i64 (i : Int), .int .i64 ((j : Int) + 1)] W fun e w' => ∃ u, e = .returned u ∧ u.ownBlock = some b ∧ w'.ownsRow B 72 5 u (xs.take i ++ xs.drop (j + 1)).length (rvVs (xs.take i ++ xs.drop (j + 1))) ∧ Only b W w' := by
          intro i hi W hb
          obtain rfl : off = 0 := by
            rcases hrow.2 with ⟨e1, _⟩ | ⟨g1, cap1, cur1, e1, _⟩
            · cases e1
            · simp only [Value.slice.injEq, Option.some.injEq, Addr.mk.injEq] at e1; exact e1.1.2.1
          have := deleteRR_all B b cap xs i (j + 1) W (own_below hrow hb) hi (by omega) hn
          rw [Int.natCast_add] at this
          refine this.mono ?_
          rintro e w' ⟨rfl, h1, h2⟩
          exact ⟨_, rfl, rfl, h1, h2⟩
        have HOB : Hid ((Value.slice (some ⟨b, off, none⟩) xs.length cap).ownBlock = some b) := rfl
        have HDS : Hid (dropS (fun r => decide (r.ty = 41)) xs = some (xs.take (frN xs x j) ++ xs.drop (j + 1))) := dropS_some HT2.out HXK.out
        have hir := fun (y : Rr) (W : World) => isRun_any y x W
        have hall := fun (i : Nat) (y : Rr) (hy : xs[i]? = some y) => rv_cells hcell hy
        have HALL := Nm.hide hall
        have HC0 := Nm.hide (rv_cells hcell hxk)
        clear hxk hcell put hc hcall hall hown hrow
        obtain ⟨o, ty, cl, tt, da⟩ := x
        simp only at *
        go_wp2_with (go_at_call 50; refine hone.mono ?_; rintro e w1 ⟨rfl, hb1⟩)
        have hbel1 := Nm.below_two hbel hb1
        clear hone c0 c1 c2 c3 c4 hbel hb1 HT HT2
        go_loopw [7] (fun t wr2 => ∃ k : Nat, k ≤ j ∧ t = .int .i64 k ∧ Hid (frN xs ⟨o, ty, cl, tt, da⟩ j = frN xs ⟨o, ty, cl, tt, da⟩ k) ∧ Below w.heap.size w wr2) (fun t _ => (intOf t).toNat)
        case atStart => exact ⟨j, Nat.le_refl _, by first | rfl | (go_num), rfl, hbel1⟩
        case round =>
          clear hbel1
          obtain ⟨k, hk2, rfl, HF, hbel2⟩ := hrel
          cases k with
          | zero =>
            have HE : Hid (frN xs ⟨o, ty, cl, tt, da⟩ j = 0) := HF.out
            have hdl := hdel 0 (by omega)
            clear HF hdel hir
            simp only [Int.natCast_zero] at hdl
            go_wp2
            go_quiet (fail)
            go_wp2_with (go_at_call 74; refine (hdl _ (Go.below_drewN hbel2 _)).mono ?_; rintro e w3 ⟨u, rfl, hu, hro, hO⟩)
            go_ret2
            refine .inr ⟨_, _, b, HDS.out, HOB.out, hu, rfl, by rw [HE.out]; exact hro, ((Only.refl b w).more (Go.below_drewN hbel2 _)).then hO (.inl rfl)⟩
          | succ f =>
            obtain ⟨y, hyk⟩ : ∃ y, xs[f]? = some y := ⟨_, List.getElem?_eq_getElem (by omega)⟩
            obtain ⟨o2, ty2, cl2, tt2, da2⟩ := y
            have R1 := HALL.out f _ hyk
            have R2 := HC0.out
            simp only at R1 R2
            have hS : ∀ W, Below w.heap.size w W → ((W.cell? ⟨b, off + f * 5, none⟩ = some (.string o2) ∧ W.cell? ⟨b, off + f * 5 + 1, none⟩ = some (.int .i64 ty2) ∧ W.cell? ⟨b, off + f * 5 + 2, none⟩ = some (.int .i64 cl2) ∧ W.cell? ⟨b, off + f * 5 + 3, none⟩ = some (.int .i64 tt2) ∧ W.cell? ⟨b, off + f * 5 + 4, none⟩ = some (.string da2)) ∧ (W.cell? ⟨b, off + j * 5, none⟩ = some (.string o) ∧ W.cell? ⟨b, off + j * 5 + 1, none⟩ = some (.int .i64 ty) ∧ W.cell? ⟨b, off + j * 5 + 2, none⟩ = some (.int .i64 cl) ∧ W.cell? ⟨b, off + j * 5 + 3, none⟩ = some (.int .i64 tt) ∧ W.cell? ⟨b, off + j * 5 + 4, none⟩ = some (.string da))) ∧ Below w.heap.size w W := by
              intro W hW
              have put : ∀ {B O : Nat} {z : Value}, w.cell? ⟨B, O, none⟩ = some z → W.cell? ⟨B, O, none⟩ = some z := fun h => (hW.cell (World.block_lt_of_cell? w _ h)).trans h
              exact ⟨⟨⟨put R1.1, put R1.2.1, put R1.2.2.1, put R1.2.2.2.1, put R1.2.2.2.2⟩, ⟨put R2.1, put R2.2.1, put R2.2.2.1, put R2.2.2.2.1, put R2.2.2.2.2⟩⟩, hW⟩
            have hS0 := hS _ hbel2.drew
            have hiy := fun W (hW : Below w.heap.size w W) => (hir ⟨o2, ty2, cl2, tt2, da2⟩ W).mono (R' := fun e w' => e = .returned (.bool (runB ⟨o2, ty2, cl2, tt2, da2⟩ ⟨o, ty, cl, tt, da⟩)) ∧ Below w.heap.size w w') (by rintro e w' ⟨he, hb⟩; exact ⟨he, hW.trans (hb.mono hW.size)⟩)
            clear R1 R2
            have k0 : (0 : Int) < (f : Int) + 1 := by omega
            have k1 : (0 : Int) ≤ (f : Int) := by omega
            have k2 : (f : Int) < (xs.length : Int) := by omega
            have HFJ : Hid (f + 1 ≤ j) := hk2
            have hwf : IntKind.i64.wrap (f : Int) = (f : Int) := Go.wrap_small _ (by omega) (by omega)
            cases hrr : runB ⟨o2, ty2, cl2, tt2, da2⟩ ⟨o, ty, cl, tt, da⟩ with
            | true =>
              have HF2 : Hid (frN xs ⟨o, ty, cl, tt, da⟩ j = frN xs ⟨o, ty, cl, tt, da⟩ f) := HF.out.trans (frN_yes hyk hrr)
              rw [hrr] at hiy
              clear hyk hrr hdel hir HF
              go_wp2
              go_region_held3 (fun W => ((W.cell? ⟨b, off + f * 5, none⟩ = some (.string o2) ∧ W.cell? ⟨b, off + f * 5 + 1, none⟩ = some (.int .i64 ty2) ∧ W.cell? ⟨b, off + f * 5 + 2, none⟩ = some (.int .i64 cl2) ∧ W.cell? ⟨b, off + f * 5 + 3, none⟩ = some (.int .i64 tt2) ∧ W.cell? ⟨b, off + f * 5 + 4, none⟩ = some (.string da2)) ∧ (W.cell? ⟨b, off + j * 5, none⟩ = some (.string o) ∧ W.cell? ⟨b, off + j * 5 + 1, none⟩ = some (.int .i64 ty) ∧ W.cell? ⟨b, off + j * 5 + 2, none⟩ = some (.int .i64 cl) ∧ W.cell? ⟨b, off + j * 5 + 3, none⟩ = some (.int .i64 tt) ∧ W.cell? ⟨b, off + j * 5 + 4, none⟩ = some (.string da))) ∧ Below w.heap.size w W) (first | with_reducible assumption | with_reducible exact hS0) ((first | (go_at_call 73; refine (hiy _ hS0.2).mono ?_; rintro e w3 ⟨rfl, hb3⟩; have hS1 := hS _ hb3)))
              go_wp2
              go_roundw
              case rel => exact ⟨f, by have := HFJ.out; omega, by go_num, HF2, hS1.2⟩
              case measure => simp [intOf]
            | false =>
              have HE : Hid (frN xs ⟨o, ty, cl, tt, da⟩ j = f + 1) := HF.out.trans (frN_no hyk hrr)
              have hdl := hdel (f + 1) (by omega)
              rw [hrr] at hiy
              simp only [Int.natCast_add, Int.natCast_one] at hdl
              clear hyk hrr hdel hir HF
              go_wp2
              go_region_held3 (fun W => ((W.cell? ⟨b, off + f * 5, none⟩ = some (.string o2) ∧ W.cell? ⟨b, off + f * 5 + 1, none⟩ = some (.int .i64 ty2) ∧ W.cell? ⟨b, off + f * 5 + 2, none⟩ = some (.int .i64 cl2) ∧ W.cell? ⟨b, off + f * 5 + 3, none⟩ = some (.int .i64 tt2) ∧ W.cell? ⟨b, off + f * 5 + 4, none⟩ = some (.string da2)) ∧ (W.cell? ⟨b, off + j * 5, none⟩ = some (.string o) ∧ W.cell? ⟨b, off + j * 5 + 1, none⟩ = some (.int .i64 ty) ∧ W.cell? ⟨b, off + j * 5 + 2, none⟩ = some (.int .i64 cl) ∧ W.cell? ⟨b, off + j * 5 + 3, none⟩ = some (.int .i64 tt) ∧ W.cell? ⟨b, off + j * 5 + 4, none⟩ = some (.string da))) ∧ Below w.heap.size w W) (first | with_reducible assumption | with_reducible exact hS0) ((first | (go_at_call 73; refine (hiy _ hS0.2).mono ?_; rintro e w3 ⟨rfl, hb3⟩; have hS1 := hS _ hb3)))
              have hB3 := hS1.2
              go_wp2_with (go_at_call 74; refine (hdl _ hB3).mono ?_; rintro e w4 ⟨u, rfl, hu, hro, hO⟩)
              go_ret2
              refine .inr ⟨_, _, b, HDS.out, HOB.out, hu, rfl, by rw [HE.out]; exact hro, ((Only.refl b w).more hB3).then hO (.inl rfl)⟩

set_option maxRecDepth 100000 in
set_option maxHeartbeats 3200000 in
theorem dropAll_any (B : Nat) (v : Value) (xs : List Rr) (w : World) (hown : w.ownsRow B 72 5 v xs.length (rvVs xs)) (hn : xs.length ≤ 1048576) :
    Calls Tryz.prog 49 #[v, .func (.func 51) #[] #[]] w (DrPost (fun _ => false) B v xs w) := by
  obtain ⟨a, cap, rfl⟩ := own_sl hown
  have hc := CRow.of_owns hown
  obtain ⟨_, a', cap', e0, hcap, hmx, hc⟩ := hc
  simp only [Value.slice.injEq] at e0
  obtain ⟨rfl, _, rfl⟩ := e0
  unfold maxLen at hmx
  have hcall := fun (r : Rr) (W : World) => noneStays_any r W
  go_enter Tryz.func49, Tryz.ntmps49
  go_wp2
  go_loopw [6] (fun t wr => ∃ k : Nat, k ≤ xs.length ∧ t = .int .i64 k ∧ Hid (tdN (fun _ => false) xs xs.length = tdN (fun _ => false) xs k) ∧ Below w.heap.size w wr) (fun t _ => (intOf t).toNat)
  case atStart => exact ⟨xs.length, Nat.le_refl _, rfl, rfl, Below.refl _ _⟩
  case round =>
    obtain ⟨k, hk, rfl, HT, hbel⟩ := hrel
    cases k with
    | zero =>
      have HD : Hid (dropS (fun _ => false) xs = none) := dropS_none HT.out
      clear hc hcall HT
      go_wp2
      go_ret2
      exact .inl ⟨HD.out, rfl, hbel⟩
    | succ j =>
      have hlt : j < xs.length := by omega
      obtain ⟨x, hxk⟩ : ∃ x, xs[j]? = some x := ⟨_, List.getElem?_eq_getElem hlt⟩
      obtain ⟨b, off, rfl, hcell⟩ := hc (by omega)
      obtain ⟨c0, c1, c2, c3, c4⟩ := rv_cells hcell hxk
      have put : ∀ {O : Nat} {z : Value}, w.cell? ⟨b, O, none⟩ = some z → wr.cell? ⟨b, O, none⟩ = some z := fun h => (hbel.cell (World.block_lt_of_cell? w _ h)).trans h
      replace c0 := put c0
      replace c1 := put c1
      replace c2 := put c2
      replace c3 := put c3
      replace c4 := put c4
      have hone := hcall x wr
      have i0 : (0 : Int) < ((j + 1 : Nat) : Int) := by omega
      have i1 : (0 : Int) ≤ (j : Int) := by omega
      have i2 : (j : Int) < (xs.length : Int) := by omega
      have i3 : ((j + 1 : Nat) : Int) - 1 = (j : Int) := by omega
      have i4 : ((j : Int) + 1 == 0) = false := by simpa using (by omega : ¬ (j : Int) + 1 = 0)
      have hwj : IntKind.i64.wrap (j : Int) = (j : Int) := Go.wrap_small _ (by omega) (by omega)
      have HXK := Nm.hide hxk
      cases hok : (fun _ => false) x with
      | true =>
        have HT2 : Hid (tdN (fun _ => false) xs xs.length = tdN (fun _ => false) xs j) := HT.out.trans (tdN_yes hxk hok)
        cases hok
      | false =>
        have HT2 : Hid (tdN (fun _ => false) xs xs.length = j + 1) := HT.out.trans (tdN_no hxk hok)
        clear hok
        have hrow : w.ownsRow B 72 5 (.slice (some ⟨b, off, none⟩) xs.length cap) xs.length (rvVs xs) := hown
        have hdel : ∀ (i : Nat), i < j + 1 → ∀ (W : World), Below w.heap.size w W → Calls Tryz.prog 74 #[.slice (some ⟨b, off, none⟩) xs.length cap, .int .i64 (i : Int), .int .i64 ((j : Int) + 1)] W fun e w' => ∃ u, e = .returned u ∧ u.ownBlock = some b ∧ w'.ownsRow B 72 5 u (xs.take i ++ xs.drop (j + 1)).length (rvVs (xs.take i ++ xs.drop (j + 1))) ∧ Only b W w' := by
          intro i hi W hb
          obtain rfl : off = 0 := by
            rcases hrow.2 with ⟨e1, _⟩ | ⟨g1, cap1, cur1, e1, _⟩
            · cases e1
            · simp only [Value.slice.injEq, Option.some.injEq, Addr.mk.injEq] at e1; exact e1.1.2.1
          have := deleteRR_all B b cap xs i (j + 1) W (own_below hrow hb) hi (by omega) hn
          rw [Int.natCast_add] at this
          refine this.mono ?_
          rintro e w' ⟨rfl, h1, h2⟩
          exact ⟨_, rfl, rfl, h1, h2⟩
        have HOB : Hid ((Value.slice (some ⟨b, off, none⟩) xs.length cap).ownBlock = some b) := rfl
        have HDS : Hid (dropS (fun _ => false) xs = some (xs.take (frN xs x j) ++ xs.drop (j + 1))) := dropS_some HT2.out HXK.out
        have hir := fun (y : Rr) (W : World) => isRun_any y x W
        have hall := fun (i : Nat) (y : Rr) (hy : xs[i]? = some y) => rv_cells hcell hy
        have HALL := Nm.hide hall
        have HC0 := Nm.hide (rv_cells hcell hxk)
        clear hxk hcell put hc hcall hall hown hrow
        obtain ⟨o, ty, cl, tt, da⟩ := x
        simp only at *
        go_wp2_with (go_at_call 51; refine hone.mono ?_; rintro e w1 ⟨rfl, hb1⟩)
        have hbel1 := Nm.below_two hbel hb1
        clear hone c0 c1 c2 c3 c4 hbel hb1 HT HT2
        go_loopw [7] (fun t wr2 => ∃ k : Nat, k ≤ j ∧ t = .int .i64 k ∧ Hid (frN xs ⟨o, ty, cl, tt, da⟩ j = frN xs ⟨o, ty, cl, tt, da⟩ k) ∧ Below w.heap.size w wr2) (fun t _ => (intOf t).toNat)
        case atStart => exact ⟨j, Nat.le_refl _, by first | rfl | (go_num), rfl, hbel1⟩
        case round =>
          clear hbel1
          obtain ⟨k, hk2, rfl, HF, hbel2⟩ := hrel
          cases k with
          | zero =>
            have HE : Hid (frN xs ⟨o, ty, cl, tt, da⟩ j = 0) := HF.out
            have hdl := hdel 0 (by omega)
            clear HF hdel hir
            simp only [Int.natCast_zero] at hdl
            go_wp2
            go_quiet (fail)
            go_wp2_with (go_at_call 74; refine (hdl _ (Go.below_drewN hbel2 _)).mono ?_; rintro e w3 ⟨u, rfl, hu, hro, hO⟩)
            go_ret2
            refine .inr ⟨_, _, b, HDS.out, HOB.out, hu, rfl, by rw [HE.out]; exact hro, ((Only.refl b w).more (Go.below_drewN hbel2 _)).then hO (.inl rfl)⟩
          | succ f =>
            obtain ⟨y, hyk⟩ : ∃ y, xs[f]? = some y := ⟨_, List.getElem?_eq_getElem (by omega)⟩
            obtain ⟨o2, ty2, cl2, tt2, da2⟩ := y
            have R1 := HALL.out f _ hyk
            have R2 := HC0.out
            simp only at R1 R2
            have hS : ∀ W, Below w.heap.size w W → ((W.cell? ⟨b, off + f * 5, none⟩ = some (.string o2) ∧ W.cell? ⟨b, off + f * 5 + 1, none⟩ = some (.int .i64 ty2) ∧ W.cell? ⟨b, off + f * 5 + 2, none⟩ = some (.int .i64 cl2) ∧ W.cell? ⟨b, off + f * 5 + 3, none⟩ = some (.int .i64 tt2) ∧ W.cell? ⟨b, off + f * 5 + 4, none⟩ = some (.string da2)) ∧ (W.cell? ⟨b, off + j * 5, none⟩ = some (.string o) ∧ W.cell? ⟨b, off + j * 5 + 1, none⟩ = some (.int .i64 ty) ∧ W.cell? ⟨b, off + j * 5 + 2, none⟩ = some (.int .i64 cl) ∧ W.cell? ⟨b, off + j * 5 + 3, none⟩ = some (.int .i64 tt) ∧ W.cell? ⟨b, off + j * 5 + 4, none⟩ = some (.string da))) ∧ Below w.heap.size w W := by
              intro W hW
              have put : ∀ {B O : Nat} {z : Value}, w.cell? ⟨B, O, none⟩ = some z → W.cell? ⟨B, O, none⟩ = some z := fun h => (hW.cell (World.block_lt_of_cell? w _ h)).trans h
              exact ⟨⟨⟨put R1.1, put R1.2.1, put R1.2.2.1, put R1.2.2.2.1, put R1.2.2.2.2⟩, ⟨put R2.1, put R2.2.1, put R2.2.2.1, put R2.2.2.2.1, put R2.2.2.2.2⟩⟩, hW⟩
            have hS0 := hS _ hbel2.drew
            have hiy := fun W (hW : Below w.heap.size w W) => (hir ⟨o2, ty2, cl2, tt2, da2⟩ W).mono (R' := fun e w' => e = .returned (.bool (runB ⟨o2, ty2, cl2, tt2, da2⟩ ⟨o, ty, cl, tt, da⟩)) ∧ Below w.heap.size w w') (by rintro e w' ⟨he, hb⟩; exact ⟨he, hW.trans (hb.mono hW.size)⟩)
            clear R1 R2
            have k0 : (0 : Int) < (f : Int) + 1 := by omega
            have k1 : (0 : Int) ≤ (f : Int) := by omega
            have k2 : (f : Int) < (xs.length : Int) := by omega
            have HFJ : Hid (f + 1 ≤ j) := hk2
            have hwf : IntKind.i64.wrap (f : Int) = (f : Int) := Go.wrap_small _ (by omega) (by omega)
            cases hrr : runB ⟨o2, ty2, cl2, tt2, da2⟩ ⟨o, ty, cl, tt, da⟩ with
            | true =>
              have HF2 : Hid (frN xs ⟨o, ty, cl, tt, da⟩ j = frN xs ⟨o, ty, cl, tt, da⟩ f) := HF.out.trans (frN_yes hyk hrr)
              rw [hrr] at hiy
              clear hyk hrr hdel hir HF
              go_wp2
              go_region_held3 (fun W => ((W.cell? ⟨b, off + f * 5, none⟩ = some (.string o2) ∧ W.cell? ⟨b, off + f * 5 + 1, none⟩ = some (.int .i64 ty2) ∧ W.cell? ⟨b, off + f * 5 + 2, none⟩ = some (.int .i64 cl2) ∧ W.cell? ⟨b, off + f * 5 + 3, none⟩ = some (.int .i64 tt2) ∧ W.cell? ⟨b, off + f * 5 + 4, none⟩ = some (.string da2)) ∧ (W.cell? ⟨b, off + j * 5, none⟩ = some (.string o) ∧ W.cell? ⟨b, off + j * 5 + 1, none⟩ = some (.int .i64 ty) ∧ W.cell? ⟨b, off + j * 5 + 2, none⟩ = some (.int .i64 cl) ∧ W.cell? ⟨b, off + j * 5 + 3, none⟩ = some (.int .i64 tt) ∧ W.cell? ⟨b, off + j * 5 + 4, none⟩ = some (.string da))) ∧ Below w.heap.size w W) (first | with_reducible assumption | with_reducible exact hS0) ((first | (go_at_call 73; refine (hiy _ hS0.2).mono ?_; rintro e w3 ⟨rfl, hb3⟩; have hS1 := hS _ hb3)))
              go_wp2
              go_roundw
              case rel => exact ⟨f, by have := HFJ.out; omega, by go_num, HF2, hS1.2⟩
              case measure => simp [intOf]
            | false =>
              have HE : Hid (frN xs ⟨o, ty, cl, tt, da⟩ j = f + 1) := HF.out.trans (frN_no hyk hrr)
              have hdl := hdel (f + 1) (by omega)
              rw [hrr] at hiy
              simp only [Int.natCast_add, Int.natCast_one] at hdl
              clear hyk hrr hdel hir HF
              go_wp2
              go_region_held3 (fun W => ((W.cell? ⟨b, off + f * 5, none⟩ = some (.string o2) ∧ W.cell? ⟨b, off + f * 5 + 1, none⟩ = some (.int .i64 ty2) ∧ W.cell? ⟨b, off + f * 5 + 2, none⟩ = some (.int .i64 cl2) ∧ W.cell? ⟨b, off + f * 5 + 3, none⟩ = some (.int .i64 tt2) ∧ W.cell? ⟨b, off + f * 5 + 4, none⟩ = some (.string da2)) ∧ (W.cell? ⟨b, off + j * 5, none⟩ = some (.string o) ∧ W.cell? ⟨b, off + j * 5 + 1, none⟩ = some (.int .i64 ty) ∧ W.cell? ⟨b, off + j * 5 + 2, none⟩ = some (.int .i64 cl) ∧ W.cell? ⟨b, off + j * 5 + 3, none⟩ = some (.int .i64 tt) ∧ W.cell? ⟨b, off + j * 5 + 4, none⟩ = some (.string da))) ∧ Below w.heap.size w W) (first | with_reducible assumption | with_reducible exact hS0) ((first | (go_at_call 73; refine (hiy _ hS0.2).mono ?_; rintro e w3 ⟨rfl, hb3⟩; have hS1 := hS _ hb3)))
              have hB3 := hS1.2
              go_wp2_with (go_at_call 74; refine (hdl _ hB3).mono ?_; rintro e w4 ⟨u, rfl, hu, hro, hO⟩)
              go_ret2
              refine .inr ⟨_, _, b, HDS.out, HOB.out, hu, rfl, by rw [HE.out]; exact hro, ((Only.refl b w).more hB3).then hO (.inl rfl)⟩

end Go.Proofs.YtmaopfagkffccaaGreat
