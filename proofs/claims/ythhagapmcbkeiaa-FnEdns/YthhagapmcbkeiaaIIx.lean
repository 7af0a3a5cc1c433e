import Derived.Test.YthhagapmcbkeiaaJSgR
/- impl.isOPT, and slices.IndexFunc and ContainsFunc at it, by their contracts. -/
namespace Go.Proofs.Ythhagapmcbkeiaa
open Go.RowKit
set_option linter.unusedVariables false

theorem isOPT_any (r : Rr) (w : World) :
    Calls Try.prog 23 #[.agg #[.string r.own, .int .i64 r.ty, .int .i64 r.cl, .int .i64 r.tt, .string r.da]] w fun e w' => e = .returned (.bool (decide (r.ty = 41))) ∧ Below w.heap.size w w' := by
  have hB := (Below.refl w.heap.size w).alloc (Nat.le_refl _) (.cells #[.string r.own, .int .i64 r.ty, .int .i64 r.cl, .int .i64 r.tt, .string r.da] 27)
  obtain ⟨o, ty, cl, tt, da⟩ := r
  simp only at *
  have e1 : (ty == 41) = decide (ty = 41) := by by_cases h : ty = 41 <;> simp [h]
  go_enter Try.func23, Try.ntmps23
  go_wp2
  go_ret
  exact ⟨rfl, hB⟩

/-- Where the first record of type 41 stands. -/
def opI (xs : List Rr) : Int := match xs.findIdx? (fun r => decide (r.ty = 41)) with
  | some k => k
  | none => -1

set_option maxRecDepth 100000 in
set_option maxHeartbeats 1600000 in
theorem indexOPT_any (v : Value) (xs : List Rr) (w : World) (h : CRow w v xs.length 5 (rvVs xs)) :
    Calls Try.prog 24 #[v, .func (.func 23) #[] #[]] w fun e w' => e = .returned (.int .i64 (opI xs)) ∧ Below w.heap.size w w' := by
  obtain ⟨_, a, cap, rfl, hcap, hmx, hc⟩ := h
  unfold maxLen at hmx
  go_enter Try.func24, Try.ntmps24
  go_wp2
  go_loopw [8] (fun i wr => ∃ k : Nat, k ≤ xs.length ∧ i = .int .i64 k ∧ Hid (∀ j y, j < k → xs[j]? = some y → decide (y.ty = 41) = false) ∧ Below w.heap.size w wr) (fun i _ => xs.length - (intOf i).toNat)
  case atStart => exact ⟨0, Nat.zero_le _, rfl, by show ∀ _, _; intro j y hj; omega, Below.refl _ _⟩
  case round =>
    obtain ⟨k, hk, rfl, HA, hbel⟩ := hrel
    by_cases hlt : k < xs.length
    · obtain ⟨x, hxk⟩ : ∃ x, xs[k]? = some x := ⟨_, List.getElem?_eq_getElem hlt⟩
      obtain ⟨b, off, rfl, hcell⟩ := hc (by omega)
      obtain ⟨c0, c1, c2, c3, c4⟩ := rv_cells hcell hxk
      have put : ∀ {O : Nat} {z : Value}, w.cell? ⟨b, O, none⟩ = some z → wr.cell? ⟨b, O, none⟩ = some z := fun h => (hbel.cell (World.block_lt_of_cell? w _ h)).trans h
      replace c0 := put c0
      replace c1 := put c1
      replace c2 := put c2
      replace c3 := put c3
      replace c4 := put c4
      have hone := isOPT_any x wr
      have i1 : (0 : Int) ≤ (k : Int) := by omega
      have i2 : (k : Int) < (xs.length : Int) := by omega
      have HXK := Nm.hide hxk
      cases hok : decide (x.ty = 41) with
      | false =>
        have HA2 : Hid (∀ j y, j < k + 1 → xs[j]? = some y → decide (y.ty = 41) = false) := by
          show ∀ _, _
          intro j y hj hy
          by_cases hjk : j = k
          · subst hjk
            rw [HXK.out] at hy
            obtain rfl := Option.some.inj hy
            exact hok
          · exact HA.out j y (by omega) hy
        rw [hok] at hone
        clear hok hxk hcell hc put
        obtain ⟨o, ty, cl, tt, da⟩ := x
        simp only at *
        go_wp2_with fail
        refine hone.mono ?_
        rintro e w1 ⟨rfl, hb1⟩
        have hbel1 := Nm.below_two hbel hb1
        go_wp2
        go_roundw
        case rel => exact ⟨k + 1, by omega, by go_num, HA2, hbel1⟩
        case measure => simp [intOf]; omega
      | true =>
        have HO : Hid (opI xs = (k : Int)) := by
          show _ = _
          have : xs.findIdx? (fun r => decide (r.ty = 41)) = some k := by
            rw [List.findIdx?_eq_some_iff_getElem]
            obtain ⟨hk', e⟩ := List.getElem?_eq_some_iff.1 HXK.out
            refine ⟨hk', by rw [e]; exact hok, fun j hj => ?_⟩
            have := HA.out j xs[j] hj (List.getElem?_eq_getElem (by omega))
            simp only [this]
            decide
          rw [opI, this]
        rw [hok] at hone
        clear hok hxk hcell hc put
        obtain ⟨o, ty, cl, tt, da⟩ := x
        simp only at *
        go_wp2_with fail
        refine hone.mono ?_
        rintro e w1 ⟨rfl, hb1⟩
        have hbel1 := Nm.below_two hbel hb1
        go_wp2
        go_ret
        exact ⟨by rw [HO.out]; rfl, hbel1⟩
    · have hkl : k = xs.length := by omega
      have HO : Hid (opI xs = -1) := by
        show _ = _
        have : xs.findIdx? (fun r => decide (r.ty = 41)) = none := by
          rw [List.findIdx?_eq_none_iff]
          intro x hx
          obtain ⟨j, hj, e⟩ := List.getElem_of_mem hx
          exact HA.out j x (by omega) (by rw [List.getElem?_eq_getElem hj, e])
        rw [opI, this]
      subst hkl
      have i2 : ¬ (xs.length : Int) < (xs.length : Int) := by omega
      clear hc
      go_wp2
      go_ret
      exact ⟨by rw [HO.out]; rfl, hbel⟩

theorem opI_cases (xs : List Rr) : (opI xs = -1 ∧ cntR xs 41 = 0 ∧ xs.find? (fun r => decide (r.ty = 41)) = none) ∨ ∃ (k : Nat) (x : Rr), k < xs.length ∧ xs[k]? = some x ∧ x.ty = 41 ∧ opI xs = (k : Int) ∧ xs.find? (fun r => decide (r.ty = 41)) = some x ∧ cntR xs 41 = 1 + cntR (xs.drop (k + 1)) 41 := by
  cases h : xs.findIdx? (fun r => decide (r.ty = 41)) with
  | none =>
    have h' := h
    rw [List.findIdx?_eq_none_iff] at h
    refine .inl ⟨by rw [opI, h'], ?_, ?_⟩
    · rw [cntR, List.countP_eq_zero]
      intro a ha hb
      rw [h a ha] at hb
      cases hb
    · rw [List.find?_eq_none]
      intro a ha hb
      rw [h a ha] at hb
      cases hb
  | some k =>
    have h' := h
    rw [List.findIdx?_eq_some_iff_getElem] at h
    obtain ⟨hk, hp, hlt⟩ := h
    have ht : xs[k].ty = 41 := by simpa using hp
    have hxk : xs[k]? = some xs[k] := List.getElem?_eq_getElem hk
    refine .inr ⟨k, xs[k], hk, hxk, ht, by rw [opI, h'], ?_, ?_⟩
    · rw [List.find?_eq_some_iff_getElem]
      refine ⟨hp, k, hk, rfl, fun j hj => ?_⟩
      have := hlt j hj
      simpa using this
    · have e : xs = xs.take k ++ xs[k] :: xs.drop (k + 1) := by rw [List.getElem_cons_drop, List.take_append_drop]
      have h0 : (xs.take k).countP (fun r => decide (r.ty = 41)) = 0 := by
        rw [List.countP_eq_zero]
        intro a ha
        obtain ⟨j, hj, e⟩ := List.getElem_of_mem ha
        rw [List.length_take] at hj
        rw [List.getElem_take] at e
        have := hlt j (by omega)
        rw [e] at this
        simpa using this
      rw [cntR]
      conv => lhs; rw [e]
      rw [List.countP_append, List.countP_cons, h0, cntR]
      simp [ht]
      omega

theorem hasOPT_any (v : Value) (xs : List Rr) (w : World) (h : CRow w v xs.length 5 (rvVs xs)) :
    Calls Try.prog 22 #[v, .func (.func 23) #[] #[]] w fun e w' => e = .returned (.bool (decide (0 < cntR xs 41))) ∧ Below w.heap.size w w' := by
  have hs := indexOPT_any v xs w h
  obtain ⟨_, a, cap, rfl, _⟩ := h
  rcases opI_cases xs with ⟨e1, e2, _⟩ | ⟨k, x, hk, _, _, e1, _, e2⟩
  · have HD : Hid (decide (0 < cntR xs 41) = false) := by show _ = _; rw [e2]; rfl
    rw [e1] at hs
    clear e1 e2
    go_enter Try.func22, Try.ntmps22
    go_wp2_with fail
    refine hs.mono ?_
    rintro e w1 ⟨rfl, hb1⟩
    go_wp2
    go_ret
    exact ⟨by rw [HD.out]; rfl, hb1⟩
  · have HD : Hid (decide (0 < cntR xs 41) = true) := by show _ = _; rw [e2, decide_eq_true_eq]; omega
    rw [e1] at hs
    have h0 : (0 : Int) ≤ (k : Int) := by omega
    clear e1 e2
    go_enter Try.func22, Try.ntmps22
    go_wp2_with fail
    refine hs.mono ?_
    rintro e w1 ⟨rfl, hb1⟩
    go_wp2
    go_ret
    exact ⟨by rw [HD.out]; rfl, hb1⟩
end Go.Proofs.Ythhagapmcbkeiaa
