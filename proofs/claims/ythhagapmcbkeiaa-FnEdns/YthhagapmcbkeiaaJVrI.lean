import Derived.Test.YthhagapmcbkeiaaJRbT
import Derived.Test.YthhagapmcbkeiaaJMath
import Derived.Test.YthhagapmcbkeiaaJIEr
/- impl.validRecords by its contract. -/
namespace Go.Proofs.Ythhagapmcbkeiaa
open Go.RowKit
set_option linter.unusedVariables false

theorem valid1_any (r : Rr) (w : World) (ho : r.own.size ≤ 1048576) (hd : r.da.size ≤ 1048576) :
    Calls Try.prog 45 #[.agg #[.string r.own, .int .i64 r.ty, .int .i64 r.cl, .int .i64 r.tt, .string r.da]] w fun e w' => e = .returned (.bool (!rcOK r)) ∧ Below w.heap.size w w' := by
  have hR0 := RB.new w r 27
  have hB0 := (Below.refl w.heap.size w).alloc (Nat.le_refl _) (.cells #[.string r.own, .int .i64 r.ty, .int .i64 r.cl, .int .i64 r.tt, .string r.da] 27)
  have hv := fun W => validRecord_any r W ho hd
  generalize rcOK r = B at *
  obtain ⟨o, ty, cl, tt, da⟩ := r
  obtain ⟨c0, c1, c2, c3, c4⟩ := hR0
  simp only at hB0 hv c0 c1 c2 c3 c4 ⊢
  clear ho hd
  go_enter Try.func45, Try.ntmps45
  go_wp2_with (go_at_call 46; refine (hv _).mono ?_; rintro e w1 ⟨rfl, hb1⟩)
  go_ret
  exact ⟨rfl, Nm.below_two hB0 hb1⟩

set_option maxRecDepth 100000 in
set_option maxHeartbeats 1600000 in
theorem validAt_any (v : Value) (xs : List Rr) (w : World) (h : CRow w v xs.length 5 (rvVs xs)) (hx : ∀ r ∈ xs, r.own.size ≤ 1048576 ∧ r.da.size ≤ 1048576) :
    Calls Try.prog 24 #[v, .func (.func 45) #[] #[]] w fun e w' => Below w.heap.size w w' ∧ ∃ i : Int, e = .returned (.int .i64 i) ∧ ((xs.all rcOK = true ∧ i = -1) ∨ (xs.all rcOK = false ∧ 0 ≤ i)) := by
  obtain ⟨_, a, cap, rfl, hcap, hmx, hc⟩ := h
  unfold maxLen at hmx
  have hs := fun (r : Rr) (hr : r ∈ xs) W => valid1_any r W (hx r hr).1 (hx r hr).2
  clear hx
  go_enter Try.func24, Try.ntmps24
  go_wp2
  go_loopw [8] (fun i wr => ∃ k : Nat, k ≤ xs.length ∧ i = .int .i64 k ∧ Hid ((xs.take k).all rcOK = true) ∧ Below w.heap.size w wr) (fun i _ => xs.length - (intOf i).toNat)
  case atStart => exact ⟨0, Nat.zero_le _, rfl, by show _ = _; simp, Below.refl _ _⟩
  case round =>
    obtain ⟨k, hk, rfl, HA, hbel⟩ := hrel
    by_cases hlt : k < xs.length
    · obtain ⟨x, hxk⟩ : ∃ x, xs[k]? = some x := ⟨_, List.getElem?_eq_getElem hlt⟩
      obtain ⟨b, off, rfl, hcell⟩ := hc (by omega)
      obtain ⟨c0, c1, c2, c3, c4⟩ := rv_cells hcell hxk
      have put : ∀ {O : Nat} {z : Value}, w.cell? ⟨b, O, none⟩ = some z → wr.cell? ⟨b, O, none⟩ = some z := fun h => (hbel.cell (World.block_lt_of_cell? w _ h)).trans h
      replace c0 := put c0
      replace c1 := put c1
      replace c2 := put c2
      replace c3 := put c3
      replace c4 := put c4
      have hmem := List.mem_of_getElem? hxk
      have hone := hs x hmem wr
      have i1 : (0 : Int) ≤ (k : Int) := by omega
      have i2 : (k : Int) < (xs.length : Int) := by omega
      cases hok : rcOK x with
      | true =>
        have HA2 : Hid ((xs.take (k + 1)).all rcOK = true) := by show _ = _; rw [all_take' hxk, HA.out, hok]; rfl
        rw [hok] at hone
        clear hs hok hmem hxk hcell hc
        obtain ⟨o, ty, cl, tt, da⟩ := x
        simp only at *
        go_wp2_with fail
        refine hone.mono ?_
        rintro e w1 ⟨rfl, hb1⟩
        go_wp2
        go_roundw
        case rel => exact ⟨k + 1, by omega, by go_num, HA2, Nm.below_two hbel hb1⟩
        case measure => simp [intOf]; omega
      | false =>
        have HF := Nm.hide (all_no hmem hok)
        rw [hok] at hone
        clear hs hok hmem hxk hcell hc
        obtain ⟨o, ty, cl, tt, da⟩ := x
        simp only at *
        go_wp2_with fail
        refine hone.mono ?_
        rintro e w1 ⟨rfl, hb1⟩
        go_wp2
        go_ret
        exact ⟨Nm.below_two hbel hb1, _, rfl, .inr ⟨HF.out, by omega⟩⟩
    · have hkl : k = xs.length := by omega
      subst hkl
      have HT := HA.out
      rw [List.take_length] at HT
      have HB := Nm.hide HT
      clear hs HT HA hc
      have i2 : ¬ (xs.length : Int) < (xs.length : Int) := by omega
      go_wp2
      go_ret
      exact ⟨hbel, _, rfl, .inl ⟨by have := HB.out; simpa using this, rfl⟩⟩

set_option maxRecDepth 100000 in
set_option maxHeartbeats 1600000 in
theorem validHas_any (v : Value) (xs : List Rr) (w : World) (h : CRow w v xs.length 5 (rvVs xs)) (hx : ∀ r ∈ xs, r.own.size ≤ 1048576 ∧ r.da.size ≤ 1048576) :
    Calls Try.prog 22 #[v, .func (.func 45) #[] #[]] w fun e w' => e = .returned (.bool (!xs.all rcOK)) ∧ Below w.heap.size w w' := by
  have hs := validAt_any v xs w h hx
  obtain ⟨_, a, cap, rfl, _⟩ := h
  generalize xs.all rcOK = B at *
  go_enter Try.func22, Try.ntmps22
  go_wp2_with fail
  refine hs.mono ?_
  rintro e w1 ⟨hb1, i, rfl, ⟨rfl, rfl⟩ | ⟨rfl, hi⟩⟩
  · go_wp2
    go_ret
    exact ⟨rfl, hb1⟩
  · go_wp2
    go_ret
    exact ⟨rfl, hb1⟩

theorem validRecords_any (v : Value) (xs : List Rr) (w : World) (h : CRow w v xs.length 5 (rvVs xs)) (hx : ∀ r ∈ xs, r.own.size ≤ 1048576 ∧ r.da.size ≤ 1048576) :
    Calls Try.prog 34 #[v] w fun e w' => e = .returned (.bool (xs.all rcOK)) ∧ Below w.heap.size w w' := by
  have hs := validHas_any v xs w h hx
  obtain ⟨_, a, cap, rfl, hcap, hmx, _⟩ := h
  generalize xs.all rcOK = B at *
  go_enter Try.func34, Try.ntmps34
  go_wp2_with fail
  refine hs.mono ?_
  rintro e w1 ⟨rfl, hb1⟩
  go_wp2
  go_ret
  exact ⟨by simp, hb1⟩
end Go.Proofs.Ythhagapmcbkeiaa
/- Messages that are not too great. -/
namespace Go.Proofs.Ythhagapmcbkeiaa
open Go.RowKit

def MSmall (m : Mg) : Prop := (∀ r ∈ m.qs, r.nm.size ≤ 1048576) ∧ (∀ r ∈ m.an, r.own.size ≤ 1048576 ∧ r.da.size ≤ 1048576) ∧ (∀ r ∈ m.au, r.own.size ≤ 1048576 ∧ r.da.size ≤ 1048576) ∧ (∀ r ∈ m.ex, r.own.size ≤ 1048576 ∧ r.da.size ≤ 1048576) ∧ m.qs.length ≤ 1048576 ∧ m.an.length ≤ 1048576 ∧ m.au.length ≤ 1048576 ∧ m.ex.length ≤ 1048576
end Go.Proofs.Ythhagapmcbkeiaa
