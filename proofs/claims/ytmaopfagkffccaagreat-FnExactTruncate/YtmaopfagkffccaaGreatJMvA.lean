import Derived.Test.YtmaopfagkffccaaGreatJNameOKs
import Derived.Test.YtmaopfagkffccaaGreatJMath
import Derived.Test.YtmaopfagkffccaaGreatJICheck
/- spec.l04AllSound by its contract. -/
namespace Go.Proofs.YtmaopfagkffccaaGreat
open Go.RowKit
set_option linter.unusedVariables false

set_option maxRecDepth 100000 in
set_option maxHeartbeats 1600000 in
theorem l04AllSound_any (v : Value) (xs : List Rr) (w : World) (h : CRow w v xs.length 5 (rvVs xs)) (hx : ∀ r ∈ xs, r.own.size ≤ 1048576 ∧ r.da.size ≤ 1048576) :
    Calls Tryz.prog 34 #[v] w fun e w' => e = .returned (.bool (xs.all rcOK)) ∧ Below w.heap.size w w' := by
  obtain ⟨_, a, cap, rfl, hcap, hmx, hc⟩ := h
  unfold maxLen at hmx
  have hs := fun (r : Rr) (hr : r ∈ xs) W => l04Sound_any r W (hx r hr).1 (hx r hr).2
  obtain ⟨RES, HRES⟩ : ∃ R, Hid (R = xs.all rcOK) := ⟨_, rfl⟩
  rw [← HRES.out]
  clear hx
  go_enter Tryz.func34, Tryz.ntmps34
  go_wp2
  go_loopw [3] (fun i wr => ∃ k : Nat, k ≤ xs.length ∧ i = .int .i64 k ∧ Hid ((xs.take k).all rcOK = true) ∧ Below w.heap.size w wr) (fun i _ => xs.length - (intOf i).toNat)
  case atStart => exact ⟨0, Nat.zero_le _, rfl, by show _ = _; simp, Below.refl _ _⟩
  case round =>
    obtain ⟨k, hk, rfl, HA, hbel⟩ := hrel
    by_cases hlt : k < xs.length
    · obtain ⟨x, hxk⟩ : ∃ x, xs[k]? = some x := ⟨_, List.getElem?_eq_getElem hlt⟩
      obtain ⟨b, off, rfl, hcell⟩ := hc (by omega)
      obtain ⟨c0, c1, c2, c3, c4⟩ := rv_cells hcell hxk
      have put : ∀ {O : Nat} {z : Value}, w.cell? ⟨b, O, none⟩ = some z → wr.cell? ⟨b, O, none⟩ = some z := fun h => (hbel.cell (World.block_lt_of_cell? w _ h)).trans h
      replace c0 := put c0
      replace c1 := put c1
      replace c2 := put c2
      replace c3 := put c3
      replace c4 := put c4
      have hmem := List.mem_of_getElem? hxk
      have hone := hs x hmem wr
      have i1 : (0 : Int) ≤ (k : Int) := by omega
      have i2 : (k : Int) < (xs.length : Int) := by omega
      cases hok : rcOK x with
      | true =>
        have HA2 : Hid ((xs.take (k + 1)).all rcOK = true) := by show _ = _; rw [all_take' hxk, HA.out, hok]; rfl
        rw [hok] at hone
        clear hs hok hmem hxk hcell hc
        obtain ⟨o, ty, cl, tt, da⟩ := x
        simp only at *
        go_wp2_with (go_at_call 56; refine hone.mono ?_; rintro e w1 ⟨rfl, hb1⟩)
        go_roundw
        case rel => exact ⟨k + 1, by omega, by go_num, HA2, Nm.below_two hbel hb1⟩
        case measure => simp [intOf]; omega
      | false =>
        obtain rfl : RES = false := by rw [HRES.out]; exact all_no hmem hok
        rw [hok] at hone
        clear hs hok hmem hxk hcell hc HRES
        obtain ⟨o, ty, cl, tt, da⟩ := x
        simp only at *
        go_wp2_with (go_at_call 56; refine hone.mono ?_; rintro e w1 ⟨rfl, hb1⟩)
        go_ret
        exact ⟨rfl, Nm.below_two hbel hb1⟩
    · have hkl : k = xs.length := by omega
      subst hkl
      obtain rfl : RES = true := by
        have := HA.out
        rw [List.take_length] at this
        rw [HRES.out, this]
      have i2 : (xs.length : Int) ≤ (xs.length : Int) := by omega
      clear hs hc HRES HA
      go_wp2
      go_ret
      exact ⟨rfl, hbel⟩
end Go.Proofs.YtmaopfagkffccaaGreat
/- spec.l04AllSound, impl.validQuestion and others: see MvA, MvS. -/
