import Derived.Test.YtehggabhjpiclaaMvP
import Derived.Test.YtehggabhjpiclaaJPut
import Derived.Test.YtehggabhjpiclaaJWiT
import Derived.Test.YtehggabhjpiclaaJWiP
import Derived.Test.YtehggabhjpiclaaJMsM
import Derived.Test.YtehggabhjpiclaaJBitM
import Derived.Test.YtehggabhjpiclaaMvS
/- impl.validRecord, validQuestion, spec.l04Sound by their contracts. -/
namespace Go.Proofs.Ytehggabhjpiclaa
open Go.RowKit
set_option linter.unusedVariables false

set_option maxRecDepth 100000 in
set_option maxHeartbeats 3200000 in
theorem l04Sound_any (r : Rr) (w : World) (ho : r.own.size ≤ 1048576) (hd : r.da.size ≤ 1048576) :
    Calls Try.prog 41 #[.agg #[.string r.own, .int .i64 r.ty, .int .i64 r.cl, .int .i64 r.tt, .string r.da]] w fun e w' => e = .returned (.bool (rcOK r)) ∧ Below w.heap.size w w' := by
  have hR0 := RB.new w r 69
  have hB0 := (Below.refl w.heap.size w).alloc (Nat.le_refl _) (.cells #[.string r.own, .int .i64 r.ty, .int .i64 r.cl, .int .i64 r.tt, .string r.da] 69)
  have hno := fun W => specNameOK_any r.own W (by unfold maxLen; omega)
  have hi1 := fun W => l04In_any r.ty 65535 W
  have hi2 := fun W => l04In_any r.cl 65535 W
  have hi3 := fun W => l04In_any r.tt 4294967295 W
  have hck := fun W => specCheckData_any r.ty r.da W
  have HM : Hid (rcOK r = ((Nm.split r.own).isSome && (decide (0 ≤ r.ty) && decide (r.ty ≤ 65535)) && (decide (0 ≤ r.cl) && decide (r.cl ≤ 65535)) && (decide (0 ≤ r.tt) && decide (r.tt ≤ 4294967295)) && (decide (r.da.size = 0) || cutCode r.ty r.da == 0))) := rfl
  have he5 := str_empty (s := r.da)
  obtain ⟨o, ty, cl, tt, da⟩ := r
  simp only at hR0 hB0 hno hi1 hi2 hi3 hck HM he5 ⊢
  generalize rcOK ⟨o, ty, cl, tt, da⟩ = M at *
  generalize (Nm.split o).isSome = B1 at *
  generalize (decide (0 ≤ ty) && decide (ty ≤ 65535)) = B2 at *
  generalize (decide (0 ≤ cl) && decide (cl ≤ 65535)) = B3 at *
  generalize (decide (0 ≤ tt) && decide (tt ≤ 4294967295)) = B4 at *
  generalize cutCode ty da = C6 at *
  generalize decide (da.size = 0) = B5 at *
  clear ho hd
  cases B1 with
  | false =>
    obtain rfl : M = false := by rw [HM.out]; simp
    go_enter Try.func41, Try.ntmps41
    go_wp2_with (first | (go_at_call 24; refine (hno _).mono ?_; rintro e w1 ⟨rfl, hb1⟩; obtain ⟨c0, c1, c2, c3, c4⟩ := hR0.below hb1) | (go_at_call 23; first | (with_reducible refine (hi1 _).mono ?_; rintro e wf ⟨rfl, hw⟩; obtain rfl := hw.symm; clear hw) | (with_reducible refine (hi2 _).mono ?_; rintro e wf ⟨rfl, hw⟩; obtain rfl := hw.symm; clear hw) | (with_reducible refine (hi3 _).mono ?_; rintro e wf ⟨rfl, hw⟩; obtain rfl := hw.symm; clear hw)) | (go_at_call 58; refine (hck _).mono ?_; rintro e w2 ⟨rfl, hb2⟩))
    go_ret
    exact ⟨rfl, Nm.below_two hB0 hb1⟩
  | true =>
    cases B2 with
    | false =>
      obtain rfl : M = false := by rw [HM.out]; simp
      go_enter Try.func41, Try.ntmps41
      go_wp2_with (first | (go_at_call 24; refine (hno _).mono ?_; rintro e w1 ⟨rfl, hb1⟩; obtain ⟨c0, c1, c2, c3, c4⟩ := hR0.below hb1) | (go_at_call 23; first | (with_reducible refine (hi1 _).mono ?_; rintro e wf ⟨rfl, hw⟩; obtain rfl := hw.symm; clear hw) | (with_reducible refine (hi2 _).mono ?_; rintro e wf ⟨rfl, hw⟩; obtain rfl := hw.symm; clear hw) | (with_reducible refine (hi3 _).mono ?_; rintro e wf ⟨rfl, hw⟩; obtain rfl := hw.symm; clear hw)) | (go_at_call 58; refine (hck _).mono ?_; rintro e w2 ⟨rfl, hb2⟩))
      go_ret
      exact ⟨rfl, Nm.below_two hB0 hb1⟩
    | true =>
      cases B3 with
      | false =>
        obtain rfl : M = false := by rw [HM.out]; simp
        go_enter Try.func41, Try.ntmps41
        go_wp2_with (first | (go_at_call 24; refine (hno _).mono ?_; rintro e w1 ⟨rfl, hb1⟩; obtain ⟨c0, c1, c2, c3, c4⟩ := hR0.below hb1) | (go_at_call 23; first | (with_reducible refine (hi1 _).mono ?_; rintro e wf ⟨rfl, hw⟩; obtain rfl := hw.symm; clear hw) | (with_reducible refine (hi2 _).mono ?_; rintro e wf ⟨rfl, hw⟩; obtain rfl := hw.symm; clear hw) | (with_reducible refine (hi3 _).mono ?_; rintro e wf ⟨rfl, hw⟩; obtain rfl := hw.symm; clear hw)) | (go_at_call 58; refine (hck _).mono ?_; rintro e w2 ⟨rfl, hb2⟩))
        go_ret
        exact ⟨rfl, Nm.below_two hB0 hb1⟩
      | true =>
        cases B4 with
        | false =>
          obtain rfl : M = false := by rw [HM.out]; simp
          go_enter Try.func41, Try.ntmps41
          go_wp2_with (first | (go_at_call 24; refine (hno _).mono ?_; rintro e w1 ⟨rfl, hb1⟩; obtain ⟨c0, c1, c2, c3, c4⟩ := hR0.below hb1) | (go_at_call 23; first | (with_reducible refine (hi1 _).mono ?_; rintro e wf ⟨rfl, hw⟩; obtain rfl := hw.symm; clear hw) | (with_reducible refine (hi2 _).mono ?_; rintro e wf ⟨rfl, hw⟩; obtain rfl := hw.symm; clear hw) | (with_reducible refine (hi3 _).mono ?_; rintro e wf ⟨rfl, hw⟩; obtain rfl := hw.symm; clear hw)) | (go_at_call 58; refine (hck _).mono ?_; rintro e w2 ⟨rfl, hb2⟩))
          go_ret
          exact ⟨rfl, Nm.below_two hB0 hb1⟩
        | true =>
          cases B5 with
          | true =>
            obtain rfl : M = true := by rw [HM.out]; simp
            go_enter Try.func41, Try.ntmps41
            go_wp2_with (first | (go_at_call 24; refine (hno _).mono ?_; rintro e w1 ⟨rfl, hb1⟩; obtain ⟨c0, c1, c2, c3, c4⟩ := hR0.below hb1) | (go_at_call 23; first | (with_reducible refine (hi1 _).mono ?_; rintro e wf ⟨rfl, hw⟩; obtain rfl := hw.symm; clear hw) | (with_reducible refine (hi2 _).mono ?_; rintro e wf ⟨rfl, hw⟩; obtain rfl := hw.symm; clear hw) | (with_reducible refine (hi3 _).mono ?_; rintro e wf ⟨rfl, hw⟩; obtain rfl := hw.symm; clear hw)) | (go_at_call 58; refine (hck _).mono ?_; rintro e w2 ⟨rfl, hb2⟩))
            go_ret
            exact ⟨rfl, Nm.below_two hB0 hb1⟩
          | false =>
            obtain rfl : M = (C6 == 0) := by rw [HM.out]; simp
            go_enter Try.func41, Try.ntmps41
            go_wp2_with (first | (go_at_call 24; refine (hno _).mono ?_; rintro e w1 ⟨rfl, hb1⟩; obtain ⟨c0, c1, c2, c3, c4⟩ := hR0.below hb1) | (go_at_call 23; first | (with_reducible refine (hi1 _).mono ?_; rintro e wf ⟨rfl, hw⟩; obtain rfl := hw.symm; clear hw) | (with_reducible refine (hi2 _).mono ?_; rintro e wf ⟨rfl, hw⟩; obtain rfl := hw.symm; clear hw) | (with_reducible refine (hi3 _).mono ?_; rintro e wf ⟨rfl, hw⟩; obtain rfl := hw.symm; clear hw)) | (go_at_call 58; refine (hck _).mono ?_; rintro e w2 ⟨rfl, hb2⟩))
            go_ret
            exact ⟨rfl, Nm.below_two (Nm.below_two hB0 hb1) hb2⟩
end Go.Proofs.Ytehggabhjpiclaa
/- spec.l04AllSound by its contract. -/
namespace Go.Proofs.Ytehggabhjpiclaa
open Go.RowKit
set_option linter.unusedVariables false

set_option maxRecDepth 100000 in
set_option maxHeartbeats 1600000 in
theorem l04AllSound_any (v : Value) (xs : List Rr) (w : World) (h : CRow w v xs.length 5 (rvVs xs)) (hx : ∀ r ∈ xs, r.own.size ≤ 1048576 ∧ r.da.size ≤ 1048576) :
    Calls Try.prog 25 #[v] w fun e w' => e = .returned (.bool (xs.all rcOK)) ∧ Below w.heap.size w w' := by
  obtain ⟨_, a, cap, rfl, hcap, hmx, hc⟩ := h
  unfold maxLen at hmx
  have hs := fun (r : Rr) (hr : r ∈ xs) W => l04Sound_any r W (hx r hr).1 (hx r hr).2
  obtain ⟨RES, HRES⟩ : ∃ R, Hid (R = xs.all rcOK) := ⟨_, rfl⟩
  rw [← HRES.out]
  clear hx
  go_enter Try.func25, Try.ntmps25
  go_wp2
  go_loopw [3] (fun i wr => ∃ k : Nat, k ≤ xs.length ∧ i = .int .i64 k ∧ Hid ((xs.take k).all rcOK = true) ∧ Below w.heap.size w wr) (fun i _ => xs.length - (intOf i).toNat)
  case atStart => exact ⟨0, Nat.zero_le _, rfl, by show _ = _; simp, Below.refl _ _⟩
  case round =>
    obtain ⟨k, hk, rfl, HA, hbel⟩ := hrel
    by_cases hlt : k < xs.length
    · obtain ⟨x, hxk⟩ : ∃ x, xs[k]? = some x := ⟨_, List.getElem?_eq_getElem hlt⟩
      obtain ⟨b, off, rfl, hcell⟩ := hc (by omega)
      obtain ⟨c0, c1, c2, c3, c4⟩ := rv_cells hcell hxk
      have put : ∀ {O : Nat} {z : Value}, w.cell? ⟨b, O, none⟩ = some z → wr.cell? ⟨b, O, none⟩ = some z := fun h => (hbel.cell (World.block_lt_of_cell? w _ h)).trans h
      replace c0 := put c0
      replace c1 := put c1
      replace c2 := put c2
      replace c3 := put c3
      replace c4 := put c4
      have hmem := List.mem_of_getElem? hxk
      have hone := hs x hmem wr
      have i1 : (0 : Int) ≤ (k : Int) := by omega
      have i2 : (k : Int) < (xs.length : Int) := by omega
      cases hok : rcOK x with
      | true =>
        have HA2 : Hid ((xs.take (k + 1)).all rcOK = true) := by show _ = _; rw [all_take' hxk, HA.out, hok]; rfl
        rw [hok] at hone
        clear hs hok hmem hxk hcell hc
        obtain ⟨o, ty, cl, tt, da⟩ := x
        simp only at *
        go_wp2_with (go_at_call 41; refine hone.mono ?_; rintro e w1 ⟨rfl, hb1⟩)
        go_roundw
        case rel => exact ⟨k + 1, by omega, by go_num, HA2, Nm.below_two hbel hb1⟩
        case measure => simp [intOf]; omega
      | false =>
        obtain rfl : RES = false := by rw [HRES.out]; exact all_no hmem hok
        rw [hok] at hone
        clear hs hok hmem hxk hcell hc HRES
        obtain ⟨o, ty, cl, tt, da⟩ := x
        simp only at *
        go_wp2_with (go_at_call 41; refine hone.mono ?_; rintro e w1 ⟨rfl, hb1⟩)
        go_ret
        exact ⟨rfl, Nm.below_two hbel hb1⟩
    · have hkl : k = xs.length := by omega
      subst hkl
      obtain rfl : RES = true := by
        have := HA.out
        rw [List.take_length] at this
        rw [HRES.out, this]
      have i2 : (xs.length : Int) ≤ (xs.length : Int) := by omega
      clear hs hc HRES HA
      go_wp2
      go_ret
      exact ⟨rfl, hbel⟩
end Go.Proofs.Ytehggabhjpiclaa
/- spec.l04AllSound, impl.validQuestion and others: see MvA, MvS. -/
