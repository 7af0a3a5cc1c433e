import Derived.Test.YtihhchebcojplaaCut
import Derived.Test.YtihhchebcojplaaJDataM
import Derived.Test.YtihhchebcojplaaJWtG
import Derived.Test.YtihhchebcojplaaJMath
import Derived.Lib.AppendStr
/- impl.CheckData by its contract. -/
namespace Go.Proofs.Ytihhchebcojplaa
open Go.RowKit

set_option maxRecDepth 100000 in
set_option maxHeartbeats 400000 in
theorem implCheckData_any (t : Int) (d : ByteArray) (w : World) (hd : d.size ≤ 2000000) :
    Calls Try.prog 80 #[.int .i64 t, .string d] w fun e w' => e = .returned (.int .i64 (cutCode t d)) ∧ Below w.heap.size w w' := by
  have hcall := cutData_any t d w hd
  go_enter Try.func80, Try.ntmps80
  go_wp2_with (go_at_call 87; refine hcall.mono ?_; rintro e w2 ⟨v, rfl, _, _, hbel⟩)
  go_ret
  exact ⟨rfl, hbel⟩
end Go.Proofs.Ytihhchebcojplaa
/- impl.validRecord, validQuestion, spec.l04Sound by their contracts. -/
namespace Go.Proofs.Ytihhchebcojplaa
open Go.RowKit
set_option linter.unusedVariables false

set_option maxRecDepth 100000 in
set_option maxHeartbeats 3200000 in
theorem validRecord_any (r : Rr) (w : World) (ho : r.own.size ≤ 1048576) (hd : r.da.size ≤ 1048576) :
    Calls Try.prog 62 #[.agg #[.string r.own, .int .i64 r.ty, .int .i64 r.cl, .int .i64 r.tt, .string r.da]] w fun e w' => e = .returned (.bool (rcOK r)) ∧ Below w.heap.size w w' := by
  have hR0 := RB.new w r 66
  have hB0 := (Below.refl w.heap.size w).alloc (Nat.le_refl _) (.cells #[.string r.own, .int .i64 r.ty, .int .i64 r.cl, .int .i64 r.tt, .string r.da] 66)
  have hno := fun W => implNameOK_any r.own W (by unfold maxLen; omega)
  have hi1 := fun W => within_any r.ty 65535 W
  have hi2 := fun W => within_any r.cl 65535 W
  have hi3 := fun W => within_any r.tt 4294967295 W
  have hck := fun W => implCheckData_any r.ty r.da W (by omega)
  have HM : Hid (rcOK r = ((Nm.split r.own).isSome && (decide (0 ≤ r.ty) && decide (r.ty ≤ 65535)) && (decide (0 ≤ r.cl) && decide (r.cl ≤ 65535)) && (decide (0 ≤ r.tt) && decide (r.tt ≤ 4294967295)) && (decide (r.da.size = 0) || cutCode r.ty r.da == 0))) := rfl
  have he5 := str_empty (s := r.da)
  obtain ⟨o, ty, cl, tt, da⟩ := r
  simp only at hR0 hB0 hno hi1 hi2 hi3 hck HM he5 ⊢
  generalize rcOK ⟨o, ty, cl, tt, da⟩ = M at *
  generalize (Nm.split o).isSome = B1 at *
  generalize (decide (0 ≤ ty) && decide (ty ≤ 65535)) = B2 at *
  generalize (decide (0 ≤ cl) && decide (cl ≤ 65535)) = B3 at *
  generalize (decide (0 ≤ tt) && decide (tt ≤ 4294967295)) = B4 at *
  generalize cutCode ty da = C6 at *
  generalize decide (da.size = 0) = B5 at *
  clear ho hd
  cases B1 with
  | false =>
    obtain rfl : M = false := by rw [HM.out]; simp
    go_enter Try.func62, Try.ntmps62
    go_wp2_with (first | (go_at_call 59; refine (hno _).mono ?_; rintro e w1 ⟨rfl, hb1⟩; obtain ⟨c0, c1, c2, c3, c4⟩ := hR0.below hb1) | (go_at_call 58; first | (with_reducible refine (hi1 _).mono ?_; rintro e wf ⟨rfl, hw⟩; obtain rfl := hw.symm; clear hw) | (with_reducible refine (hi2 _).mono ?_; rintro e wf ⟨rfl, hw⟩; obtain rfl := hw.symm; clear hw) | (with_reducible refine (hi3 _).mono ?_; rintro e wf ⟨rfl, hw⟩; obtain rfl := hw.symm; clear hw)) | (go_at_call 80; refine (hck _).mono ?_; rintro e w2 ⟨rfl, hb2⟩))
    go_ret
    exact ⟨rfl, Nm.below_two hB0 hb1⟩
  | true =>
    cases B2 with
    | false =>
      obtain rfl : M = false := by rw [HM.out]; simp
      go_enter Try.func62, Try.ntmps62
      go_wp2_with (first | (go_at_call 59; refine (hno _).mono ?_; rintro e w1 ⟨rfl, hb1⟩; obtain ⟨c0, c1, c2, c3, c4⟩ := hR0.below hb1) | (go_at_call 58; first | (with_reducible refine (hi1 _).mono ?_; rintro e wf ⟨rfl, hw⟩; obtain rfl := hw.symm; clear hw) | (with_reducible refine (hi2 _).mono ?_; rintro e wf ⟨rfl, hw⟩; obtain rfl := hw.symm; clear hw) | (with_reducible refine (hi3 _).mono ?_; rintro e wf ⟨rfl, hw⟩; obtain rfl := hw.symm; clear hw)) | (go_at_call 80; refine (hck _).mono ?_; rintro e w2 ⟨rfl, hb2⟩))
      go_ret
      exact ⟨rfl, Nm.below_two hB0 hb1⟩
    | true =>
      cases B3 with
      | false =>
        obtain rfl : M = false := by rw [HM.out]; simp
        go_enter Try.func62, Try.ntmps62
        go_wp2_with (first | (go_at_call 59; refine (hno _).mono ?_; rintro e w1 ⟨rfl, hb1⟩; obtain ⟨c0, c1, c2, c3, c4⟩ := hR0.below hb1) | (go_at_call 58; first | (with_reducible refine (hi1 _).mono ?_; rintro e wf ⟨rfl, hw⟩; obtain rfl := hw.symm; clear hw) | (with_reducible refine (hi2 _).mono ?_; rintro e wf ⟨rfl, hw⟩; obtain rfl := hw.symm; clear hw) | (with_reducible refine (hi3 _).mono ?_; rintro e wf ⟨rfl, hw⟩; obtain rfl := hw.symm; clear hw)) | (go_at_call 80; refine (hck _).mono ?_; rintro e w2 ⟨rfl, hb2⟩))
        go_ret
        exact ⟨rfl, Nm.below_two hB0 hb1⟩
      | true =>
        cases B4 with
        | false =>
          obtain rfl : M = false := by rw [HM.out]; simp
          go_enter Try.func62, Try.ntmps62
          go_wp2_with (first | (go_at_call 59; refine (hno _).mono ?_; rintro e w1 ⟨rfl, hb1⟩; obtain ⟨c0, c1, c2, c3, c4⟩ := hR0.below hb1) | (go_at_call 58; first | (with_reducible refine (hi1 _).mono ?_; rintro e wf ⟨rfl, hw⟩; obtain rfl := hw.symm; clear hw) | (with_reducible refine (hi2 _).mono ?_; rintro e wf ⟨rfl, hw⟩; obtain rfl := hw.symm; clear hw) | (with_reducible refine (hi3 _).mono ?_; rintro e wf ⟨rfl, hw⟩; obtain rfl := hw.symm; clear hw)) | (go_at_call 80; refine (hck _).mono ?_; rintro e w2 ⟨rfl, hb2⟩))
          go_ret
          exact ⟨rfl, Nm.below_two hB0 hb1⟩
        | true =>
          cases B5 with
          | true =>
            obtain rfl : M = true := by rw [HM.out]; simp
            go_enter Try.func62, Try.ntmps62
            go_wp2_with (first | (go_at_call 59; refine (hno _).mono ?_; rintro e w1 ⟨rfl, hb1⟩; obtain ⟨c0, c1, c2, c3, c4⟩ := hR0.below hb1) | (go_at_call 58; first | (with_reducible refine (hi1 _).mono ?_; rintro e wf ⟨rfl, hw⟩; obtain rfl := hw.symm; clear hw) | (with_reducible refine (hi2 _).mono ?_; rintro e wf ⟨rfl, hw⟩; obtain rfl := hw.symm; clear hw) | (with_reducible refine (hi3 _).mono ?_; rintro e wf ⟨rfl, hw⟩; obtain rfl := hw.symm; clear hw)) | (go_at_call 80; refine (hck _).mono ?_; rintro e w2 ⟨rfl, hb2⟩))
            go_ret
            exact ⟨rfl, Nm.below_two hB0 hb1⟩
          | false =>
            obtain rfl : M = (C6 == 0) := by rw [HM.out]; simp
            go_enter Try.func62, Try.ntmps62
            go_wp2_with (first | (go_at_call 59; refine (hno _).mono ?_; rintro e w1 ⟨rfl, hb1⟩; obtain ⟨c0, c1, c2, c3, c4⟩ := hR0.below hb1) | (go_at_call 58; first | (with_reducible refine (hi1 _).mono ?_; rintro e wf ⟨rfl, hw⟩; obtain rfl := hw.symm; clear hw) | (with_reducible refine (hi2 _).mono ?_; rintro e wf ⟨rfl, hw⟩; obtain rfl := hw.symm; clear hw) | (with_reducible refine (hi3 _).mono ?_; rintro e wf ⟨rfl, hw⟩; obtain rfl := hw.symm; clear hw)) | (go_at_call 80; refine (hck _).mono ?_; rintro e w2 ⟨rfl, hb2⟩))
            go_ret
            exact ⟨rfl, Nm.below_two (Nm.below_two hB0 hb1) hb2⟩
end Go.Proofs.Ytihhchebcojplaa
/- impl.validQuestion, validHead, (impl.Message).lists, spec.l04AllSound by their contracts. -/
namespace Go.Proofs.Ytihhchebcojplaa
open Go.RowKit
set_option linter.unusedVariables false

set_option maxRecDepth 100000 in
set_option maxHeartbeats 1600000 in
theorem validQuestion_any (r : Qr) (w : World) (ho : r.nm.size ≤ 1048576) :
    Calls Try.prog 38 #[.agg #[.string r.nm, .int .i64 r.ty, .int .i64 r.cl]] w fun e w' => e = .returned (.bool (quOK r)) ∧ Below w.heap.size w w' := by
  have k0 := blk_new w #[.string r.nm, .int .i64 r.ty, .int .i64 r.cl] 53
  have hB0 := (Below.refl w.heap.size w).alloc (Nat.le_refl _) (.cells #[.string r.nm, .int .i64 r.ty, .int .i64 r.cl] 53)
  have hno := fun W => implNameOK_any r.nm W (by unfold maxLen; omega)
  have hi1 := fun W => within_any r.ty 65535 W
  have hi2 := fun W => within_any r.cl 65535 W
  have HM : Hid (quOK r = ((Nm.split r.nm).isSome && (decide (0 ≤ r.ty) && decide (r.ty ≤ 65535)) && (decide (0 ≤ r.cl) && decide (r.cl ≤ 65535)))) := rfl
  obtain ⟨o, ty, cl⟩ := r
  simp only at k0 hB0 hno hi1 hi2 HM ⊢
  generalize quOK ⟨o, ty, cl⟩ = M at *
  generalize (Nm.split o).isSome = B1 at *
  generalize (decide (0 ≤ ty) && decide (ty ≤ 65535)) = B2 at *
  generalize (decide (0 ≤ cl) && decide (cl ≤ 65535)) = B3 at *
  clear ho
  cases B1 with
  | false =>
    obtain rfl : M = false := by rw [HM.out]; simp
    go_enter Try.func38, Try.ntmps38
    go_wp2_with (first | (go_at_call 59; refine (hno _).mono ?_; rintro e w1 ⟨rfl, hb1⟩; have kk := blk_below k0 hb1; have c1 := (blk_cell kk 1).trans rfl; have c2 := (blk_cell kk 2).trans rfl) | (go_at_call 58; first | (with_reducible refine (hi1 _).mono ?_; rintro e wf ⟨rfl, hw⟩; obtain rfl := hw.symm; clear hw) | (with_reducible refine (hi2 _).mono ?_; rintro e wf ⟨rfl, hw⟩; obtain rfl := hw.symm; clear hw)))
    go_ret
    exact ⟨rfl, Nm.below_two hB0 hb1⟩
  | true =>
    cases B2 with
    | false =>
      obtain rfl : M = false := by rw [HM.out]; simp
      go_enter Try.func38, Try.ntmps38
      go_wp2_with (first | (go_at_call 59; refine (hno _).mono ?_; rintro e w1 ⟨rfl, hb1⟩; have kk := blk_below k0 hb1; have c1 := (blk_cell kk 1).trans rfl; have c2 := (blk_cell kk 2).trans rfl) | (go_at_call 58; first | (with_reducible refine (hi1 _).mono ?_; rintro e wf ⟨rfl, hw⟩; obtain rfl := hw.symm; clear hw) | (with_reducible refine (hi2 _).mono ?_; rintro e wf ⟨rfl, hw⟩; obtain rfl := hw.symm; clear hw)))
      go_ret
      exact ⟨rfl, Nm.below_two hB0 hb1⟩
    | true =>
      obtain rfl : M = B3 := by rw [HM.out]; simp
      go_enter Try.func38, Try.ntmps38
      go_wp2_with (first | (go_at_call 59; refine (hno _).mono ?_; rintro e w1 ⟨rfl, hb1⟩; have kk := blk_below k0 hb1; have c1 := (blk_cell kk 1).trans rfl; have c2 := (blk_cell kk 2).trans rfl) | (go_at_call 58; first | (with_reducible refine (hi1 _).mono ?_; rintro e wf ⟨rfl, hw⟩; obtain rfl := hw.symm; clear hw) | (with_reducible refine (hi2 _).mono ?_; rintro e wf ⟨rfl, hw⟩; obtain rfl := hw.symm; clear hw)))
      go_ret
      exact ⟨rfl, Nm.below_two hB0 hb1⟩

set_option maxRecDepth 100000 in
set_option maxHeartbeats 1600000 in
theorem validHead_any (h : Hr) (w : World) :
    Calls Try.prog 37 #[.agg (hrV h).toArray] w fun e w' => e = .returned (.bool (hdOK h)) ∧ Below w.heap.size w w' := by
  have hB0 := (Below.refl w.heap.size w).alloc (Nat.le_refl _) (.cells (hrV h).toArray 25)
  have hi1 := fun W => within_any h.id 65535 W
  have hi2 := fun W => within_any h.op 15 W
  have hi3 := fun W => within_any h.code 15 W
  have HM : Hid (hdOK h = ((decide (0 ≤ h.id) && decide (h.id ≤ 65535)) && (decide (0 ≤ h.op) && decide (h.op ≤ 15)) && (decide (0 ≤ h.code) && decide (h.code ≤ 15)))) := rfl
  obtain ⟨i0, q1, i2, q3, q4, q5, q6, q7, q8, q9, i10⟩ := h
  simp only [hrV] at hB0 hi1 hi2 hi3 HM ⊢
  generalize hdOK ⟨i0, q1, i2, q3, q4, q5, q6, q7, q8, q9, i10⟩ = M at *
  generalize (decide (0 ≤ i0) && decide (i0 ≤ 65535)) = B1 at *
  generalize (decide (0 ≤ i2) && decide (i2 ≤ 15)) = B2 at *
  generalize (decide (0 ≤ i10) && decide (i10 ≤ 15)) = B3 at *
  cases B1 with
  | false =>
    obtain rfl : M = false := by rw [HM.out]; simp
    go_enter Try.func37, Try.ntmps37
    go_wp2_with (go_at_call 58; first | (with_reducible refine (hi1 _).mono ?_; rintro e wf ⟨rfl, hw⟩; obtain rfl := hw.symm; clear hw) | (with_reducible refine (hi2 _).mono ?_; rintro e wf ⟨rfl, hw⟩; obtain rfl := hw.symm; clear hw) | (with_reducible refine (hi3 _).mono ?_; rintro e wf ⟨rfl, hw⟩; obtain rfl := hw.symm; clear hw))
    go_ret
    exact ⟨rfl, hB0⟩
  | true =>
    cases B2 with
    | false =>
      obtain rfl : M = false := by rw [HM.out]; simp
      go_enter Try.func37, Try.ntmps37
      go_wp2_with (go_at_call 58; first | (with_reducible refine (hi1 _).mono ?_; rintro e wf ⟨rfl, hw⟩; obtain rfl := hw.symm; clear hw) | (with_reducible refine (hi2 _).mono ?_; rintro e wf ⟨rfl, hw⟩; obtain rfl := hw.symm; clear hw) | (with_reducible refine (hi3 _).mono ?_; rintro e wf ⟨rfl, hw⟩; obtain rfl := hw.symm; clear hw))
      go_ret
      exact ⟨rfl, hB0⟩
    | true =>
      obtain rfl : M = B3 := by rw [HM.out]; simp
      go_enter Try.func37, Try.ntmps37
      go_wp2_with (go_at_call 58; first | (with_reducible refine (hi1 _).mono ?_; rintro e wf ⟨rfl, hw⟩; obtain rfl := hw.symm; clear hw) | (with_reducible refine (hi2 _).mono ?_; rintro e wf ⟨rfl, hw⟩; obtain rfl := hw.symm; clear hw) | (with_reducible refine (hi3 _).mono ?_; rintro e wf ⟨rfl, hw⟩; obtain rfl := hw.symm; clear hw))
      go_ret
      exact ⟨rfl, hB0⟩

set_option maxRecDepth 100000 in
set_option maxHeartbeats 1600000 in
theorem lists_any (h : Hr) (q a u x : Value) (w : World) {n1 n2 n3 n4 : Nat} (e1 : ∃ b c, q = .slice b n1 c) (e2 : ∃ b c, a = .slice b n2 c) (e3 : ∃ b c, u = .slice b n3 c) (e4 : ∃ b c, x = .slice b n4 c) :
    Calls Try.prog 39 #[.agg (mgV h q a u x)] w fun e w' => e = .returned (.agg #[a, u, x]) ∧ Below w.heap.size w w' := by
  obtain ⟨b1, c1, rfl⟩ := e1
  obtain ⟨b2, c2, rfl⟩ := e2
  obtain ⟨b3, c3, rfl⟩ := e3
  obtain ⟨b4, c4, rfl⟩ := e4
  obtain ⟨i0, q1, i2, q3, q4, q5, q6, q7, q8, q9, i10⟩ := h
  simp only [mgV]
  go_enter Try.func39, Try.ntmps39
  go_wp2
  refine bodyPost_ret (v := .agg #[.slice b2 n2 c2, .slice b3 n3 c3, .slice b4 n4 c4]) ?_ rfl ⟨rfl, ?_⟩
  · simp [results, Try.results39, go_sem, Result.andThen]
  · exact ((Below.refl _ _).alloc (Nat.le_refl _) _).alloc (by simp) _
end Go.Proofs.Ytihhchebcojplaa
/- impl.validRecords by its contract. -/
namespace Go.Proofs.Ytihhchebcojplaa
open Go.RowKit
set_option linter.unusedVariables false

theorem valid1_any (r : Rr) (w : World) (ho : r.own.size ≤ 1048576) (hd : r.da.size ≤ 1048576) :
    Calls Try.prog 61 #[.agg #[.string r.own, .int .i64 r.ty, .int .i64 r.cl, .int .i64 r.tt, .string r.da]] w fun e w' => e = .returned (.bool (!rcOK r)) ∧ Below w.heap.size w w' := by
  have hR0 := RB.new w r 66
  have hB0 := (Below.refl w.heap.size w).alloc (Nat.le_refl _) (.cells #[.string r.own, .int .i64 r.ty, .int .i64 r.cl, .int .i64 r.tt, .string r.da] 66)
  have hv := fun W => validRecord_any r W ho hd
  generalize rcOK r = B at *
  obtain ⟨o, ty, cl, tt, da⟩ := r
  obtain ⟨c0, c1, c2, c3, c4⟩ := hR0
  simp only at hB0 hv c0 c1 c2 c3 c4 ⊢
  clear ho hd
  go_enter Try.func61, Try.ntmps61
  go_wp2_with (go_at_call 62; refine (hv _).mono ?_; rintro e w1 ⟨rfl, hb1⟩)
  go_ret
  exact ⟨rfl, Nm.below_two hB0 hb1⟩

set_option maxRecDepth 100000 in
set_option maxHeartbeats 1600000 in
theorem validAt_any (v : Value) (xs : List Rr) (w : World) (h : CRow w v xs.length 5 (rvVs xs)) (hx : ∀ r ∈ xs, r.own.size ≤ 1048576 ∧ r.da.size ≤ 1048576) :
    Calls Try.prog 82 #[v, .func (.func 61) #[] #[]] w fun e w' => Below w.heap.size w w' ∧ ∃ i : Int, e = .returned (.int .i64 i) ∧ ((xs.all rcOK = true ∧ i = -1) ∨ (xs.all rcOK = false ∧ 0 ≤ i)) := by
  obtain ⟨_, a, cap, rfl, hcap, hmx, hc⟩ := h
  unfold maxLen at hmx
  have hs := fun (r : Rr) (hr : r ∈ xs) W => valid1_any r W (hx r hr).1 (hx r hr).2
  clear hx
  go_enter Try.func82, Try.ntmps82
  go_wp2
  go_loopw [8] (fun i wr => ∃ k : Nat, k ≤ xs.length ∧ i = .int .i64 k ∧ Hid ((xs.take k).all rcOK = true) ∧ Below w.heap.size w wr) (fun i _ => xs.length - (intOf i).toNat)
  case atStart => exact ⟨0, Nat.zero_le _, rfl, by show _ = _; simp, Below.refl _ _⟩
  case round =>
    obtain ⟨k, hk, rfl, HA, hbel⟩ := hrel
    by_cases hlt : k < xs.length
    · obtain ⟨x, hxk⟩ : ∃ x, xs[k]? = some x := ⟨_, List.getElem?_eq_getElem hlt⟩
      obtain ⟨b, off, rfl, hcell⟩ := hc (by omega)
      obtain ⟨c0, c1, c2, c3, c4⟩ := rv_cells hcell hxk
      have put : ∀ {O : Nat} {z : Value}, w.cell? ⟨b, O, none⟩ = some z → wr.cell? ⟨b, O, none⟩ = some z := fun h => (hbel.cell (World.block_lt_of_cell? w _ h)).trans h
      replace c0 := put c0
      replace c1 := put c1
      replace c2 := put c2
      replace c3 := put c3
      replace c4 := put c4
      have hmem := List.mem_of_getElem? hxk
      have hone := hs x hmem wr
      have i1 : (0 : Int) ≤ (k : Int) := by omega
      have i2 : (k : Int) < (xs.length : Int) := by omega
      cases hok : rcOK x with
      | true =>
        have HA2 : Hid ((xs.take (k + 1)).all rcOK = true) := by show _ = _; rw [all_take' hxk, HA.out, hok]; rfl
        rw [hok] at hone
        clear hs hok hmem hxk hcell hc
        obtain ⟨o, ty, cl, tt, da⟩ := x
        simp only at *
        go_wp2_with fail
        refine hone.mono ?_
        rintro e w1 ⟨rfl, hb1⟩
        go_wp2
        go_roundw
        case rel => exact ⟨k + 1, by omega, by go_num, HA2, Nm.below_two hbel hb1⟩
        case measure => simp [intOf]; omega
      | false =>
        have HF := Nm.hide (all_no hmem hok)
        rw [hok] at hone
        clear hs hok hmem hxk hcell hc
        obtain ⟨o, ty, cl, tt, da⟩ := x
        simp only at *
        go_wp2_with fail
        refine hone.mono ?_
        rintro e w1 ⟨rfl, hb1⟩
        go_wp2
        go_ret
        exact ⟨Nm.below_two hbel hb1, _, rfl, .inr ⟨HF.out, by omega⟩⟩
    · have hkl : k = xs.length := by omega
      subst hkl
      have HT := HA.out
      rw [List.take_length] at HT
      have HB := Nm.hide HT
      clear hs HT HA hc
      have i2 : ¬ (xs.length : Int) < (xs.length : Int) := by omega
      go_wp2
      go_ret
      exact ⟨hbel, _, rfl, .inl ⟨by have := HB.out; simpa using this, rfl⟩⟩

set_option maxRecDepth 100000 in
set_option maxHeartbeats 1600000 in
theorem validHas_any (v : Value) (xs : List Rr) (w : World) (h : CRow w v xs.length 5 (rvVs xs)) (hx : ∀ r ∈ xs, r.own.size ≤ 1048576 ∧ r.da.size ≤ 1048576) :
    Calls Try.prog 60 #[v, .func (.func 61) #[] #[]] w fun e w' => e = .returned (.bool (!xs.all rcOK)) ∧ Below w.heap.size w w' := by
  have hs := validAt_any v xs w h hx
  obtain ⟨_, a, cap, rfl, _⟩ := h
  generalize xs.all rcOK = B at *
  go_enter Try.func60, Try.ntmps60
  go_wp2_with fail
  refine hs.mono ?_
  rintro e w1 ⟨hb1, i, rfl, ⟨rfl, rfl⟩ | ⟨rfl, hi⟩⟩
  · go_wp2
    go_ret
    exact ⟨rfl, hb1⟩
  · go_wp2
    go_ret
    exact ⟨rfl, hb1⟩

theorem validRecords_any (v : Value) (xs : List Rr) (w : World) (h : CRow w v xs.length 5 (rvVs xs)) (hx : ∀ r ∈ xs, r.own.size ≤ 1048576 ∧ r.da.size ≤ 1048576) :
    Calls Try.prog 40 #[v] w fun e w' => e = .returned (.bool (xs.all rcOK)) ∧ Below w.heap.size w w' := by
  have hs := validHas_any v xs w h hx
  obtain ⟨_, a, cap, rfl, hcap, hmx, _⟩ := h
  generalize xs.all rcOK = B at *
  go_enter Try.func40, Try.ntmps40
  go_wp2_with fail
  refine hs.mono ?_
  rintro e w1 ⟨rfl, hb1⟩
  go_wp2
  go_ret
  exact ⟨by simp, hb1⟩
end Go.Proofs.Ytihhchebcojplaa
/- Messages that are not too great. -/
namespace Go.Proofs.Ytihhchebcojplaa
open Go.RowKit

def MSmall (m : Mg) : Prop := (∀ r ∈ m.qs, r.nm.size ≤ 1048576) ∧ (∀ r ∈ m.an, r.own.size ≤ 1048576 ∧ r.da.size ≤ 1048576) ∧ (∀ r ∈ m.au, r.own.size ≤ 1048576 ∧ r.da.size ≤ 1048576) ∧ (∀ r ∈ m.ex, r.own.size ≤ 1048576 ∧ r.da.size ≤ 1048576) ∧ m.qs.length ≤ 1048576 ∧ m.an.length ≤ 1048576 ∧ m.au.length ≤ 1048576 ∧ m.ex.length ≤ 1048576
end Go.Proofs.Ytihhchebcojplaa
/- impl.validMessage by its contract. -/
namespace Go.Proofs.Ytihhchebcojplaa
open Go.RowKit
set_option linter.unusedVariables false

/-- The lists of records, in their order. -/
def lsOf (m : Mg) : Nat → List Rr
  | 0 => m.an
  | 1 => m.au
  | _ => m.ex

theorem idx3 {a u x : Value} {n1 n2 n3 : Nat} (e1 : ∃ b c, a = .slice b n1 c) (e2 : ∃ b c, u = .slice b n2 c) (e3 : ∃ b c, x = .slice b n3 c) (j : Nat) (hj : j < 3) : ∃ v, (v = a ∧ j = 0 ∨ v = u ∧ j = 1 ∨ v = x ∧ j = 2) ∧ ∀ W, (Instr.index 88 (.agg #[a, u, x]) (.int .i64 (j : Int))).run Try.prog W = .ok v W := by
  obtain ⟨b1, c1, rfl⟩ := e1
  obtain ⟨b2, c2, rfl⟩ := e2
  obtain ⟨b3, c3, rfl⟩ := e3
  rcases j with _ | _ | _ | j
  · exact ⟨_, .inl ⟨rfl, rfl⟩, fun W => by simp [Instr.index, run_underlying Try.underlying88, asIntOf, go_sem]⟩
  · exact ⟨_, .inr (.inl ⟨rfl, rfl⟩), fun W => by simp [Instr.index, run_underlying Try.underlying88, asIntOf, go_sem]⟩
  · exact ⟨_, .inr (.inr ⟨rfl, rfl⟩), fun W => by simp [Instr.index, run_underlying Try.underlying88, asIntOf, go_sem]⟩
  · omega

/-- The list of number j, where it is read. -/
theorem list_at {w : World} {m : Mg} {q a u x : Value} (h : MRow w m q a u x) (hm : MSmall m) (j : Nat) (hj : j < 3) : ∃ la lc, CRow w (.slice la (lsOf m j).length lc) (lsOf m j).length 5 (rvVs (lsOf m j)) ∧ (∀ r ∈ lsOf m j, r.own.size ≤ 1048576 ∧ r.da.size ≤ 1048576) ∧ (lsOf m j).length ≤ 1048576 ∧ ∀ W, (Instr.index 88 (.agg #[a, u, x]) (.int .i64 (j : Int))).run Try.prog W = .ok (.slice la (lsOf m j).length lc) W := by
  obtain ⟨_, s2, s3, s4, _, l2, l3, l4⟩ := hm
  obtain ⟨v, hv, hrun⟩ := idx3 (n1 := m.an.length) (n2 := m.au.length) (n3 := m.ex.length) (a := a) (u := u) (x := x) (by obtain ⟨_, b, c, e, _⟩ := h.ra; exact ⟨b, c, e⟩) (by obtain ⟨_, b, c, e, _⟩ := h.ru; exact ⟨b, c, e⟩) (by obtain ⟨_, b, c, e, _⟩ := h.rx; exact ⟨b, c, e⟩) j hj
  rcases hv with ⟨rfl, rfl⟩ | ⟨rfl, rfl⟩ | ⟨rfl, rfl⟩
  · have hr := h.ra
    obtain ⟨_, b, c, rfl, _⟩ := h.ra
    exact ⟨b, c, hr, s2, l2, hrun⟩
  · have hr := h.ru
    obtain ⟨_, b, c, rfl, _⟩ := h.ru
    exact ⟨b, c, hr, s3, l3, hrun⟩
  · have hr := h.rx
    obtain ⟨_, b, c, rfl, _⟩ := h.rx
    exact ⟨b, c, hr, s4, l4, hrun⟩

set_option maxRecDepth 100000 in
set_option maxHeartbeats 6400000 in
theorem validMessage_any (m : Mg) (q a u x : Value) (w : World) (h : MRow w m q a u x) (hm : MSmall m) :
    Calls Try.prog 19 #[.agg (mgV m.hd q a u x)] w fun e w' => e = .returned (.bool (mgOK m)) ∧ Below w.heap.size w w' := by
  have hla := fun j hj => list_at h hm j hj
  have hB0 := (Below.refl w.heap.size w).alloc (Nat.le_refl _) (.cells (mgV m.hd q a u x) 29)
  have kb := blk_new w (mgV m.hd q a u x) 29
  have hhd := fun W => validHead_any m.hd W
  have hli := fun W => lists_any (n1 := m.qs.length) (n2 := m.an.length) (n3 := m.au.length) (n4 := m.ex.length) m.hd q a u x W (by obtain ⟨_, b, c, e, _⟩ := h.rq; exact ⟨b, c, e⟩) (by obtain ⟨_, b, c, e, _⟩ := h.ra; exact ⟨b, c, e⟩) (by obtain ⟨_, b, c, e, _⟩ := h.ru; exact ⟨b, c, e⟩) (by obtain ⟨_, b, c, e, _⟩ := h.rx; exact ⟨b, c, e⟩)
  obtain ⟨s1, _, _, _, l1, l2, l3, l4⟩ := hm
  have hvq := fun (r : Qr) (hr : r ∈ m.qs) W => validQuestion_any r W (s1 r hr)
  obtain ⟨RES, HRES⟩ : ∃ R, Hid (R = (decide (m.qs.length + m.an.length + m.au.length + m.ex.length ≤ 400) && hdOK m.hd && m.qs.all quOK && m.an.all rcOK && m.au.all rcOK && m.ex.all rcOK)) := ⟨_, rfl⟩
  have hgoal : mgOK m = RES := by rw [HRES.out]; rfl
  rw [hgoal]
  have HNO : Hid (∀ j, j < 3 → (lsOf m j).all rcOK = false → RES = false) := by
    intro j hj hf
    rw [HRES.out]
    rcases j with _ | _ | _ | j
    · simp only [lsOf] at hf; rw [hf]; simp
    · simp only [lsOf] at hf; rw [hf]; simp
    · simp only [lsOf] at hf; rw [hf]; simp
    · omega
  have HYE : Hid (decide (m.qs.length + m.an.length + m.au.length + m.ex.length ≤ 400) = true → hdOK m.hd = true → m.qs.all quOK = true → (∀ j, j < 3 → (lsOf m j).all rcOK = true) → RES = true) := by
    intro h1 h2 h3 h4
    have a1 := h4 0 (by decide)
    have a2 := h4 1 (by decide)
    have a3 := h4 2 (by decide)
    simp only [lsOf] at a1 a2 a3
    rw [HRES.out, h1, h2, h3, a1, a2, a3]; rfl
  clear hgoal
  generalize hLS : lsOf m = LS at *
  clear hLS
  obtain ⟨_, qa, qc, rfl, hqcap, hqmx, hqc⟩ := h.rq
  obtain ⟨_, aa, ac, rfl, _⟩ := h.ra
  obtain ⟨_, ua, uc, rfl, _⟩ := h.ru
  obtain ⟨_, xa, xc, rfl, _⟩ := h.rx
  clear h s1
  unfold maxLen at hqmx
  obtain ⟨⟨i0, b1, i2, b3, b4, b5, b6, b7, b8, b9, i10⟩, qs, an, au, ex⟩ := m
  simp only [mgV, hrV] at *
  generalize hdOK ⟨i0, b1, i2, b3, b4, b5, b6, b7, b8, b9, i10⟩ = HB at *
  by_cases hbig : 400 < qs.length + an.length + au.length + ex.length
  · obtain rfl : RES = false := by rw [HRES.out, decide_eq_false (by omega)]; rfl
    have hbig' : (400 : Int) < (qs.length : Int) + (an.length : Int) + (au.length : Int) + (ex.length : Int) := by omega
    clear HRES hqc hla HNO HYE hvq
    go_enter Try.func19, Try.ntmps19
    go_wp2
    go_ret
    exact ⟨rfl, hB0⟩
  · have hbig' : (qs.length : Int) + (an.length : Int) + (au.length : Int) + (ex.length : Int) ≤ 400 := by omega
    have hsml : decide (qs.length + an.length + au.length + ex.length ≤ 400) = true := decide_eq_true (by omega)
    cases HB with
    | false =>
      obtain rfl : RES = false := by rw [HRES.out]; simp
      clear HRES hqc hla HNO HYE hvq
      go_enter Try.func19, Try.ntmps19
      go_wp2_with (go_at_call 37; refine (hhd _).mono ?_; rintro e w1 ⟨rfl, hb1⟩)
      go_ret
      exact ⟨rfl, Nm.below_two hB0 hb1⟩
    | true =>
      have HNQ : Hid (qs.all quOK = false → RES = false) := by
        intro hf
        rw [HRES.out, hf]; simp
      have HYE2 : Hid (qs.all quOK = true → (∀ j, j < 3 → (LS j).all rcOK = true) → RES = true) := fun h3 h4 => HYE.out hsml rfl h3 h4
      clear HRES HYE hsml
      go_enter Try.func19, Try.ntmps19
      go_wp2_with (go_at_call 37; refine (hhd _).mono ?_; rintro e w1 ⟨rfl, hb1⟩; have kr1 := blk_below kb hb1; have g11 := (blk_cell kr1 11).trans rfl)
      have hB1 := Nm.below_two hB0 hb1
      clear kb hB0 hb1 hhd g11
      go_loopw [34] (fun i wr => ∃ k : Nat, k ≤ qs.length ∧ i = .int .i64 k ∧ Hid ((qs.take k).all quOK = true) ∧ Blk wr w.heap.size #[.int .i64 i0, .bool b1, .int .i64 i2, .bool b3, .bool b4, .bool b5, .bool b6, .bool b7, .bool b8, .bool b9, .int .i64 i10, .slice qa qs.length qc, .slice aa an.length ac, .slice ua au.length uc, .slice xa ex.length xc] 29 ∧ Below w.heap.size w wr) (fun i _ => qs.length - (intOf i).toNat)
      case atStart => exact ⟨0, Nat.zero_le _, rfl, by show _ = _; simp, kr1, hB1⟩
      case round =>
        obtain ⟨k, hk, rfl, HA, kr, hbel⟩ := hrel
        clear kr1 hB1
        by_cases hlt : k < qs.length
        · obtain ⟨r, hrk⟩ : ∃ r, qs[k]? = some r := ⟨_, List.getElem?_eq_getElem hlt⟩
          obtain ⟨b, off, rfl, hcell⟩ := hqc (by omega)
          obtain ⟨c0, c1, c2⟩ := qv_cells hcell hrk
          have put : ∀ {O : Nat} {z : Value}, w.cell? ⟨b, O, none⟩ = some z → wr.cell? ⟨b, O, none⟩ = some z := fun h => (hbel.cell (World.block_lt_of_cell? w _ h)).trans h
          replace c0 := put c0
          replace c1 := put c1
          replace c2 := put c2
          have hmem := List.mem_of_getElem? hrk
          have hone := fun W => hvq r hmem W
          have hBq := hbel.alloc hbel.size (.cells #[.string r.nm, .int .i64 r.ty, .int .i64 r.cl] 53)
          have krq := blk_alloc kr (.cells #[.string r.nm, .int .i64 r.ty, .int .i64 r.cl] 53)
          have HY : Hid (quOK r = true → (qs.take (k + 1)).all quOK = true) := by
            intro hok
            rw [all_take' hrk, HA.out, hok]; rfl
          have HZ : Hid (quOK r = false → RES = false) := fun hok => HNQ.out (all_no hmem hok)
          have i1 : (0 : Int) ≤ (k : Int) := by omega
          have i3 : (k : Int) < (qs.length : Int) := by omega
          clear hcell hqc hrk hmem hvq HA hla kr HNO HYE2 HNQ hli
          obtain ⟨o, ty, cl⟩ := r
          simp only at hone hBq krq HY HZ c0 c1 c2
          generalize quOK ⟨o, ty, cl⟩ = M at *
          cases M with
          | false =>
            obtain rfl : RES = false := HZ.out rfl
            go_wp2_with (go_at_call 38; refine (hone _).mono ?_; rintro e w1 ⟨rfl, hb1⟩)
            go_ret
            exact ⟨rfl, Nm.below_two hBq hb1⟩
          | true =>
            have HY2 := Nm.hide (HY.out rfl)
            clear HY HZ
            go_wp2_with (go_at_call 38; refine (hone _).mono ?_; rintro e w1 ⟨rfl, hb1⟩)
            go_roundw
            case rel => exact ⟨k + 1, by omega, by go_num, HY2.out, blk_below krq hb1, Nm.below_two hBq hb1⟩
            case measure => simp [intOf]; omega
        · have hkl : k = qs.length := by omega
          subst hkl
          have i3 : (qs.length : Int) ≤ (qs.length : Int) := by omega
          have hq : qs.all quOK = true := by
            have := HA.out
            rwa [List.take_length] at this
          have HYE3 : Hid ((∀ j, j < 3 → (LS j).all rcOK = true) → RES = true) := fun h4 => HYE2.out hq h4
          clear HA hqc hvq hq HNQ HYE2
          have rr := fun i => blk_cell kr i
          go_wp2_with (go_at_call 39; refine (hli _).mono ?_; rintro e w2 ⟨rfl, hb2⟩)
          have hB2 := Nm.below_two hbel hb2
          clear rr kr hbel hb2 hli
          go_loopw [44] (fun i wr => ∃ j : Nat, j ≤ 3 ∧ i = .int .i64 j ∧ Hid (∀ t, t < j → (LS t).all rcOK = true) ∧ Below w.heap.size w wr) (fun i _ => 3 - (intOf i).toNat)
          case atStart => exact ⟨0, by decide, rfl, fun t ht => absurd ht (Nat.not_lt_zero _), hB2⟩
          case round =>
            obtain ⟨j, hj, rfl, HA, hbel⟩ := hrel
            clear hB2
            by_cases hlt : j < 3
            · obtain ⟨la, lc, hrow, hsz, hlen, hidx⟩ := hla j hlt
              have hvr := fun W (hW : Below w.heap.size w W) => validRecords_any _ (LS j) W (hrow.below hW) hsz
              have i1 : (0 : Int) ≤ (j : Int) := by omega
              have i2 : (j : Int) < 3 := by omega
              have HZ : Hid ((LS j).all rcOK = false → RES = false) := HNO.out j hlt
              have HA2 : Hid ((LS j).all rcOK = true → ∀ t, t < j + 1 → (LS t).all rcOK = true) := by
                intro hok t ht
                by_cases e : t = j
                · subst e; exact hok
                · exact HA.out t (by omega)
              clear hla HNO hsz HA HYE3 hrow
              cases hB : (LS j).all rcOK with
              | false =>
                obtain rfl : RES = false := HZ.out hB
                rw [hB] at hvr
                clear hB HZ HA2
                generalize LS j = xs at *
                go_wp2_with (go_at_call 40; refine (hvr _ hbel).mono ?_; rintro e w1 ⟨rfl, hb1⟩)
                go_ret
                exact ⟨rfl, Nm.below_two hbel hb1⟩
              | true =>
                have HA3 := Nm.hide (HA2.out hB)
                rw [hB] at hvr
                clear hB HZ HA2
                generalize (LS j).length = xl at *
                go_wp2_with (go_at_call 40; refine (hvr _ hbel).mono ?_; rintro e w1 ⟨rfl, hb1⟩)
                go_roundw
                case rel => exact ⟨j + 1, by omega, by go_num, HA3.out, Nm.below_two hbel hb1⟩
                case measure => simp [intOf]; omega
            · have hje : j = 3 := by omega
              subst hje
              obtain rfl : RES = true := HYE3.out HA.out
              clear hla HNO HYE3 HA
              go_wp2
              go_ret
              exact ⟨rfl, hbel⟩
end Go.Proofs.Ytihhchebcojplaa
/- The program's writer; (*writer).number by its contract. -/
namespace Go.Proofs.Ytihhchebcojplaa
open Go.RowKit
set_option linter.unusedVariables false

theorem step_append_str {P : Program} {ops : Array Oper} {o : Oper} {a : Act} {w : World} {K : Act → World → Prop} {Q : Exit → Act → World → Prop} {E : Prop} (hgd : o.guard = none) (sl x : Operand) (t u : TypeId)
    (ho : o.op = .call { callee := .builtin .append, args := #[sl, x], argTypes := #[t, u] })
    (base : Nat) (e : TypeId) (i : TypeInfo) (ht : P.underlying t = some (.slice e)) (hu : P.underlying u = some .string) (hi : P.info? e = some i) (hz : i.zero = some (.int .u8 0))
    (hsize : i.size = 1) (hby : i.bytes = 1)
    (v : Value) (n : Nat) (xs : List Value) (hs : a.eval sl = v) (hown : w.ownsRow base e 1 v n xs) (s : ByteArray) (hx : a.eval x = .string s)
    (h63 : n + s.size ≤ maxLen) (hbytes : n + s.size ≤ 140737488355328) (hbase : base ≤ w.heap.size)
    (h : ∀ v' w', w'.ownsRow base e 1 v' (n + s.size) (xs ++ Go.Lib.strCells s) → w.grownBy w' v.ownBlock → K (a.put o.dst v') w') :
    if Region.wanted o (yielded ops a.tmps) = true then Oper.wp P o a w K Q else E := by
  have hw : Region.wanted o (yielded ops a.tmps) = true := by simp [Region.wanted, hgd]
  rw [if_pos hw]
  obtain ⟨v', w', hr, h2, h3, h4⟩ := Go.Lib.run_append_own_string (P := P) w base t u o.type e i ht hu hi hz hsize hby v n xs hown s h63 hbytes hbase
  unfold Oper.wp execOp
  simp only [ho, resolve, invoke, builtin, Sem.run_bind, Sem.run_pure, Result.andThen_ok, List.map_toArray, List.map_cons, List.map_nil, hs, hx, hr]
  exact h v' w' h2 h3

/-- The program's writer lies in block g. -/
structure PW (w : World) (g B : Nat) (bs : List UInt8) (vb vm : Value) : Prop where
  blk : Blk w g #[vb, vm] 96
  rb : w.ownsRow B 5 1 vb bs.length (Nm.bys bs)
  bg : B ≤ g
theorem PW.below {w W : World} {g B : Nat} {bs : List UInt8} {vb vm : Value} (h : PW w g B bs vb vm) (hb : Below w.heap.size w W) : PW W g B bs vb vm := ⟨blk_below h.blk hb, own_below h.rb hb, h.bg⟩

def isCells : Obj → TypeId → Prop
  | .cells _ T _, T' => T = T'
  | _, _ => False
/-- Below B, and objects that are neither bytes nor a writer are as they were. -/
structure Bw (B : Nat) (w w' : World) : Prop where
  be : Below B w w'
  kp : ∀ (k : Nat) (o : Obj), w.heap[k]? = some o → ¬ isCells o 5 → ¬ isCells o 96 → w'.heap[k]? = some o
theorem Bw.refl (B : Nat) (w : World) : Bw B w w := ⟨Below.refl _ _, fun _ _ h _ _ => h⟩
theorem Bw.trans {B : Nat} {a b c : World} (h : Bw B a b) (k : Bw B b c) : Bw B a c := ⟨h.be.trans k.be, fun i o hb h1 h2 => k.kp i o (h.kp i o hb h1 h2) h1 h2⟩
theorem Bw.of {B : Nat} {w w' : World} (h : Below w.heap.size w w') (hB : B ≤ w.heap.size) : Bw B w w' := ⟨h.mono hB, fun i o hb _ _ => (h.block i (Array.getElem?_eq_some_iff.1 hb).1).trans hb⟩
theorem Bw.app {B s n : Nat} {w W W1 : World} {v : Value} {xs : List Value} (h : Bw B w W) (ho : W.ownsRow B 5 s v n xs) (hg : W.grownBy W1 v.ownBlock) (hB : B ≤ W.heap.size) : Bw B w W1 := by
  refine ⟨h.be.grown hg hB (fun q hq => (ho.lt q hq).1), fun i o hb h1 h2 => ?_⟩
  have hb' := h.kp i o hb h1 h2
  refine (hg.block i (Array.getElem?_eq_some_iff.1 hb').1 (fun e => ?_)).trans hb'
  rcases ho.2 with ⟨rfl, _⟩ | ⟨g', cap', cur, rfl, _, hh, _⟩
  · simp [Value.ownBlock] at e
  · simp only [Value.ownBlock, Option.some.injEq] at e
    subst e
    rw [hh] at hb'
    cases hb'
    exact h1 rfl
theorem Bw.set {B g : Nat} {w W : World} {cs : Array Value} (h : Bw B w W) (hb : Blk W g cs 96) (hg : B ≤ g) (i : Nat) (v : Value) : Bw B w (W.setCell ⟨g, i, none⟩ v) := by
  refine ⟨h.be.setCell hg _, fun k o hk h1 h2 => ?_⟩
  have hk' := h.kp k o hk h1 h2
  have hne : k ≠ g := by
    intro e
    subst e
    unfold Blk at hb
    rw [hb] at hk'
    cases hk'
    exact h2 rfl
  rw [heap_setCell_other W ⟨g, i, none⟩ k _ (by simpa using hne)]
  exact hk'
set_option maxRecDepth 100000 in
set_option maxHeartbeats 1600000 in
theorem number_w_any (n k : Int) (PB : ByteArray) (hput : ∀ W, Calls Try.prog 67 #[.int .i64 n, .int .i64 k] W fun e w' => e = .returned (.string PB) ∧ Below W.heap.size W w') (g B : Nat) (bs : List UInt8) (vb vm : Value) (w : World) (h : PW w g B bs vb vm) (hB : B ≤ w.heap.size) (hl : bs.length + PB.size ≤ 100000000) :
    Calls Try.prog 65 #[.pointer (some ⟨g, 0, none⟩), .int .i64 n, .int .i64 k] w fun e w' => e = .returned (.tuple #[]) ∧ ∃ vb', PW w' g B (bs ++ PB.data.toList) vb' vm ∧ Bw B w w' := by
  obtain ⟨i0, hi, hz0, hz1, hz2⟩ := info_parts Try.infoU8w
  obtain ⟨xa, ya, hv⟩ := own_sl h.rb
  subst hv
  have c0 : w.cell? ⟨g, 0, none⟩ = some (.slice xa bs.length ya) := (blk_cell h.blk 0).trans rfl
  go_enter Try.func65, Try.ntmps65
  go_wp2_with fail
  refine wp_region_last (fun W => W.cell? ⟨g, 0, none⟩ = some (.slice xa bs.length ya)) 11 (by kernel_rfl) c0 (fun hHeld => ?_)
  refine wpAnyL_take (i := 0) (v := ?_) rfl (by kernel_rfl) (by kernel_rfl) (by kernel_rfl) (by kernel_rfl) (fun _ _ _ h => h) (Or.inl ⟨by rfl, ?_⟩) (by assumption) ?_
  rotate_left 1
  · (intro w hSw; go_simp; try (with_reducible rfl))
  refine wpAnyL_take (i := 1) (v := ?_) rfl (by kernel_rfl) (by kernel_rfl) (by kernel_rfl) (by kernel_rfl) (fun _ _ _ h => h) (Or.inl ⟨by rfl, ?_⟩) (by assumption) ?_
  rotate_left 1
  · (intro w hSw; go_simp; try (with_reducible rfl))
  refine wpAnyL_take (i := 2) (v := ?_) rfl (by kernel_rfl) (by kernel_rfl) (by kernel_rfl) (by kernel_rfl) (fun _ _ _ h => h) (Or.inl ⟨by rfl, ?_⟩) (by assumption) ?_
  rotate_left 1
  · (intro w hSw; go_simp; try (with_reducible rfl))
  refine wpAnyL_take (i := 3) (v := ?_) rfl (by kernel_rfl) (by kernel_rfl) (by kernel_rfl) (by kernel_rfl) (fun _ _ _ h => h) (Or.inl ⟨by rfl, ?_⟩) (by assumption) ?_
  rotate_left 1
  · (intro w hSw; go_simp; try (with_reducible rfl))
  refine wpAnyL_take (i := 4) (v := ?_) rfl (by kernel_rfl) (by kernel_rfl) (by kernel_rfl) (by kernel_rfl) (fun _ _ _ h => h) (Or.inl ⟨by rfl, ?_⟩) (by assumption) ?_
  rotate_left 1
  · (intro w hSw; go_simp; try (with_reducible rfl))
  refine wpAnyL_take (i := 5) (v := ?_) rfl (by kernel_rfl) (by kernel_rfl) (by kernel_rfl) (by kernel_rfl) (fun _ _ _ h => h) (Or.inl ⟨by rfl, ?_⟩) (by assumption) ?_
  rotate_left 1
  · (intro w hSw; go_simp; try (with_reducible rfl))
  refine wpAnyL_take (i := 6) (v := ?_) rfl (by kernel_rfl) (by kernel_rfl) (by kernel_rfl) (by kernel_rfl) (fun _ _ _ h => h) (Or.inl ⟨by rfl, ?_⟩) (by assumption) ?_
  rotate_left 1
  · (intro w hSw; go_simp; try (with_reducible rfl))
  have hd : PW w.drew g B bs (.slice xa bs.length ya) vm := h.below (Below.refl _ _).drew
  refine wpAnyL_one (i := 7) (by kernel_rfl) rfl (fun K hK => ?_)
  go_simp
  refine (hput _).mono ?_
  rintro e wn ⟨rfl, hbn⟩
  go_wp2_with fail
  have hn := hd.below hbn
  have bn : Bw B w wn := (Bw.of (Below.refl _ _).drew hB).trans (Bw.of hbn hB)
  have hBn : B ≤ wn.heap.size := Nat.le_trans hB hbn.size
  refine hK.out _ _ ((blk_cell hn.blk 0).trans rfl) (fun hH2 => ?_)
  clear hK K
  refine wpAnyL_one (i := 8) (by kernel_rfl) rfl (fun K hK => ?_)
  refine step_append_str rfl (.tmp 10) (.tmp 13) 22 9 rfl B 5 i0 Try.underlying22 Try.underlying9 hi hz0 hz1 hz2 (.slice xa bs.length ya) bs.length (Nm.bys bs) (by rfl) hn.rb PB (by rfl) (by unfold maxLen; omega) (by omega) hBn ?_
  intro va wa hown9 hgrow9
  rw [Nm.bys_str, ← Nm.bys_append] at hown9
  obtain ⟨xb, yb, hvb⟩ := own_sl hown9
  have hblk9 : Blk wa g #[.slice xa bs.length ya, vm] 96 := blk_grown hn.blk hgrow9 (fun e => own_blk hn.rb hn.blk (by decide) e)
  have b9 : Bw B w wa := bn.app hn.rb hgrow9 hBn
  have c9 : wa.cell? ⟨g, 0, none⟩ = some (.slice xa bs.length ya) := (blk_cell hblk9 0).trans rfl
  have f9 := blk_frozen hblk9 0
  rw [hvb]
  refine hK.out _ _ c9 (fun hH3 => ?_)
  clear hK K
  refine wpAnyL_one (i := 9) (by kernel_rfl) rfl (fun K hK => ?_)
  go_simp
  refine hK.out _ _ c9 (fun hH4 => ?_)
  clear hK K
  refine wpAnyL_take (i := 10) (v := ?_) rfl (by kernel_rfl) (by kernel_rfl) (by kernel_rfl) (by kernel_rfl) (fun _ _ _ h => h) (Or.inl ⟨by rfl, ?_⟩) (by assumption) ?_
  rotate_left 1
  · (intro w hSw; go_simp; try (with_reducible rfl))
  refine wpAnyL_end (by kernel_rfl) rfl (by kernel_rfl) (fun K hK => ?_)
  go_simp
  refine hK.out _ _ ?_
  clear hK K
  rw [hvb] at hown9
  have hlen : bs.length + PB.size = (bs ++ PB.data.toList).length := by simp
  have hS10 : PW (wa.setCell ⟨g, 0, none⟩ (.slice xb (bs.length + PB.size) yb)) g B (bs ++ PB.data.toList) (.slice xb (bs.length + PB.size) yb) vm := ⟨blk_set hblk9 0 _, by rw [← hlen]; exact own_far hown9 (own_blk hown9 hblk9 (by decide)), h.bg⟩
  have b10 := b9.set hblk9 h.bg 0 (.slice xb (bs.length + PB.size) yb)
  refine bodyPost_end (v := .tuple #[]) ?_ rfl ⟨rfl, _, hS10, b10⟩
  simp [results, go_sem]
end Go.Proofs.Ytihhchebcojplaa
