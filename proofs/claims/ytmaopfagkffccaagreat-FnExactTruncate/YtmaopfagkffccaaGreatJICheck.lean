import Derived.Test.YtmaopfagkffccaaGreatJTake2
import Derived.Test.YtmaopfagkffccaaGreatJPartsM
import Derived.Test.YtmaopfagkffccaaGreatJParts
import Derived.Test.YtmaopfagkffccaaGreatJMath
import Derived.Test.YtmaopfagkffccaaGreatJMvM
import Derived.Test.YtmaopfagkffccaaGreatJPtM
/- impl.CheckData by its contract. -/
namespace Go.Proofs.YtmaopfagkffccaaGreat
open Go.RowKit

set_option maxRecDepth 100000 in
set_option maxHeartbeats 400000 in
theorem implCheckData_any (t : Int) (d : ByteArray) (w : World) (hd : d.size ≤ 2000000) :
    Calls Tryz.prog 84 #[.int .i64 t, .string d] w fun e w' => e = .returned (.int .i64 (cutCode t d)) ∧ Below w.heap.size w w' := by
  have hcall := cutData_any t d w hd
  go_enter Tryz.func84, Tryz.ntmps84
  go_wp2_with (go_at_call 93; refine hcall.mono ?_; rintro e w2 ⟨v, rfl, _, _, hbel⟩)
  go_ret
  exact ⟨rfl, hbel⟩
end Go.Proofs.YtmaopfagkffccaaGreat
/- impl.validRecord, validQuestion, spec.l04Sound by their contracts. -/
namespace Go.Proofs.YtmaopfagkffccaaGreat
open Go.RowKit
set_option linter.unusedVariables false

set_option maxRecDepth 100000 in
set_option maxHeartbeats 3200000 in
theorem validRecord_any (r : Rr) (w : World) (ho : r.own.size ≤ 1048576) (hd : r.da.size ≤ 1048576) :
    Calls Tryz.prog 65 #[.agg #[.string r.own, .int .i64 r.ty, .int .i64 r.cl, .int .i64 r.tt, .string r.da]] w fun e w' => e = .returned (.bool (rcOK r)) ∧ Below w.heap.size w w' := by
  have hR0 := RB.new w r 72
  have hB0 := (Below.refl w.heap.size w).alloc (Nat.le_refl _) (.cells #[.string r.own, .int .i64 r.ty, .int .i64 r.cl, .int .i64 r.tt, .string r.da] 72)
  have hno := fun W => implNameOK_any r.own W (by unfold maxLen; omega)
  have hi1 := fun W => within_any r.ty 65535 W
  have hi2 := fun W => within_any r.cl 65535 W
  have hi3 := fun W => within_any r.tt 4294967295 W
  have hck := fun W => implCheckData_any r.ty r.da W (by omega)
  have HM : Hid (rcOK r = ((Nm.split r.own).isSome && (decide (0 ≤ r.ty) && decide (r.ty ≤ 65535)) && (decide (0 ≤ r.cl) && decide (r.cl ≤ 65535)) && (decide (0 ≤ r.tt) && decide (r.tt ≤ 4294967295)) && (decide (r.da.size = 0) || cutCode r.ty r.da == 0))) := rfl
  have he5 := str_empty (s := r.da)
  obtain ⟨o, ty, cl, tt, da⟩ := r
  simp only at hR0 hB0 hno hi1 hi2 hi3 hck HM he5 ⊢
  generalize rcOK ⟨o, ty, cl, tt, da⟩ = M at *
  generalize (Nm.split o).isSome = B1 at *
  generalize (decide (0 ≤ ty) && decide (ty ≤ 65535)) = B2 at *
  generalize (decide (0 ≤ cl) && decide (cl ≤ 65535)) = B3 at *
  generalize (decide (0 ≤ tt) && decide (tt ≤ 4294967295)) = B4 at *
  generalize cutCode ty da = C6 at *
  generalize decide (da.size = 0) = B5 at *
  clear ho hd
  cases B1 with
  | false =>
    obtain rfl : M = false := by rw [HM.out]; simp
    go_enter Tryz.func65, Tryz.ntmps65
    go_wp2_with (first | (go_at_call 62; refine (hno _).mono ?_; rintro e w1 ⟨rfl, hb1⟩; obtain ⟨c0, c1, c2, c3, c4⟩ := hR0.below hb1) | (go_at_call 61; first | (with_reducible refine (hi1 _).mono ?_; rintro e wf ⟨rfl, hw⟩; obtain rfl := hw.symm; clear hw) | (with_reducible refine (hi2 _).mono ?_; rintro e wf ⟨rfl, hw⟩; obtain rfl := hw.symm; clear hw) | (with_reducible refine (hi3 _).mono ?_; rintro e wf ⟨rfl, hw⟩; obtain rfl := hw.symm; clear hw)) | (go_at_call 84; refine (hck _).mono ?_; rintro e w2 ⟨rfl, hb2⟩))
    go_ret
    exact ⟨rfl, Nm.below_two hB0 hb1⟩
  | true =>
    cases B2 with
    | false =>
      obtain rfl : M = false := by rw [HM.out]; simp
      go_enter Tryz.func65, Tryz.ntmps65
      go_wp2_with (first | (go_at_call 62; refine (hno _).mono ?_; rintro e w1 ⟨rfl, hb1⟩; obtain ⟨c0, c1, c2, c3, c4⟩ := hR0.below hb1) | (go_at_call 61; first | (with_reducible refine (hi1 _).mono ?_; rintro e wf ⟨rfl, hw⟩; obtain rfl := hw.symm; clear hw) | (with_reducible refine (hi2 _).mono ?_; rintro e wf ⟨rfl, hw⟩; obtain rfl := hw.symm; clear hw) | (with_reducible refine (hi3 _).mono ?_; rintro e wf ⟨rfl, hw⟩; obtain rfl := hw.symm; clear hw)) | (go_at_call 84; refine (hck _).mono ?_; rintro e w2 ⟨rfl, hb2⟩))
      go_ret
      exact ⟨rfl, Nm.below_two hB0 hb1⟩
    | true =>
      cases B3 with
      | false =>
        obtain rfl : M = false := by rw [HM.out]; simp
        go_enter Tryz.func65, Tryz.ntmps65
        go_wp2_with (first | (go_at_call 62; refine (hno _).mono ?_; rintro e w1 ⟨rfl, hb1⟩; obtain ⟨c0, c1, c2, c3, c4⟩ := hR0.below hb1) | (go_at_call 61; first | (with_reducible refine (hi1 _).mono ?_; rintro e wf ⟨rfl, hw⟩; obtain rfl := hw.symm; clear hw) | (with_reducible refine (hi2 _).mono ?_; rintro e wf ⟨rfl, hw⟩; obtain rfl := hw.symm; clear hw) | (with_reducible refine (hi3 _).mono ?_; rintro e wf ⟨rfl, hw⟩; obtain rfl := hw.symm; clear hw)) | (go_at_call 84; refine (hck _).mono ?_; rintro e w2 ⟨rfl, hb2⟩))
        go_ret
        exact ⟨rfl, Nm.below_two hB0 hb1⟩
      | true =>
        cases B4 with
        | false =>
          obtain rfl : M = false := by rw [HM.out]; simp
          go_enter Tryz.func65, Tryz.ntmps65
          go_wp2_with (first | (go_at_call 62; refine (hno _).mono ?_; rintro e w1 ⟨rfl, hb1⟩; obtain ⟨c0, c1, c2, c3, c4⟩ := hR0.below hb1) | (go_at_call 61; first | (with_reducible refine (hi1 _).mono ?_; rintro e wf ⟨rfl, hw⟩; obtain rfl := hw.symm; clear hw) | (with_reducible refine (hi2 _).mono ?_; rintro e wf ⟨rfl, hw⟩; obtain rfl := hw.symm; clear hw) | (with_reducible refine (hi3 _).mono ?_; rintro e wf ⟨rfl, hw⟩; obtain rfl := hw.symm; clear hw)) | (go_at_call 84; refine (hck _).mono ?_; rintro e w2 ⟨rfl, hb2⟩))
          go_ret
          exact ⟨rfl, Nm.below_two hB0 hb1⟩
        | true =>
          cases B5 with
          | true =>
            obtain rfl : M = true := by rw [HM.out]; simp
            go_enter Tryz.func65, Tryz.ntmps65
            go_wp2_with (first | (go_at_call 62; refine (hno _).mono ?_; rintro e w1 ⟨rfl, hb1⟩; obtain ⟨c0, c1, c2, c3, c4⟩ := hR0.below hb1) | (go_at_call 61; first | (with_reducible refine (hi1 _).mono ?_; rintro e wf ⟨rfl, hw⟩; obtain rfl := hw.symm; clear hw) | (with_reducible refine (hi2 _).mono ?_; rintro e wf ⟨rfl, hw⟩; obtain rfl := hw.symm; clear hw) | (with_reducible refine (hi3 _).mono ?_; rintro e wf ⟨rfl, hw⟩; obtain rfl := hw.symm; clear hw)) | (go_at_call 84; refine (hck _).mono ?_; rintro e w2 ⟨rfl, hb2⟩))
            go_ret
            exact ⟨rfl, Nm.below_two hB0 hb1⟩
          | false =>
            obtain rfl : M = (C6 == 0) := by rw [HM.out]; simp
            go_enter Tryz.func65, Tryz.ntmps65
            go_wp2_with (first | (go_at_call 62; refine (hno _).mono ?_; rintro e w1 ⟨rfl, hb1⟩; obtain ⟨c0, c1, c2, c3, c4⟩ := hR0.below hb1) | (go_at_call 61; first | (with_reducible refine (hi1 _).mono ?_; rintro e wf ⟨rfl, hw⟩; obtain rfl := hw.symm; clear hw) | (with_reducible refine (hi2 _).mono ?_; rintro e wf ⟨rfl, hw⟩; obtain rfl := hw.symm; clear hw) | (with_reducible refine (hi3 _).mono ?_; rintro e wf ⟨rfl, hw⟩; obtain rfl := hw.symm; clear hw)) | (go_at_call 84; refine (hck _).mono ?_; rintro e w2 ⟨rfl, hb2⟩))
            go_ret
            exact ⟨rfl, Nm.below_two (Nm.below_two hB0 hb1) hb2⟩
end Go.Proofs.YtmaopfagkffccaaGreat
/- impl.validQuestion, validHead, (impl.Message).lists, spec.l04AllSound by their contracts. -/
namespace Go.Proofs.YtmaopfagkffccaaGreat
open Go.RowKit
set_option linter.unusedVariables false

set_option maxRecDepth 100000 in
set_option maxHeartbeats 1600000 in
theorem validQuestion_any (r : Qr) (w : World) (ho : r.nm.size ≤ 1048576) :
    Calls Tryz.prog 41 #[.agg #[.string r.nm, .int .i64 r.ty, .int .i64 r.cl]] w fun e w' => e = .returned (.bool (quOK r)) ∧ Below w.heap.size w w' := by
  have k0 := blk_new w #[.string r.nm, .int .i64 r.ty, .int .i64 r.cl] 63
  have hB0 := (Below.refl w.heap.size w).alloc (Nat.le_refl _) (.cells #[.string r.nm, .int .i64 r.ty, .int .i64 r.cl] 63)
  have hno := fun W => implNameOK_any r.nm W (by unfold maxLen; omega)
  have hi1 := fun W => within_any r.ty 65535 W
  have hi2 := fun W => within_any r.cl 65535 W
  have HM : Hid (quOK r = ((Nm.split r.nm).isSome && (decide (0 ≤ r.ty) && decide (r.ty ≤ 65535)) && (decide (0 ≤ r.cl) && decide (r.cl ≤ 65535)))) := rfl
  obtain ⟨o, ty, cl⟩ := r
  simp only at k0 hB0 hno hi1 hi2 HM ⊢
  generalize quOK ⟨o, ty, cl⟩ = M at *
  generalize (Nm.split o).isSome = B1 at *
  generalize (decide (0 ≤ ty) && decide (ty ≤ 65535)) = B2 at *
  generalize (decide (0 ≤ cl) && decide (cl ≤ 65535)) = B3 at *
  clear ho
  cases B1 with
  | false =>
    obtain rfl : M = false := by rw [HM.out]; simp
    go_enter Tryz.func41, Tryz.ntmps41
    go_wp2_with (first | (go_at_call 62; refine (hno _).mono ?_; rintro e w1 ⟨rfl, hb1⟩; have kk := blk_below k0 hb1; have c1 := (blk_cell kk 1).trans rfl; have c2 := (blk_cell kk 2).trans rfl) | (go_at_call 61; first | (with_reducible refine (hi1 _).mono ?_; rintro e wf ⟨rfl, hw⟩; obtain rfl := hw.symm; clear hw) | (with_reducible refine (hi2 _).mono ?_; rintro e wf ⟨rfl, hw⟩; obtain rfl := hw.symm; clear hw)))
    go_ret
    exact ⟨rfl, Nm.below_two hB0 hb1⟩
  | true =>
    cases B2 with
    | false =>
      obtain rfl : M = false := by rw [HM.out]; simp
      go_enter Tryz.func41, Tryz.ntmps41
      go_wp2_with (first | (go_at_call 62; refine (hno _).mono ?_; rintro e w1 ⟨rfl, hb1⟩; have kk := blk_below k0 hb1; have c1 := (blk_cell kk 1).trans rfl; have c2 := (blk_cell kk 2).trans rfl) | (go_at_call 61; first | (with_reducible refine (hi1 _).mono ?_; rintro e wf ⟨rfl, hw⟩; obtain rfl := hw.symm; clear hw) | (with_reducible refine (hi2 _).mono ?_; rintro e wf ⟨rfl, hw⟩; obtain rfl := hw.symm; clear hw)))
      go_ret
      exact ⟨rfl, Nm.below_two hB0 hb1⟩
    | true =>
      obtain rfl : M = B3 := by rw [HM.out]; simp
      go_enter Tryz.func41, Tryz.ntmps41
      go_wp2_with (first | (go_at_call 62; refine (hno _).mono ?_; rintro e w1 ⟨rfl, hb1⟩; have kk := blk_below k0 hb1; have c1 := (blk_cell kk 1).trans rfl; have c2 := (blk_cell kk 2).trans rfl) | (go_at_call 61; first | (with_reducible refine (hi1 _).mono ?_; rintro e wf ⟨rfl, hw⟩; obtain rfl := hw.symm; clear hw) | (with_reducible refine (hi2 _).mono ?_; rintro e wf ⟨rfl, hw⟩; obtain rfl := hw.symm; clear hw)))
      go_ret
      exact ⟨rfl, Nm.below_two hB0 hb1⟩

set_option maxRecDepth 100000 in
set_option maxHeartbeats 1600000 in
theorem validHead_any (h : Hr) (w : World) :
    Calls Tryz.prog 40 #[.agg (hrV h).toArray] w fun e w' => e = .returned (.bool (hdOK h)) ∧ Below w.heap.size w w' := by
  have hB0 := (Below.refl w.heap.size w).alloc (Nat.le_refl _) (.cells (hrV h).toArray 29)
  have hi1 := fun W => within_any h.id 65535 W
  have hi2 := fun W => within_any h.op 15 W
  have hi3 := fun W => within_any h.code 15 W
  have HM : Hid (hdOK h = ((decide (0 ≤ h.id) && decide (h.id ≤ 65535)) && (decide (0 ≤ h.op) && decide (h.op ≤ 15)) && (decide (0 ≤ h.code) && decide (h.code ≤ 15)))) := rfl
  obtain ⟨i0, q1, i2, q3, q4, q5, q6, q7, q8, q9, i10⟩ := h
  simp only [hrV] at hB0 hi1 hi2 hi3 HM ⊢
  generalize hdOK ⟨i0, q1, i2, q3, q4, q5, q6, q7, q8, q9, i10⟩ = M at *
  generalize (decide (0 ≤ i0) && decide (i0 ≤ 65535)) = B1 at *
  generalize (decide (0 ≤ i2) && decide (i2 ≤ 15)) = B2 at *
  generalize (decide (0 ≤ i10) && decide (i10 ≤ 15)) = B3 at *
  cases B1 with
  | false =>
    obtain rfl : M = false := by rw [HM.out]; simp
    go_enter Tryz.func40, Tryz.ntmps40
    go_wp2_with (go_at_call 61; first | (with_reducible refine (hi1 _).mono ?_; rintro e wf ⟨rfl, hw⟩; obtain rfl := hw.symm; clear hw) | (with_reducible refine (hi2 _).mono ?_; rintro e wf ⟨rfl, hw⟩; obtain rfl := hw.symm; clear hw) | (with_reducible refine (hi3 _).mono ?_; rintro e wf ⟨rfl, hw⟩; obtain rfl := hw.symm; clear hw))
    go_ret
    exact ⟨rfl, hB0⟩
  | true =>
    cases B2 with
    | false =>
      obtain rfl : M = false := by rw [HM.out]; simp
      go_enter Tryz.func40, Tryz.ntmps40
      go_wp2_with (go_at_call 61; first | (with_reducible refine (hi1 _).mono ?_; rintro e wf ⟨rfl, hw⟩; obtain rfl := hw.symm; clear hw) | (with_reducible refine (hi2 _).mono ?_; rintro e wf ⟨rfl, hw⟩; obtain rfl := hw.symm; clear hw) | (with_reducible refine (hi3 _).mono ?_; rintro e wf ⟨rfl, hw⟩; obtain rfl := hw.symm; clear hw))
      go_ret
      exact ⟨rfl, hB0⟩
    | true =>
      obtain rfl : M = B3 := by rw [HM.out]; simp
      go_enter Tryz.func40, Tryz.ntmps40
      go_wp2_with (go_at_call 61; first | (with_reducible refine (hi1 _).mono ?_; rintro e wf ⟨rfl, hw⟩; obtain rfl := hw.symm; clear hw) | (with_reducible refine (hi2 _).mono ?_; rintro e wf ⟨rfl, hw⟩; obtain rfl := hw.symm; clear hw) | (with_reducible refine (hi3 _).mono ?_; rintro e wf ⟨rfl, hw⟩; obtain rfl := hw.symm; clear hw))
      go_ret
      exact ⟨rfl, hB0⟩

set_option maxRecDepth 100000 in
set_option maxHeartbeats 1600000 in
theorem lists_any (h : Hr) (q a u x : Value) (w : World) {n1 n2 n3 n4 : Nat} (e1 : ∃ b c, q = .slice b n1 c) (e2 : ∃ b c, a = .slice b n2 c) (e3 : ∃ b c, u = .slice b n3 c) (e4 : ∃ b c, x = .slice b n4 c) :
    Calls Tryz.prog 42 #[.agg (mgV h q a u x)] w fun e w' => e = .returned (.agg #[a, u, x]) ∧ Below w.heap.size w w' := by
  obtain ⟨b1, c1, rfl⟩ := e1
  obtain ⟨b2, c2, rfl⟩ := e2
  obtain ⟨b3, c3, rfl⟩ := e3
  obtain ⟨b4, c4, rfl⟩ := e4
  obtain ⟨i0, q1, i2, q3, q4, q5, q6, q7, q8, q9, i10⟩ := h
  simp only [mgV]
  go_enter Tryz.func42, Tryz.ntmps42
  go_wp2
  refine bodyPost_ret (v := .agg #[.slice b2 n2 c2, .slice b3 n3 c3, .slice b4 n4 c4]) ?_ rfl ⟨rfl, ?_⟩
  · simp [results, Tryz.results42, go_sem, Result.andThen]
  · exact ((Below.refl _ _).alloc (Nat.le_refl _) _).alloc (by simp) _
end Go.Proofs.YtmaopfagkffccaaGreat
/- impl.validRecords by its contract. -/
namespace Go.Proofs.YtmaopfagkffccaaGreat
open Go.RowKit
set_option linter.unusedVariables false

theorem valid1_any (r : Rr) (w : World) (ho : r.own.size ≤ 1048576) (hd : r.da.size ≤ 1048576) :
    Calls Tryz.prog 64 #[.agg #[.string r.own, .int .i64 r.ty, .int .i64 r.cl, .int .i64 r.tt, .string r.da]] w fun e w' => e = .returned (.bool (!rcOK r)) ∧ Below w.heap.size w w' := by
  have hR0 := RB.new w r 72
  have hB0 := (Below.refl w.heap.size w).alloc (Nat.le_refl _) (.cells #[.string r.own, .int .i64 r.ty, .int .i64 r.cl, .int .i64 r.tt, .string r.da] 72)
  have hv := fun W => validRecord_any r W ho hd
  generalize rcOK r = B at *
  obtain ⟨o, ty, cl, tt, da⟩ := r
  obtain ⟨c0, c1, c2, c3, c4⟩ := hR0
  simp only at hB0 hv c0 c1 c2 c3 c4 ⊢
  clear ho hd
  go_enter Tryz.func64, Tryz.ntmps64
  go_wp2_with (go_at_call 65; refine (hv _).mono ?_; rintro e w1 ⟨rfl, hb1⟩)
  go_ret
  exact ⟨rfl, Nm.below_two hB0 hb1⟩

set_option maxRecDepth 100000 in
set_option maxHeartbeats 1600000 in
theorem validAt_any (v : Value) (xs : List Rr) (w : World) (h : CRow w v xs.length 5 (rvVs xs)) (hx : ∀ r ∈ xs, r.own.size ≤ 1048576 ∧ r.da.size ≤ 1048576) :
    Calls Tryz.prog 83 #[v, .func (.func 64) #[] #[]] w fun e w' => Below w.heap.size w w' ∧ ∃ i : Int, e = .returned (.int .i64 i) ∧ ((xs.all rcOK = true ∧ i = -1) ∨ (xs.all rcOK = false ∧ 0 ≤ i)) := by
  obtain ⟨_, a, cap, rfl, hcap, hmx, hc⟩ := h
  unfold maxLen at hmx
  have hs := fun (r : Rr) (hr : r ∈ xs) W => valid1_any r W (hx r hr).1 (hx r hr).2
  clear hx
  go_enter Tryz.func83, Tryz.ntmps83
  go_wp2
  go_loopw [8] (fun i wr => ∃ k : Nat, k ≤ xs.length ∧ i = .int .i64 k ∧ Hid ((xs.take k).all rcOK = true) ∧ Below w.heap.size w wr) (fun i _ => xs.length - (intOf i).toNat)
  case atStart => exact ⟨0, Nat.zero_le _, rfl, by show _ = _; simp, Below.refl _ _⟩
  case round =>
    obtain ⟨k, hk, rfl, HA, hbel⟩ := hrel
    by_cases hlt : k < xs.length
    · obtain ⟨x, hxk⟩ : ∃ x, xs[k]? = some x := ⟨_, List.getElem?_eq_getElem hlt⟩
      obtain ⟨b, off, rfl, hcell⟩ := hc (by omega)
      obtain ⟨c0, c1, c2, c3, c4⟩ := rv_cells hcell hxk
      have put : ∀ {O : Nat} {z : Value}, w.cell? ⟨b, O, none⟩ = some z → wr.cell? ⟨b, O, none⟩ = some z := fun h => (hbel.cell (World.block_lt_of_cell? w _ h)).trans h
      replace c0 := put c0
      replace c1 := put c1
      replace c2 := put c2
      replace c3 := put c3
      replace c4 := put c4
      have hmem := List.mem_of_getElem? hxk
      have hone := hs x hmem wr
      have i1 : (0 : Int) ≤ (k : Int) := by omega
      have i2 : (k : Int) < (xs.length : Int) := by omega
      cases hok : rcOK x with
      | true =>
        have HA2 : Hid ((xs.take (k + 1)).all rcOK = true) := by show _ = _; rw [all_take' hxk, HA.out, hok]; rfl
        rw [hok] at hone
        clear hs hok hmem hxk hcell hc
        obtain ⟨o, ty, cl, tt, da⟩ := x
        simp only at *
        go_wp2_with fail
        refine hone.mono ?_
        rintro e w1 ⟨rfl, hb1⟩
        go_wp2
        go_roundw
        case rel => exact ⟨k + 1, by omega, by go_num, HA2, Nm.below_two hbel hb1⟩
        case measure => simp [intOf]; omega
      | false =>
        have HF := Nm.hide (all_no hmem hok)
        rw [hok] at hone
        clear hs hok hmem hxk hcell hc
        obtain ⟨o, ty, cl, tt, da⟩ := x
        simp only at *
        go_wp2_with fail
        refine hone.mono ?_
        rintro e w1 ⟨rfl, hb1⟩
        go_wp2
        go_ret
        exact ⟨Nm.below_two hbel hb1, _, rfl, .inr ⟨HF.out, by omega⟩⟩
    · have hkl : k = xs.length := by omega
      subst hkl
      have HT := HA.out
      rw [List.take_length] at HT
      have HB := Nm.hide HT
      clear hs HT HA hc
      have i2 : ¬ (xs.length : Int) < (xs.length : Int) := by omega
      go_wp2
      go_ret
      exact ⟨hbel, _, rfl, .inl ⟨by have := HB.out; simpa using this, rfl⟩⟩

set_option maxRecDepth 100000 in
set_option maxHeartbeats 1600000 in
theorem validHas_any (v : Value) (xs : List Rr) (w : World) (h : CRow w v xs.length 5 (rvVs xs)) (hx : ∀ r ∈ xs, r.own.size ≤ 1048576 ∧ r.da.size ≤ 1048576) :
    Calls Tryz.prog 63 #[v, .func (.func 64) #[] #[]] w fun e w' => e = .returned (.bool (!xs.all rcOK)) ∧ Below w.heap.size w w' := by
  have hs := validAt_any v xs w h hx
  obtain ⟨_, a, cap, rfl, _⟩ := h
  generalize xs.all rcOK = B at *
  go_enter Tryz.func63, Tryz.ntmps63
  go_wp2_with fail
  refine hs.mono ?_
  rintro e w1 ⟨hb1, i, rfl, ⟨rfl, rfl⟩ | ⟨rfl, hi⟩⟩
  · go_wp2
    go_ret
    exact ⟨rfl, hb1⟩
  · go_wp2
    go_ret
    exact ⟨rfl, hb1⟩

theorem validRecords_any (v : Value) (xs : List Rr) (w : World) (h : CRow w v xs.length 5 (rvVs xs)) (hx : ∀ r ∈ xs, r.own.size ≤ 1048576 ∧ r.da.size ≤ 1048576) :
    Calls Tryz.prog 43 #[v] w fun e w' => e = .returned (.bool (xs.all rcOK)) ∧ Below w.heap.size w w' := by
  have hs := validHas_any v xs w h hx
  obtain ⟨_, a, cap, rfl, hcap, hmx, _⟩ := h
  generalize xs.all rcOK = B at *
  go_enter Tryz.func43, Tryz.ntmps43
  go_wp2_with fail
  refine hs.mono ?_
  rintro e w1 ⟨rfl, hb1⟩
  go_wp2
  go_ret
  exact ⟨by simp, hb1⟩
end Go.Proofs.YtmaopfagkffccaaGreat
/- impl.validMessage by its contract. -/
namespace Go.Proofs.YtmaopfagkffccaaGreat
open Go.RowKit
set_option linter.unusedVariables false

/-- The lists of records, in their order. -/
def lsOf (m : Mg) : Nat → List Rr
  | 0 => m.an
  | 1 => m.au
  | _ => m.ex

theorem idx3 {a u x : Value} {n1 n2 n3 : Nat} (e1 : ∃ b c, a = .slice b n1 c) (e2 : ∃ b c, u = .slice b n2 c) (e3 : ∃ b c, x = .slice b n3 c) (j : Nat) (hj : j < 3) : ∃ v, (v = a ∧ j = 0 ∨ v = u ∧ j = 1 ∨ v = x ∧ j = 2) ∧ ∀ W, (Instr.index 76 (.agg #[a, u, x]) (.int .i64 (j : Int))).run Tryz.prog W = .ok v W := by
  obtain ⟨b1, c1, rfl⟩ := e1
  obtain ⟨b2, c2, rfl⟩ := e2
  obtain ⟨b3, c3, rfl⟩ := e3
  rcases j with _ | _ | _ | j
  · exact ⟨_, .inl ⟨rfl, rfl⟩, fun W => by simp [Instr.index, run_underlying Tryz.underlying76, asIntOf, go_sem]⟩
  · exact ⟨_, .inr (.inl ⟨rfl, rfl⟩), fun W => by simp [Instr.index, run_underlying Tryz.underlying76, asIntOf, go_sem]⟩
  · exact ⟨_, .inr (.inr ⟨rfl, rfl⟩), fun W => by simp [Instr.index, run_underlying Tryz.underlying76, asIntOf, go_sem]⟩
  · omega

/-- The list of number j, where it is read. -/
theorem list_at {w : World} {m : Mg} {q a u x : Value} (h : MRow w m q a u x) (hm : MSmall m) (j : Nat) (hj : j < 3) : ∃ la lc, CRow w (.slice la (lsOf m j).length lc) (lsOf m j).length 5 (rvVs (lsOf m j)) ∧ (∀ r ∈ lsOf m j, r.own.size ≤ 1048576 ∧ r.da.size ≤ 1048576) ∧ (lsOf m j).length ≤ 1048576 ∧ ∀ W, (Instr.index 76 (.agg #[a, u, x]) (.int .i64 (j : Int))).run Tryz.prog W = .ok (.slice la (lsOf m j).length lc) W := by
  obtain ⟨_, s2, s3, s4, _, l2, l3, l4⟩ := hm
  obtain ⟨v, hv, hrun⟩ := idx3 (n1 := m.an.length) (n2 := m.au.length) (n3 := m.ex.length) (a := a) (u := u) (x := x) (by obtain ⟨_, b, c, e, _⟩ := h.ra; exact ⟨b, c, e⟩) (by obtain ⟨_, b, c, e, _⟩ := h.ru; exact ⟨b, c, e⟩) (by obtain ⟨_, b, c, e, _⟩ := h.rx; exact ⟨b, c, e⟩) j hj
  rcases hv with ⟨rfl, rfl⟩ | ⟨rfl, rfl⟩ | ⟨rfl, rfl⟩
  · have hr := h.ra
    obtain ⟨_, b, c, rfl, _⟩ := h.ra
    exact ⟨b, c, hr, s2, l2, hrun⟩
  · have hr := h.ru
    obtain ⟨_, b, c, rfl, _⟩ := h.ru
    exact ⟨b, c, hr, s3, l3, hrun⟩
  · have hr := h.rx
    obtain ⟨_, b, c, rfl, _⟩ := h.rx
    exact ⟨b, c, hr, s4, l4, hrun⟩

set_option maxRecDepth 100000 in
set_option maxHeartbeats 6400000 in
theorem validMessage_any (m : Mg) (q a u x : Value) (w : World) (h : MRow w m q a u x) (hm : MSmall m) :
    Calls Tryz.prog 19 #[.agg (mgV m.hd q a u x)] w fun e w' => e = .returned (.bool (mgOK m)) ∧ Below w.heap.size w w' := by
  have hla := fun j hj => list_at h hm j hj
  have hB0 := (Below.refl w.heap.size w).alloc (Nat.le_refl _) (.cells (mgV m.hd q a u x) 33)
  have kb := blk_new w (mgV m.hd q a u x) 33
  have hhd := fun W => validHead_any m.hd W
  have hli := fun W => lists_any (n1 := m.qs.length) (n2 := m.an.length) (n3 := m.au.length) (n4 := m.ex.length) m.hd q a u x W (by obtain ⟨_, b, c, e, _⟩ := h.rq; exact ⟨b, c, e⟩) (by obtain ⟨_, b, c, e, _⟩ := h.ra; exact ⟨b, c, e⟩) (by obtain ⟨_, b, c, e, _⟩ := h.ru; exact ⟨b, c, e⟩) (by obtain ⟨_, b, c, e, _⟩ := h.rx; exact ⟨b, c, e⟩)
  obtain ⟨s1, _, _, _, l1, l2, l3, l4⟩ := hm
  have hvq := fun (r : Qr) (hr : r ∈ m.qs) W => validQuestion_any r W (s1 r hr)
  obtain ⟨RES, HRES⟩ : ∃ R, Hid (R = (decide (m.qs.length + m.an.length + m.au.length + m.ex.length ≤ 400) && hdOK m.hd && m.qs.all quOK && m.an.all rcOK && m.au.all rcOK && m.ex.all rcOK)) := ⟨_, rfl⟩
  have hgoal : mgOK m = RES := by rw [HRES.out]; rfl
  rw [hgoal]
  have HNO : Hid (∀ j, j < 3 → (lsOf m j).all rcOK = false → RES = false) := by
    intro j hj hf
    rw [HRES.out]
    rcases j with _ | _ | _ | j
    · simp only [lsOf] at hf; rw [hf]; simp
    · simp only [lsOf] at hf; rw [hf]; simp
    · simp only [lsOf] at hf; rw [hf]; simp
    · omega
  have HYE : Hid (decide (m.qs.length + m.an.length + m.au.length + m.ex.length ≤ 400) = true → hdOK m.hd = true → m.qs.all quOK = true → (∀ j, j < 3 → (lsOf m j).all rcOK = true) → RES = true) := by
    intro h1 h2 h3 h4
    have a1 := h4 0 (by decide)
    have a2 := h4 1 (by decide)
    have a3 := h4 2 (by decide)
    simp only [lsOf] at a1 a2 a3
    rw [HRES.out, h1, h2, h3, a1, a2, a3]; rfl
  clear hgoal
  generalize hLS : lsOf m = LS at *
  clear hLS
  obtain ⟨_, qa, qc, rfl, hqcap, hqmx, hqc⟩ := h.rq
  obtain ⟨_, aa, ac, rfl, _⟩ := h.ra
  obtain ⟨_, ua, uc, rfl, _⟩ := h.ru
  obtain ⟨_, xa, xc, rfl, _⟩ := h.rx
  clear h s1
  unfold maxLen at hqmx
  obtain ⟨⟨i0, b1, i2, b3, b4, b5, b6, b7, b8, b9, i10⟩, qs, an, au, ex⟩ := m
  simp only [mgV, hrV] at *
  generalize hdOK ⟨i0, b1, i2, b3, b4, b5, b6, b7, b8, b9, i10⟩ = HB at *
  by_cases hbig : 400 < qs.length + an.length + au.length + ex.length
  · obtain rfl : RES = false := by rw [HRES.out, decide_eq_false (by omega)]; rfl
    have hbig' : (400 : Int) < (qs.length : Int) + (an.length : Int) + (au.length : Int) + (ex.length : Int) := by omega
    clear HRES hqc hla HNO HYE hvq
    go_enter Tryz.func19, Tryz.ntmps19
    go_wp2
    go_ret
    exact ⟨rfl, hB0⟩
  · have hbig' : (qs.length : Int) + (an.length : Int) + (au.length : Int) + (ex.length : Int) ≤ 400 := by omega
    have hsml : decide (qs.length + an.length + au.length + ex.length ≤ 400) = true := decide_eq_true (by omega)
    cases HB with
    | false =>
      obtain rfl : RES = false := by rw [HRES.out]; simp
      clear HRES hqc hla HNO HYE hvq
      go_enter Tryz.func19, Tryz.ntmps19
      go_wp2_with (go_at_call 40; refine (hhd _).mono ?_; rintro e w1 ⟨rfl, hb1⟩)
      go_ret
      exact ⟨rfl, Nm.below_two hB0 hb1⟩
    | true =>
      have HNQ : Hid (qs.all quOK = false → RES = false) := by
        intro hf
        rw [HRES.out, hf]; simp
      have HYE2 : Hid (qs.all quOK = true → (∀ j, j < 3 → (LS j).all rcOK = true) → RES = true) := fun h3 h4 => HYE.out hsml rfl h3 h4
      clear HRES HYE hsml
      go_enter Tryz.func19, Tryz.ntmps19
      go_wp2_with (go_at_call 40; refine (hhd _).mono ?_; rintro e w1 ⟨rfl, hb1⟩; have kr1 := blk_below kb hb1; have g11 := (blk_cell kr1 11).trans rfl)
      have hB1 := Nm.below_two hB0 hb1
      clear kb hB0 hb1 hhd g11
      go_loopw [34] (fun i wr => ∃ k : Nat, k ≤ qs.length ∧ i = .int .i64 k ∧ Hid ((qs.take k).all quOK = true) ∧ Blk wr w.heap.size #[.int .i64 i0, .bool b1, .int .i64 i2, .bool b3, .bool b4, .bool b5, .bool b6, .bool b7, .bool b8, .bool b9, .int .i64 i10, .slice qa qs.length qc, .slice aa an.length ac, .slice ua au.length uc, .slice xa ex.length xc] 33 ∧ Below w.heap.size w wr) (fun i _ => qs.length - (intOf i).toNat)
      case atStart => exact ⟨0, Nat.zero_le _, rfl, by show _ = _; simp, kr1, hB1⟩
      case round =>
        obtain ⟨k, hk, rfl, HA, kr, hbel⟩ := hrel
        clear kr1 hB1
        by_cases hlt : k < qs.length
        · obtain ⟨r, hrk⟩ : ∃ r, qs[k]? = some r := ⟨_, List.getElem?_eq_getElem hlt⟩
          obtain ⟨b, off, rfl, hcell⟩ := hqc (by omega)
          obtain ⟨c0, c1, c2⟩ := qv_cells hcell hrk
          have put : ∀ {O : Nat} {z : Value}, w.cell? ⟨b, O, none⟩ = some z → wr.cell? ⟨b, O, none⟩ = some z := fun h => (hbel.cell (World.block_lt_of_cell? w _ h)).trans h
          replace c0 := put c0
          replace c1 := put c1
          replace c2 := put c2
          have hmem := List.mem_of_getElem? hrk
          have hone := fun W => hvq r hmem W
          have hBq := hbel.alloc hbel.size (.cells #[.string r.nm, .int .i64 r.ty, .int .i64 r.cl] 63)
          have krq := blk_alloc kr (.cells #[.string r.nm, .int .i64 r.ty, .int .i64 r.cl] 63)
          have HY : Hid (quOK r = true → (qs.take (k + 1)).all quOK = true) := by
            intro hok
            rw [all_take' hrk, HA.out, hok]; rfl
          have HZ : Hid (quOK r = false → RES = false) := fun hok => HNQ.out (all_no hmem hok)
          have i1 : (0 : Int) ≤ (k : Int) := by omega
          have i3 : (k : Int) < (qs.length : Int) := by omega
          clear hcell hqc hrk hmem hvq HA hla kr HNO HYE2 HNQ hli
          obtain ⟨o, ty, cl⟩ := r
          simp only at hone hBq krq HY HZ c0 c1 c2
          generalize quOK ⟨o, ty, cl⟩ = M at *
          cases M with
          | false =>
            obtain rfl : RES = false := HZ.out rfl
            go_wp2_with (go_at_call 41; refine (hone _).mono ?_; rintro e w1 ⟨rfl, hb1⟩)
            go_ret
            exact ⟨rfl, Nm.below_two hBq hb1⟩
          | true =>
            have HY2 := Nm.hide (HY.out rfl)
            clear HY HZ
            go_wp2_with (go_at_call 41; refine (hone _).mono ?_; rintro e w1 ⟨rfl, hb1⟩)
            go_roundw
            case rel => exact ⟨k + 1, by omega, by go_num, HY2.out, blk_below krq hb1, Nm.below_two hBq hb1⟩
            case measure => simp [intOf]; omega
        · have hkl : k = qs.length := by omega
          subst hkl
          have i3 : (qs.length : Int) ≤ (qs.length : Int) := by omega
          have hq : qs.all quOK = true := by
            have := HA.out
            rwa [List.take_length] at this
          have HYE3 : Hid ((∀ j, j < 3 → (LS j).all rcOK = true) → RES = true) := fun h4 => HYE2.out hq h4
          clear HA hqc hvq hq HNQ HYE2
          have rr := fun i => blk_cell kr i
          go_wp2_with (go_at_call 42; refine (hli _).mono ?_; rintro e w2 ⟨rfl, hb2⟩)
          have hB2 := Nm.below_two hbel hb2
          clear rr kr hbel hb2 hli
          go_loopw [44] (fun i wr => ∃ j : Nat, j ≤ 3 ∧ i = .int .i64 j ∧ Hid (∀ t, t < j → (LS t).all rcOK = true) ∧ Below w.heap.size w wr) (fun i _ => 3 - (intOf i).toNat)
          case atStart => exact ⟨0, by decide, rfl, fun t ht => absurd ht (Nat.not_lt_zero _), hB2⟩
          case round =>
            obtain ⟨j, hj, rfl, HA, hbel⟩ := hrel
            clear hB2
            by_cases hlt : j < 3
            · obtain ⟨la, lc, hrow, hsz, hlen, hidx⟩ := hla j hlt
              have hvr := fun W (hW : Below w.heap.size w W) => validRecords_any _ (LS j) W (hrow.below hW) hsz
              have i1 : (0 : Int) ≤ (j : Int) := by omega
              have i2 : (j : Int) < 3 := by omega
              have HZ : Hid ((LS j).all rcOK = false → RES = false) := HNO.out j hlt
              have HA2 : Hid ((LS j).all rcOK = true → ∀ t, t < j + 1 → (LS t).all rcOK = true) := by
                intro hok t ht
                by_cases e : t = j
                · subst e; exact hok
                · exact HA.out t (by omega)
              clear hla HNO hsz HA HYE3 hrow
              cases hB : (LS j).all rcOK with
              | false =>
                obtain rfl : RES = false := HZ.out hB
                rw [hB] at hvr
                clear hB HZ HA2
                generalize LS j = xs at *
                go_wp2_with (go_at_call 43; refine (hvr _ hbel).mono ?_; rintro e w1 ⟨rfl, hb1⟩)
                go_ret
                exact ⟨rfl, Nm.below_two hbel hb1⟩
              | true =>
                have HA3 := Nm.hide (HA2.out hB)
                rw [hB] at hvr
                clear hB HZ HA2
                generalize (LS j).length = xl at *
                go_wp2_with (go_at_call 43; refine (hvr _ hbel).mono ?_; rintro e w1 ⟨rfl, hb1⟩)
                go_roundw
                case rel => exact ⟨j + 1, by omega, by go_num, HA3.out, Nm.below_two hbel hb1⟩
                case measure => simp [intOf]; omega
            · have hje : j = 3 := by omega
              subst hje
              obtain rfl : RES = true := HYE3.out HA.out
              clear hla HNO HYE3 HA
              go_wp2
              go_ret
              exact ⟨rfl, hbel⟩
end Go.Proofs.YtmaopfagkffccaaGreat
/- (*writer).head by its contract. -/
namespace Go.Proofs.YtmaopfagkffccaaGreat
open Go.RowKit
set_option linter.unusedVariables false

def flV (l : List (Bool × Nat)) : List Value := l.flatMap fun p => [.bool p.1, .int .i64 ((2 ^ p.2 : Nat) : Int)]
theorem flV_at {l : List (Bool × Nat)} {k : Nat} {x : Bool × Nat} (h : l[k]? = some x) : (flV l)[k * 2]? = some (.bool x.1) ∧ (flV l)[k * 2 + 1]? = some (.int .i64 ((2 ^ x.2 : Nat) : Int)) := by
  induction l generalizing k with
  | nil => simp at h
  | cons y l ih =>
    cases k with
    | zero => simp at h; subst h; simp [flV]
    | succ k =>
      simp at h
      have := ih h
      have e : flV (y :: l) = [.bool y.1, .int .i64 ((2 ^ y.2 : Nat) : Int)] ++ flV l := by simp [flV]
      rw [e, show (k + 1) * 2 = k * 2 + 2 by omega, show k * 2 + 2 + 1 = (k * 2 + 1) + 2 by omega]
      simpa using this

theorem three_new (w : World) (c1 c2 c3 : Array Value) (T1 T2 T3 : TypeId) : Blk (((w.alloc (.cells c1 T1)).alloc (.cells c2 T2)).alloc (.cells c3 T3)) w.heap.size c1 T1 ∧ Blk (((w.alloc (.cells c1 T1)).alloc (.cells c2 T2)).alloc (.cells c3 T3)) (w.heap.size + 1) c2 T2 ∧ Blk (((w.alloc (.cells c1 T1)).alloc (.cells c2 T2)).alloc (.cells c3 T3)) (w.heap.size + 1 + 1) c3 T3 ∧ Below w.heap.size w (((w.alloc (.cells c1 T1)).alloc (.cells c2 T2)).alloc (.cells c3 T3)) := by
  have h1 := blk_new w c1 T1
  have h2 := blk_new (w.alloc (.cells c1 T1)) c2 T2
  have h3 := blk_new ((w.alloc (.cells c1 T1)).alloc (.cells c2 T2)) c3 T3
  have e1 : (w.alloc (.cells c1 T1)).heap.size = w.heap.size + 1 := by simp
  have e2 : ((w.alloc (.cells c1 T1)).alloc (.cells c2 T2)).heap.size = w.heap.size + 1 + 1 := by simp
  rw [e1] at h2
  rw [e2] at h3
  exact ⟨blk_alloc (blk_alloc h1 _) _, blk_alloc h2 _, h3, (((Below.refl _ _).alloc (Nat.le_refl _) _).alloc (by simp) _).alloc (by simp; omega) _⟩
theorem headL_app (id fl c : Nat) (cs : List Nat) : headL id fl cs ++ put2 c = headL id fl (cs ++ [c]) := by simp [headL]
theorem headL_two (id fl : Nat) : ([] ++ put2 id) ++ put2 fl = headL id fl [] := by simp [headL]

set_option maxRecDepth 100000 in
set_option maxHeartbeats 3200000 in
theorem head_w_any (m : Mg) (q a u x : Value) (w : World) (hrow : MRow w m q a u x) (hm : MSmall m) (hhd : hdOK m.hd = true) (hsm : m.qs.length + m.an.length + m.au.length + m.ex.length ≤ 400) (g B r : Nat) (vb : Value) (h : PM w g B r [] [] vb) (hB : B ≤ w.heap.size) :
    Calls Tryz.prog 68 #[.pointer (some ⟨g, 0, none⟩), .agg (mgV m.hd q a u x)] w fun e w' => e = .returned (.tuple #[]) ∧ ∃ vb', PM w' g B r (hdW m) [] vb' ∧ Bp B w w' := by
  have hla := fun j hj => list_at hrow hm j hj
  have hli := fun W => lists_any (n1 := m.qs.length) (n2 := m.an.length) (n3 := m.au.length) (n4 := m.ex.length) m.hd q a u x W (by obtain ⟨_, b, c, e, _⟩ := hrow.rq; exact ⟨b, c, e⟩) (by obtain ⟨_, b, c, e, _⟩ := hrow.ra; exact ⟨b, c, e⟩) (by obtain ⟨_, b, c, e, _⟩ := hrow.ru; exact ⟨b, c, e⟩) (by obtain ⟨_, b, c, e, _⟩ := hrow.rx; exact ⟨b, c, e⟩)
  have hlsz : ∀ j, j < 3 → (lsOf m j).length ≤ 400 := by
    intro j hj
    rcases j with _ | _ | _ | j <;> simp only [lsOf] <;> omega
  obtain ⟨⟨id, hid, hidl⟩, ⟨op, hop, hopl⟩, ⟨code, hco, hcol⟩⟩ := hd_parts hhd
  have HW : Hid (hdW m = headL id (flN op code (flP m.hd)) ([m.qs.length] ++ [(lsOf m 0).length, (lsOf m 1).length, (lsOf m 2).length])) := by
    show _ = _
    rw [flN_all, hdW, hid, hop, hco]
    rfl
  have hst := flN_step m.hd op code hopl hcol
  have hsk := flN_skip m.hd op code
  have hfi := flN_first op code hopl hcol
  have hFL : flN op code (flP m.hd) < 65536 := by rw [flN_all]; exact flagsS_lt _ _ _ _ _ _ _ _ _ _ hopl hcol
  obtain ⟨RES, HRES⟩ : ∃ R, Hid (hdW m = R) := ⟨_, rfl⟩
  rw [HRES.out]
  rw [HRES.out] at HW
  have hPl : (flP m.hd).length = 8 := rfl
  have hPv : (flV (flP m.hd)).toArray = #[.bool m.hd.qr, .int .i64 32768, .bool m.hd.aa, .int .i64 1024, .bool m.hd.tc, .int .i64 512, .bool m.hd.rd, .int .i64 256, .bool m.hd.ra, .int .i64 128, .bool m.hd.z, .int .i64 64, .bool m.hd.ad, .int .i64 32, .bool m.hd.cd, .int .i64 16] := rfl
  have hql : m.qs.length ≤ 400 := by omega
  obtain ⟨_, qa, qc, rfl, _⟩ := hrow.rq
  obtain ⟨_, aa', ac, rfl, _⟩ := hrow.ra
  obtain ⟨_, ua, uc, rfl, _⟩ := hrow.ru
  obtain ⟨_, xa, xc, rfl, _⟩ := hrow.rx
  clear hrow hhd hm HRES
  generalize flP m.hd = FP at *
  generalize lsOf m = LS at *
  obtain ⟨⟨i0, b1, i2, b3, b4, b5, b6, b7, b8, b9, i10⟩, qs, an, au, ex⟩ := m
  simp only [mgV] at *
  subst hid hop hco
  go_enter Tryz.func68, Tryz.ntmps68
  go_wp2
  have hthree := three_new w #[.int .i64 (id : Int), .bool b1, .int .i64 (op : Int), .bool b3, .bool b4, .bool b5, .bool b6, .bool b7, .bool b8, .bool b9, .int .i64 (code : Int), .slice qa qs.length qc, .slice aa' an.length ac, .slice ua au.length uc, .slice xa ex.length xc] #[.int .i64 (id : Int), .bool b1, .int .i64 (op : Int), .bool b3, .bool b4, .bool b5, .bool b6, .bool b7, .bool b8, .bool b9, .int .i64 (code : Int)] #[.bool b1, .int .i64 32768, .bool b3, .int .i64 1024, .bool b4, .int .i64 512, .bool b5, .int .i64 256, .bool b6, .int .i64 128, .bool b7, .int .i64 64, .bool b8, .int .i64 32, .bool b9, .int .i64 16] 33 29 121
  generalize ((w.alloc (.cells #[.int .i64 (id : Int), .bool b1, .int .i64 (op : Int), .bool b3, .bool b4, .bool b5, .bool b6, .bool b7, .bool b8, .bool b9, .int .i64 (code : Int), .slice qa qs.length qc, .slice aa' an.length ac, .slice ua au.length uc, .slice xa ex.length xc] 33)).alloc (.cells #[.int .i64 (id : Int), .bool b1, .int .i64 (op : Int), .bool b3, .bool b4, .bool b5, .bool b6, .bool b7, .bool b8, .bool b9, .int .i64 (code : Int)] 29)).alloc (.cells #[.bool b1, .int .i64 32768, .bool b3, .int .i64 1024, .bool b4, .int .i64 512, .bool b5, .int .i64 256, .bool b6, .int .i64 128, .bool b7, .int .i64 64, .bool b8, .int .i64 32, .bool b9, .int .i64 16] 121) = W0 at *
  obtain ⟨kM0, kH0, kF0, bW0⟩ := hthree
  rw [← hPv] at kF0
  clear hPv hfi
  have i00 : flN op code [] = flN op code (FP.take 0) := by simp
  rw [i00]
  clear i00
  go_loopw [44, 5] (fun i fv wr => ∃ j : Nat, j ≤ 8 ∧ i = .int .i64 j ∧ fv = .int .i64 (flN op code (FP.take j) : Int) ∧ Blk wr w.heap.size #[.int .i64 (id : Int), .bool b1, .int .i64 (op : Int), .bool b3, .bool b4, .bool b5, .bool b6, .bool b7, .bool b8, .bool b9, .int .i64 (code : Int), .slice qa qs.length qc, .slice aa' an.length ac, .slice ua au.length uc, .slice xa ex.length xc] 33 ∧ Blk wr (w.heap.size + 1) #[.int .i64 (id : Int), .bool b1, .int .i64 (op : Int), .bool b3, .bool b4, .bool b5, .bool b6, .bool b7, .bool b8, .bool b9, .int .i64 (code : Int)] 29 ∧ Blk wr (w.heap.size + 1 + 1) (flV FP).toArray 121 ∧ Below w.heap.size w wr) (fun i _ _ => 8 - (intOf i).toNat)
  case atStart => exact ⟨0, by omega, rfl, rfl, kM0, kH0, kF0, bW0⟩
  case round =>
    obtain ⟨j, hj, rfl, rfl, kM, kH, kF, bW⟩ := hrel
    clear kM0 kH0 kF0 bW0
    by_cases hlt : j < 8
    · obtain ⟨⟨on, i⟩, hx⟩ : ∃ x, FP[j]? = some x := ⟨_, List.getElem?_eq_getElem (by omega)⟩
      obtain ⟨v0, v1⟩ := flV_at hx
      have c0 := (blk_cell kF (j * 2)).trans ((List.getElem?_toArray ..).trans v0)
      have c1 := (blk_cell kF (j * 2 + 1)).trans ((List.getElem?_toArray ..).trans v1)
      simp only at c0 c1
      have hsti : on = true → bits .or .i64 (flN op code (FP.take j) : Int) ((2 ^ i : Nat) : Int) = (flN op code (FP.take (j + 1)) : Int) := fun e => hst j i (by rw [hx, e])
      have hski : on = false → flN op code (FP.take (j + 1)) = flN op code (FP.take j) := fun e => hsk j i (by rw [hx, e])
      have i1 : (j : Int) < 8 := by omega
      have i2 : (0 : Int) ≤ (j : Int) := by omega
      clear v0 v1 hx hst hsk
      generalize (2 ^ i : Nat) = P at *
      have bA := bW.alloc bW.size (.cells #[.bool on, .int .i64 (P : Int)] 121)
      have kM1 := blk_alloc kM (.cells #[.bool on, .int .i64 (P : Int)] 121)
      have kH1 := blk_alloc kH (.cells #[.bool on, .int .i64 (P : Int)] 121)
      have kF1 := blk_alloc kF (.cells #[.bool on, .int .i64 (P : Int)] 121)
      cases on with
      | false =>
        have hF := hski rfl
        clear hsti hski
        go_wp2
        go_roundw
        case rel => exact ⟨j + 1, by omega, by go_num, by rw [hF], kM1, kH1, kF1, bA⟩
        case measure => simp [intOf]; omega
      | true =>
        have hF := hsti rfl
        clear hsti hski
        go_wp2
        go_roundw
        case rel => exact ⟨j + 1, by omega, by go_num, by rw [← hF], kM1, kH1, kF1, bA⟩
        case measure => simp [intOf]; omega
    · obtain rfl : j = 8 := by omega
      have hT : FP.take 8 = FP := List.take_of_length_le (by omega)
      rw [hT]
      clear hT
      have hM := h.below bW
      have hBr : B ≤ wr.heap.size := Nat.le_trans hB bW.size
      have kW : Bp B w wr := Bp.of bW hB
      clear hst hsk kF bW h
      have hn1 := number2_pm id hidl g B r [] [] vb wr hM hBr (by simp)
      have hn2 := fun vb W (h : PM W g B r ([] ++ put2 id) [] vb) (hB : B ≤ W.heap.size) => number2_pm (flN op code FP) hFL g B r _ _ vb W h hB (by simp [put2])
      rw [headL_two] at hn2
      have hn3 := fun vb W (h : PM W g B r (headL id (flN op code FP) []) [] vb) (hB : B ≤ W.heap.size) => number2_pm qs.length (by omega) g B r _ _ vb W h hB (by rw [headL_len]; simp)
      rw [headL_app, List.nil_append] at hn3
      generalize flN op code FP = FL at *
      have x0 := (blk_cell kH 0).trans rfl
      go_wp2_with first
        | (
          go_at_call 70
          with_reducible refine hn1.mono ?_
          rintro e w1 ⟨rfl, vb1, hM1, k1⟩
          have hB1 := Nat.le_trans hBr k1.be.size
          have kM1 := k1.kp _ _ _ kM (by decide) (by decide))
        | (
          go_at_call 70
          with_reducible refine (hn2 _ _ hM1 hB1).mono ?_
          rintro e w2 ⟨rfl, vb2, hM2, k2⟩
          have hB2 := Nat.le_trans hB1 k2.be.size
          have kM2 := k2.kp _ _ _ kM1 (by decide) (by decide)
          have x2 := (blk_cell kM2 11).trans rfl)
        | (
          go_at_call 70
          with_reducible refine (hn3 _ _ hM2 hB2).mono ?_
          rintro e w3 ⟨rfl, vb3, hM3, k3⟩
          have hB3 := Nat.le_trans hB2 k3.be.size
          have kM3 := k3.kp _ _ _ kM2 (by decide) (by decide)
          have z0 := (blk_cell kM3 0).trans rfl
          have z1 := (blk_cell kM3 1).trans rfl
          have z2 := (blk_cell kM3 2).trans rfl
          have z3 := (blk_cell kM3 3).trans rfl
          have z4 := (blk_cell kM3 4).trans rfl
          have z5 := (blk_cell kM3 5).trans rfl
          have z6 := (blk_cell kM3 6).trans rfl
          have z7 := (blk_cell kM3 7).trans rfl
          have z8 := (blk_cell kM3 8).trans rfl
          have z9 := (blk_cell kM3 9).trans rfl
          have z10 := (blk_cell kM3 10).trans rfl
          have z11 := (blk_cell kM3 11).trans rfl
          have z12 := (blk_cell kM3 12).trans rfl
          have z13 := (blk_cell kM3 13).trans rfl
          have z14 := (blk_cell kM3 14).trans rfl)
        | (
          go_at_call 42
          refine (hli _).mono ?_
          rintro e w4 ⟨rfl, hb4⟩)
      have hM4 := hM3.below hb4
      have hB4 : B ≤ w4.heap.size := Nat.le_trans hB3 hb4.size
      have k4 : Bp B w w4 := kW.trans (k1.trans (k2.trans (k3.trans (Bp.of hb4 hB3))))
      have hM5 : PM w4 g B r (headL id FL ([qs.length] ++ [(LS 0).length, (LS 1).length, (LS 2).length].take 0)) [] vb3 := hM4
      clear hn1 hn2 hn3 hM1 hM2 hM3 hM4 kM kM1 kM2 kM3 kH k1 k2 k3 kW hb4 z0 z1 z2 z3 z4 z5 z6 z7 z8 z9 z10 z11 z12 z13 z14 x0 x2 hM hli
      have hlen : ∀ j, j < 3 → [qs.length] ++ [(LS 0).length, (LS 1).length, (LS 2).length].take (j + 1) = ([qs.length] ++ [(LS 0).length, (LS 1).length, (LS 2).length].take j) ++ [(LS j).length] := by
        intro j hj
        rcases j with _ | _ | _ | j
        · rfl
        · rfl
        · rfl
        · omega
      go_loopw [69] (fun i wr => ∃ (j : Nat) (vb' : Value), j ≤ 3 ∧ i = .int .i64 j ∧ PM wr g B r (headL id FL ([qs.length] ++ [(LS 0).length, (LS 1).length, (LS 2).length].take j)) [] vb' ∧ B ≤ wr.heap.size ∧ Bp B w wr) (fun i _ => 3 - (intOf i).toNat)
      case atStart => exact ⟨0, vb3, by omega, rfl, hM5, hB4, k4⟩
      case round =>
        obtain ⟨j, vb', hj, rfl, hM, hBr2, hbel⟩ := hrel
        clear hM5 hB4 k4
        by_cases hlt : j < 3
        · obtain ⟨la, lc, hrw, _, _, hidx⟩ := hla j hlt
          have hll := hlsz j hlt
          have hnn := number2_pm (LS j).length (by omega) g B r _ [] vb' wr hM hBr2 (by rw [headL_len]; simp; omega)
          rw [headL_app, ← hlen j hlt] at hnn
          have i1 : (j : Int) < 3 := by omega
          clear hla hlsz hrw hlen
          generalize (LS j).length = LJ at *
          go_wp2_with (
            go_at_call 70
            refine hnn.mono ?_
            rintro e w5 ⟨rfl, vb5, hM5, k5⟩)
          go_roundw
          case rel => exact ⟨j + 1, vb5, by omega, by go_num, hM5, Nat.le_trans hBr2 k5.be.size, hbel.trans k5⟩
          case measure => simp [intOf]; omega
        · obtain rfl : j = 3 := by omega
          rw [show [(LS 0).length, (LS 1).length, (LS 2).length].take 3 = [(LS 0).length, (LS 1).length, (LS 2).length] from rfl, ← HW.out] at hM
          clear hla hlsz hlen
          go_wp2
          refine bodyPost_end (v := .tuple #[]) ?_ rfl ⟨rfl, _, hM, hbel⟩
          simp [results, go_sem]
end Go.Proofs.YtmaopfagkffccaaGreat
/- impl.beginMessage by its contract. -/
namespace Go.Proofs.YtmaopfagkffccaaGreat
open Go.RowKit
set_option linter.unusedVariables false

theorem PlOK_nil (n : Nat) : PlOK [] n := ⟨Nat.zero_le _, fun p hp => by cases hp⟩
theorem hdW_len (m : Mg) : (hdW m).length = 12 := by rw [hdW, headL_len]; rfl
theorem qqWs_len : ∀ (l : List Qr) (s : Wst), l.all quOK = true → s.1.length ≤ (qqWs l s).1.length ∧ (qqWs l s).1.length ≤ s.1.length + 65800 * l.length := by
  intro l
  induction l with
  | nil => intro s h; simp [qqWs]
  | cons r l ih =>
    intro s h
    simp only [List.all_cons, Bool.and_eq_true] at h
    rw [qqWs_cons]
    have a := ih (qqW r s) h.2
    have b := qqW_len h.1 s
    simp only [List.length_cons]
    omega
theorem all_at {α : Type} {f : α → Bool} {l : List α} {k : Nat} {x : α} (h : l.all f = true) (hx : l[k]? = some x) : f x = true := List.all_eq_true.1 h x (List.mem_of_getElem? hx)
theorem drop_at {α : Type} {l : List α} {k : Nat} {x : α} (hx : l[k]? = some x) : l.drop k = x :: l.drop (k + 1) := by
  obtain ⟨h1, h2⟩ := List.getElem?_eq_some_iff.1 hx
  rw [List.drop_eq_getElem_cons h1, h2]
/-- The lists of records from the j-th on. -/
def lsW (m : Mg) : Nat → Wst → Wst
  | 0, s => rrWs m.ex (rrWs m.au (rrWs m.an s))
  | 1, s => rrWs m.ex (rrWs m.au s)
  | 2, s => rrWs m.ex s
  | _, s => s
theorem lsW_step (m : Mg) (j : Nat) (hj : j < 3) (s : Wst) : lsW m j s = lsW m (j + 1) (rrWs (lsOf m j) s) := by
  rcases j with _ | _ | _ | j
  · rfl
  · rfl
  · rfl
  · omega
/-- How many records there are from the j-th list on. -/
def lsN (m : Mg) : Nat → Nat
  | 0 => m.an.length + m.au.length + m.ex.length
  | 1 => m.au.length + m.ex.length
  | 2 => m.ex.length
  | _ => 0
theorem lsN_step (m : Mg) (j : Nat) (hj : j < 3) : lsN m j = (lsOf m j).length + lsN m (j + 1) := by
  rcases j with _ | _ | _ | j
  · simp [lsN, lsOf]; omega
  · simp [lsN, lsOf]
  · simp [lsN, lsOf]
  · omega
theorem one_new (w : World) (c1 c3 : Array Value) (T1 T3 : TypeId) : Blk (((w.alloc (.cells c1 T1)).alloc (.map #[] 0)).alloc (.cells c3 T3)) w.heap.size c1 T1 ∧ SMap (((w.alloc (.cells c1 T1)).alloc (.map #[] 0)).alloc (.cells c3 T3)) (w.heap.size + 1) [] ∧ Blk (((w.alloc (.cells c1 T1)).alloc (.map #[] 0)).alloc (.cells c3 T3)) (w.heap.size + 1 + 1) c3 T3 ∧ Below w.heap.size w (((w.alloc (.cells c1 T1)).alloc (.map #[] 0)).alloc (.cells c3 T3)) := by
  have h1 := blk_new w c1 T1
  have h2 := smap_made (w.alloc (.cells c1 T1))
  have h3 := blk_new ((w.alloc (.cells c1 T1)).alloc (.map #[] 0)) c3 T3
  have e1 : (w.alloc (.cells c1 T1)).heap.size = w.heap.size + 1 := by simp
  have e2 : ((w.alloc (.cells c1 T1)).alloc (.map #[] 0)).heap.size = w.heap.size + 1 + 1 := by simp
  rw [e1] at h2
  rw [e2] at h3
  refine ⟨blk_alloc (blk_alloc h1 _) _, h2.kept ?_, h3, (((Below.refl _ _).alloc (Nat.le_refl _) _).alloc (by simp) _).alloc (by simp; omega) _⟩
  exact ((Below.refl _ _).alloc (Nat.le_refl _) _).block _ h2.lt

set_option maxRecDepth 100000 in
set_option maxHeartbeats 3200000 in
theorem beginMessage_any (m : Mg) (q a u x : Value) (w : World) (hrow : MRow w m q a u x) (hm : MSmall m) (hmg : mgOK m = true) :
    Calls Tryz.prog 47 #[.agg (mgV m.hd q a u x)] w fun e w' => e = .returned (.pointer (some ⟨w.heap.size + 1 + 1, 0, none⟩)) ∧ ∃ vb, PM w' (w.heap.size + 1 + 1) w.heap.size (w.heap.size + 1) (qqWs m.qs (hdW m, [])).1 (qqWs m.qs (hdW m, [])).2 vb ∧ Bp w.heap.size w w' ∧ PlOK (qqWs m.qs (hdW m, [])).2 (qqWs m.qs (hdW m, [])).1.length ∧ (qqWs m.qs (hdW m, [])).1.length ≤ 12 + 65800 * m.qs.length := by
  simp only [mgOK, Bool.and_eq_true, decide_eq_true_eq] at hmg
  obtain ⟨⟨⟨⟨⟨hsm, hhd⟩, hqs⟩, han⟩, hau⟩, hex⟩ := hmg
  have HRES : Hid (qqWs m.qs (hdW m, []) = qqWs m.qs (hdW m, [])) := rfl
  have hhw := fun (W : World) (hb : Below w.heap.size w W) g r vb (h : PM W g w.heap.size r [] [] vb) (hB : w.heap.size ≤ W.heap.size) => head_w_any m q a u x W ⟨hrow.rq.below hb, hrow.ra.below hb, hrow.ru.below hb, hrow.rx.below hb⟩ hm hhd hsm g w.heap.size r vb h hB
  have hhl := hdW_len m
  generalize hdW m = HW at *
  obtain ⟨RES, eRES⟩ : ∃ R, R = qqWs m.qs (HW, []) := ⟨_, rfl⟩
  rw [← eRES] at HRES ⊢
  have HRS := Nm.hide eRES
  clear HRES eRES
  obtain ⟨_, qa, qc, rfl, hqcap, hqmx, hqc⟩ := hrow.rq
  obtain ⟨_, aa', ac, rfl, _⟩ := hrow.ra
  obtain ⟨_, ua, uc, rfl, _⟩ := hrow.ru
  obtain ⟨_, xa, xc, rfl, _⟩ := hrow.rx
  unfold maxLen at hqmx
  clear hrow hhd hm han hau hex
  obtain ⟨⟨i0, b1, i2, b3, b4, b5, b6, b7, b8, b9, i10⟩, qs, an, au, ex⟩ := m
  simp only [mgV] at *
  go_enter Tryz.func47, Tryz.ntmps47
  have hmk : ∀ W : World, (Instr.makeMap 83 none).run Tryz.prog W = .ok (.map (some W.heap.size)) (W.alloc (.map #[] 0)) := fun W => rfl
  have hone := one_new w #[.int .i64 i0, .bool b1, .int .i64 i2, .bool b3, .bool b4, .bool b5, .bool b6, .bool b7, .bool b8, .bool b9, .int .i64 i10, .slice qa qs.length qc, .slice aa' an.length ac, .slice ua au.length uc, .slice xa ex.length xc] #[.slice none 0 0, .map (some (w.heap.size + 1))] 33 85
  obtain ⟨kM0, sm0, kw0, bW0⟩ := hone
  have hM0 : PM (((w.alloc (.cells #[.int .i64 i0, .bool b1, .int .i64 i2, .bool b3, .bool b4, .bool b5, .bool b6, .bool b7, .bool b8, .bool b9, .int .i64 i10, .slice qa qs.length qc, .slice aa' an.length ac, .slice ua au.length uc, .slice xa ex.length xc] 33)).alloc (.map #[] 0)).alloc (.cells #[.slice none 0 0, .map (some (w.heap.size + 1))] 85)) (w.heap.size + 1 + 1) w.heap.size (w.heap.size + 1) [] [] (.slice none 0 0) := ⟨⟨kw0, World.ownsRow_nil _ _ _ _, by omega⟩, sm0, by omega⟩
  have hh0 := hhw _ bW0 _ _ _ hM0 bW0.size
  have z0 := (blk_cell kM0 0).trans rfl
  have z1 := (blk_cell kM0 1).trans rfl
  have z2 := (blk_cell kM0 2).trans rfl
  have z3 := (blk_cell kM0 3).trans rfl
  have z4 := (blk_cell kM0 4).trans rfl
  have z5 := (blk_cell kM0 5).trans rfl
  have z6 := (blk_cell kM0 6).trans rfl
  have z7 := (blk_cell kM0 7).trans rfl
  have z8 := (blk_cell kM0 8).trans rfl
  have z9 := (blk_cell kM0 9).trans rfl
  have z10 := (blk_cell kM0 10).trans rfl
  have z11 := (blk_cell kM0 11).trans rfl
  have z12 := (blk_cell kM0 12).trans rfl
  have z13 := (blk_cell kM0 13).trans rfl
  have z14 := (blk_cell kM0 14).trans rfl
  clear hhw
  go_wp2_with (
    go_at_call 68
    refine hh0.mono ?_
    rintro e w1 ⟨rfl, vb1, hM1, k1⟩
    have kM1 := k1.kp _ _ _ kM0 (by decide) (by decide)
    have y11 := (blk_cell kM1 11).trans rfl)
  have hB1 : w.heap.size ≤ w1.heap.size := Nat.le_trans bW0.size k1.be.size
  have k01 : Bp w.heap.size w w1 := ⟨bW0.trans k1.be, fun i cs T hb h1 h2 => k1.kp i cs T (blk_below hb bW0) h1 h2⟩
  have HR1 : Hid (qqWs (qs.drop 0) (HW, []) = RES) := HRS.out.symm
  clear hmk hh0 hM0 kw0 sm0 kM0 bW0 k1 HRS z0 z1 z2 z3 z4 z5 z6 z7 z8 z9 z10 z11 z12 z13 z14 y11
  go_loopw [15] (fun i wr => ∃ (j : Nat) (st : Wst) (vb' : Value), j ≤ qs.length ∧ i = .int .i64 j ∧ PM wr (w.heap.size + 1 + 1) w.heap.size (w.heap.size + 1) st.1 st.2 vb' ∧ w.heap.size ≤ wr.heap.size ∧ Bp w.heap.size w wr ∧ Blk wr w.heap.size #[.int .i64 i0, .bool b1, .int .i64 i2, .bool b3, .bool b4, .bool b5, .bool b6, .bool b7, .bool b8, .bool b9, .int .i64 i10, .slice qa qs.length qc, .slice aa' an.length ac, .slice ua au.length uc, .slice xa ex.length xc] 33 ∧ PlOK st.2 st.1.length ∧ st.1.length ≤ 12 + 65800 * j ∧ Hid (qqWs (qs.drop j) st = RES)) (fun i _ => qs.length - (intOf i).toNat)
  case atStart => exact ⟨0, (HW, []), vb1, Nat.zero_le _, rfl, hM1, hB1, k01, kM1, PlOK_nil _, by show HW.length ≤ _; omega, HR1⟩
  case round =>
    obtain ⟨j, st, vb', hj, rfl, hM, hBr, hbel, kM, hok, hbd, HR⟩ := hrel
    clear hM1 hB1 k01 kM1 HR1
    by_cases hlt : j < qs.length
    · obtain ⟨rq, hrk⟩ : ∃ r, qs[j]? = some r := ⟨_, List.getElem?_eq_getElem hlt⟩
      obtain ⟨b, off, rfl, hcell⟩ := hqc (by omega)
      obtain ⟨c0, c1, c2⟩ := qv_cells hcell hrk
      have put : ∀ {O : Nat} {z : Value}, w.cell? ⟨b, O, none⟩ = some z → wr.cell? ⟨b, O, none⟩ = some z := fun h => (hbel.be.cell (World.block_lt_of_cell? w _ h)).trans h
      replace c0 := put c0
      replace c1 := put c1
      replace c2 := put c2
      have hqo := all_at hqs hrk
      obtain ⟨p1, ⟨t, pt, ptl⟩, ⟨c, pc, pcl⟩⟩ := qu_parts hqo
      obtain ⟨ls, hls⟩ := Option.isSome_iff_exists.1 p1
      have hql := qqW_len hqo st
      have hqk := qqW_ok rq st hok
      have HR2 : Hid (qqWs (qs.drop (j + 1)) (qqW rq st) = RES) := by
        show _ = _
        rw [← HR.out, drop_at hrk, qqWs_cons]
      obtain ⟨o, ty, cl⟩ := rq
      simp only at c0 c1 c2 pt pc p1 hls
      subst pt pc
      have HQ1 : Hid ((qqW ⟨o, t, c⟩ st).1 = ((nmX o st).1 ++ put2 t) ++ put2 c) := by show _ = _; simp [qqW]
      have HQ2 : Hid ((qqW ⟨o, t, c⟩ st).2 = (nmX o st).2) := by rfl
      have hnl := nmX_len p1 st
      have hns := name_short p1
      have hkb := blk_new wr #[.string o, .int .i64 (t : Int), .int .i64 (c : Int)] 63
      have hbA := (Below.refl wr.heap.size wr).alloc (Nat.le_refl _) (.cells #[.string o, .int .i64 (t : Int), .int .i64 (c : Int)] 63)
      have hM2 := hM.below hbA
      have hB2 := Nat.le_trans hBr hbA.size
      have k2 := hbel.trans (Bp.of hbA hBr)
      have kM2 := blk_below kM hbA
      have hn1 := name_w_any o ls hls _ _ _ st.1 st.2 vb' _ hM2 hB2 (by omega) hok
      rw [← nmX_of hls st] at hn1
      have hn2 := fun vb W (h : PM W (w.heap.size + 1 + 1) w.heap.size (w.heap.size + 1) (nmX o st).1 (nmX o st).2 vb) (hB : w.heap.size ≤ W.heap.size) => number2_pm t ptl _ _ _ _ _ vb W h hB (by omega)
      have hn3 := fun vb W (h : PM W (w.heap.size + 1 + 1) w.heap.size (w.heap.size + 1) ((nmX o st).1 ++ put2 t) (nmX o st).2 vb) (hB : w.heap.size ≤ W.heap.size) => number2_pm c pcl _ _ _ _ _ vb W h hB (by simp [put2]; omega)
      rw [← HQ1.out] at hn3
      have i1 : (0 : Int) ≤ (j : Int) := by omega
      have i3 : (j : Int) < (qs.length : Int) := by omega
      clear hcell hqc hrk hqs HR hM kM hbel HQ1
      go_wp2_with first
        | (
          go_at_call 69
          refine hn1.mono ?_
          rintro e w3 ⟨rfl, vb3, hM3, k3⟩
          have hB3 := Nat.le_trans hB2 k3.be.size
          have kM3 := k3.kp _ _ _ kM2 (by decide) (by decide)
          have kb3 := k3.kp _ _ _ hkb (by decide) (by decide)
          have x1 := (blk_cell kb3 1).trans rfl)
        | (
          go_at_call 70
          with_reducible refine (hn2 _ _ hM3 hB3).mono ?_
          rintro e w4 ⟨rfl, vb4, hM4, k4⟩
          have hB4 := Nat.le_trans hB3 k4.be.size
          have kM4 := k4.kp _ _ _ kM3 (by decide) (by decide)
          have kb4 := k4.kp _ _ _ kb3 (by decide) (by decide)
          have x2 := (blk_cell kb4 2).trans rfl)
        | (
          go_at_call 70
          with_reducible refine (hn3 _ _ hM4 hB4).mono ?_
          rintro e w5 ⟨rfl, vb5, hM5, k5⟩
          rw [← HQ2.out] at hM5
          have hB5 := Nat.le_trans hB4 k5.be.size
          have kM5 := k5.kp _ _ _ kM4 (by decide) (by decide))
      go_roundw
      case rel => exact ⟨j + 1, _, vb5, by omega, by go_num, hM5, hB5, k2.trans (k3.trans (k4.trans k5)), kM5, hqk, by omega, HR2⟩
      case measure => simp [intOf]; omega
    · obtain rfl : j = qs.length := by omega
      have i3 : (qs.length : Int) ≤ (qs.length : Int) := by omega
      have HR1 : Hid (st = RES) := by
        have := HR.out
        rw [List.drop_length] at this
        exact this
      clear HR hqc hqs
      go_wp2
      go_ret
      rw [← HR1.out]
      exact ⟨rfl, vb', hM, hbel, hok, hbd⟩
end Go.Proofs.YtmaopfagkffccaaGreat
