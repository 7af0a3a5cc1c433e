/- impl.EdnsRecord by its contract. -/
import Derived.Test.YtinbaopcapnbgaaIOd
import Derived.Test.YtinbaopcapnbgaaBitM
import Derived.Test.YtinbaopcapnbgaaSEr
namespace Go.Proofs.Ytinbaopcapnbgaa
open Go.RowKit
set_option linter.unusedVariables false

theorem ir_back {w W : World} {size code flags : Int} {xs : List (Int × ByteArray)} {a : Act} {c : Array Value} {n : Value} (hk : Blk W w.heap.size c 25) (hB : Below w.heap.size w W) (h8 : a.tmps[8]?.getD undef = .pointer (some ⟨w.heap.size, 0, none⟩)) (h9 : a.tmps[9]?.getD undef = n) (hd : a.defers = []) (hc : erP size code flags xs = .returned (.tuple #[.agg c, n])) (hz : c.size = 5) :
    bodyPost Try.prog Try.f8 (fun e w' => e = erP size code flags xs ∧ Below w.heap.size w w') .ret a W := by
  have hl := run_loadVar_row W w.heap.size 25 25 c (0, 0) _ hk Try.underlying25 rfl (by rw [hz]; kernel_rfl)
  refine bodyPost_ret (v := .tuple #[.agg c, n]) ?_ hd ⟨hc.symm, hB⟩
  simp [results, Try.results8, h8, h9, asAddr, hl]

theorem erB_od (size code flags : Int) (xs : List (Int × ByteArray)) : erB size code flags xs = ((decide (0 ≤ size) && decide (size ≤ 65535)) && ((decide (0 ≤ flags) && decide (flags ≤ 65535)) && ((decide (0 ≤ code) && decide (code ≤ 255)) && odB xs))) := rfl

theorem ttl_or {code flags : Int} (h1 : 0 ≤ code) (h2 : code ≤ 255) (h3 : 0 ≤ flags) (h4 : flags ≤ 65535) : bits .or .i64 (code * 16777216) flags = code * 16777216 + flags := by
  obtain ⟨c, rfl⟩ := Int.eq_ofNat_of_zero_le h1
  obtain ⟨f, rfl⟩ := Int.eq_ofNat_of_zero_le h3
  have := or_join 24 c f (by omega) (by omega)
  have e : ((2 ^ 24 * c : Nat) : Int) = (c : Int) * 16777216 := by rw [Int.natCast_mul]; omega
  rw [e] at this
  rw [this]
  omega

set_option maxRecDepth 100000 in
set_option maxHeartbeats 3200000 in
theorem implEdnsRecord_any (size code flags : Int) (v : Value) (xs : List (Int × ByteArray)) (w : World) (h : CRow w v xs.length 2 (opVs xs)) (hs : xs.length + osum xs ≤ 1048576) :
    Calls Try.prog 8 #[.int .i64 size, .int .i64 code, .int .i64 flags, v] w fun e w' => e = erP size code flags xs ∧ Below w.heap.size w w' := by
  have kR := blk_new w erZ 25
  have hB0 := (Below.refl w.heap.size w).alloc (Nat.le_refl _) (.cells erZ 25)
  have h1 := fun W => within_any size 65535 W
  have h2 := fun W => within_any code 255 W
  have h3 := fun W => within_any flags 65535 W
  have hrow : ∀ W, Below w.heap.size w W → CRow W v xs.length 2 (opVs xs) := fun W hW => h.below hW
  have hod := fun W hW => optionsData_any v xs W hW hs
  have HEB := erB_od size code flags xs
  simp only [erZ] at kR hB0
  obtain ⟨_, av, cv, rfl, hcap, hmx, hcc⟩ := h
  clear hcc
  cases od : odB xs with
  | false =>
    have HE : Hid (erB size code flags xs = false) := by show _ = _; rw [HEB, od]; simp
    rw [od] at hod
    clear HEB od
    go_enter Try.func8, Try.ntmps8
    go_wp2_with (first | (go_at_call 24; refine (hod _ (hrow _ hB0)).mono ?_; rintro e w1 ⟨rfl, b1⟩; have kR1 := blk_below kR b1; have hB1 := Nm.below_two hB0 b1) | (go_at_call 25; with_reducible refine (h1 _).mono ?_; rintro e wf ⟨rfl, hw⟩; obtain rfl := hw.symm; clear hw) | (go_at_call 25; with_reducible refine (h2 _).mono ?_; rintro e wf ⟨rfl, hw⟩; obtain rfl := hw.symm; clear hw) | (go_at_call 25; with_reducible refine (h3 _).mono ?_; rintro e wf ⟨rfl, hw⟩; obtain rfl := hw.symm; clear hw) | (refine wpList_store_blk (.tmp 8) (.tmp 34) 25 rfl rfl rfl w.heap.size _ _ kR1 rfl rfl (by kernel_rfl) rfl (by kernel_rfl) ?_; intro wz kz oz) | (refine wpList_store_blk (.tmp 8) (.tmp 41) 25 rfl rfl rfl w.heap.size _ _ kR1 rfl rfl (by kernel_rfl) rfl (by kernel_rfl) ?_; intro wz kz oz))
    exact ir_back kz (oz.below hB1 (Nat.le_refl _) hB1.size) rfl rfl rfl (erP_bad HE.out) rfl
  | true =>
  rw [od] at hod
  cases b1 : (decide (0 ≤ size) && decide (size ≤ 65535)) with
  | false =>
    have HE : Hid (erB size code flags xs = false) := by show _ = _; rw [HEB, b1]; rfl
    rw [b1] at h1
    clear HEB od b1
    go_enter Try.func8, Try.ntmps8
    go_wp2_with (first | (go_at_call 24; refine (hod _ (hrow _ hB0)).mono ?_; rintro e w1 ⟨rfl, b1⟩; have kR1 := blk_below kR b1; have hB1 := Nm.below_two hB0 b1) | (go_at_call 25; with_reducible refine (h1 _).mono ?_; rintro e wf ⟨rfl, hw⟩; obtain rfl := hw.symm; clear hw) | (go_at_call 25; with_reducible refine (h2 _).mono ?_; rintro e wf ⟨rfl, hw⟩; obtain rfl := hw.symm; clear hw) | (go_at_call 25; with_reducible refine (h3 _).mono ?_; rintro e wf ⟨rfl, hw⟩; obtain rfl := hw.symm; clear hw) | (refine wpList_store_blk (.tmp 8) (.tmp 34) 25 rfl rfl rfl w.heap.size _ _ kR1 rfl rfl (by kernel_rfl) rfl (by kernel_rfl) ?_; intro wz kz oz) | (refine wpList_store_blk (.tmp 8) (.tmp 41) 25 rfl rfl rfl w.heap.size _ _ kR1 rfl rfl (by kernel_rfl) rfl (by kernel_rfl) ?_; intro wz kz oz))
    exact ir_back kz (oz.below hB1 (Nat.le_refl _) hB1.size) rfl rfl rfl (erP_bad HE.out) rfl
  | true =>
  cases b2 : (decide (0 ≤ code) && decide (code ≤ 255)) with
  | false =>
    have HE : Hid (erB size code flags xs = false) := by show _ = _; rw [HEB, b1, b2]; simp
    rw [b1] at h1
    rw [b2] at h2
    clear HEB od b1 b2
    go_enter Try.func8, Try.ntmps8
    go_wp2_with (first | (go_at_call 24; refine (hod _ (hrow _ hB0)).mono ?_; rintro e w1 ⟨rfl, b1⟩; have kR1 := blk_below kR b1; have hB1 := Nm.below_two hB0 b1) | (go_at_call 25; with_reducible refine (h1 _).mono ?_; rintro e wf ⟨rfl, hw⟩; obtain rfl := hw.symm; clear hw) | (go_at_call 25; with_reducible refine (h2 _).mono ?_; rintro e wf ⟨rfl, hw⟩; obtain rfl := hw.symm; clear hw) | (go_at_call 25; with_reducible refine (h3 _).mono ?_; rintro e wf ⟨rfl, hw⟩; obtain rfl := hw.symm; clear hw) | (refine wpList_store_blk (.tmp 8) (.tmp 34) 25 rfl rfl rfl w.heap.size _ _ kR1 rfl rfl (by kernel_rfl) rfl (by kernel_rfl) ?_; intro wz kz oz) | (refine wpList_store_blk (.tmp 8) (.tmp 41) 25 rfl rfl rfl w.heap.size _ _ kR1 rfl rfl (by kernel_rfl) rfl (by kernel_rfl) ?_; intro wz kz oz))
    exact ir_back kz (oz.below hB1 (Nat.le_refl _) hB1.size) rfl rfl rfl (erP_bad HE.out) rfl
  | true =>
  cases b3 : (decide (0 ≤ flags) && decide (flags ≤ 65535)) with
  | false =>
    have HE : Hid (erB size code flags xs = false) := by show _ = _; rw [HEB, b1, b3]; simp
    rw [b1] at h1
    rw [b2] at h2
    rw [b3] at h3
    clear HEB od b1 b2 b3
    go_enter Try.func8, Try.ntmps8
    go_wp2_with (first | (go_at_call 24; refine (hod _ (hrow _ hB0)).mono ?_; rintro e w1 ⟨rfl, b1⟩; have kR1 := blk_below kR b1; have hB1 := Nm.below_two hB0 b1) | (go_at_call 25; with_reducible refine (h1 _).mono ?_; rintro e wf ⟨rfl, hw⟩; obtain rfl := hw.symm; clear hw) | (go_at_call 25; with_reducible refine (h2 _).mono ?_; rintro e wf ⟨rfl, hw⟩; obtain rfl := hw.symm; clear hw) | (go_at_call 25; with_reducible refine (h3 _).mono ?_; rintro e wf ⟨rfl, hw⟩; obtain rfl := hw.symm; clear hw) | (refine wpList_store_blk (.tmp 8) (.tmp 34) 25 rfl rfl rfl w.heap.size _ _ kR1 rfl rfl (by kernel_rfl) rfl (by kernel_rfl) ?_; intro wz kz oz) | (refine wpList_store_blk (.tmp 8) (.tmp 41) 25 rfl rfl rfl w.heap.size _ _ kR1 rfl rfl (by kernel_rfl) rfl (by kernel_rfl) ?_; intro wz kz oz))
    exact ir_back kz (oz.below hB1 (Nat.le_refl _) hB1.size) rfl rfl rfl (erP_bad HE.out) rfl
  | true =>
    have HE : Hid (erB size code flags xs = true) := by show _ = _; rw [HEB, b1, b2, b3, od]; rfl
    rw [b1] at h1
    rw [b2] at h2
    rw [b3] at h3
    rw [odS_ok od] at hod
    simp only [Bool.and_eq_true, decide_eq_true_eq] at b1 b2 b3
    have hor := ttl_or b2.1 b2.2 b3.1 b3.2
    obtain ⟨RS, eRS⟩ : ∃ S : ByteArray, S = ⟨(optsL xs).toArray⟩ := ⟨_, rfl⟩
    rw [← eRS] at hod
    have HRS := Nm.hide eRS
    clear HEB od eRS
    go_enter Try.func8, Try.ntmps8
    go_wp2_with (first | (go_at_call 24; refine (hod _ (hrow _ hB0)).mono ?_; rintro e w1 ⟨rfl, b1⟩; have kR1 := blk_below kR b1; have hB1 := Nm.below_two hB0 b1) | (go_at_call 25; with_reducible refine (h1 _).mono ?_; rintro e wf ⟨rfl, hw⟩; obtain rfl := hw.symm; clear hw) | (go_at_call 25; with_reducible refine (h2 _).mono ?_; rintro e wf ⟨rfl, hw⟩; obtain rfl := hw.symm; clear hw) | (go_at_call 25; with_reducible refine (h3 _).mono ?_; rintro e wf ⟨rfl, hw⟩; obtain rfl := hw.symm; clear hw) | (refine wpList_store_blk (.tmp 8) (.tmp 34) 25 rfl rfl rfl w.heap.size _ _ kR1 rfl rfl (by kernel_rfl) rfl (by kernel_rfl) ?_; intro wz kz oz) | (refine wpList_store_blk (.tmp 8) (.tmp 41) 25 rfl rfl rfl w.heap.size _ _ kR1 rfl rfl (by kernel_rfl) rfl (by kernel_rfl) ?_; intro wz kz oz))
    exact ir_back kz (oz.below hB1 (Nat.le_refl _) hB1.size) rfl rfl rfl (by rw [erP_ok HE.out, erA, ← HRS.out]; rfl) rfl
end Go.Proofs.Ytinbaopcapnbgaa
