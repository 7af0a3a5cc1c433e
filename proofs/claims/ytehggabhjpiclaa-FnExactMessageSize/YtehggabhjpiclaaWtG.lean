import Derived.Test.YtehggabhjpiclaaWtF
/- spec.l04Head by its contract. -/
namespace Go.Proofs.Ytehggabhjpiclaa
open Go.RowKit
set_option linter.unusedVariables false

def flagsS (qr : Bool) (op : Nat) (aa tc rd ra z ad cd : Bool) (code : Nat) : Nat := flS qr 15 + op * 2048 + flS aa 10 + flS tc 9 + flS rd 8 + flS ra 7 + flS z 6 + flS ad 5 + flS cd 4 + code
theorem flS_le (b : Bool) (i : Nat) : flS b i ≤ 2 ^ i := by cases b <;> simp [flS]
theorem flagsS_lt (qr : Bool) (op : Nat) (aa tc rd ra z ad cd : Bool) (code : Nat) (h1 : op ≤ 15) (h2 : code ≤ 15) : flagsS qr op aa tc rd ra z ad cd code < 65536 := by
  have a := flS_le qr 15
  have b := flS_le aa 10
  have c := flS_le tc 9
  have d := flS_le rd 8
  have e := flS_le ra 7
  have f := flS_le z 6
  have g := flS_le ad 5
  have h := flS_le cd 4
  simp only [Nat.reducePow] at a b c d e f g h
  unfold flagsS
  omega
def headL (id fl : Nat) (cs : List Nat) : List UInt8 := put2 id ++ put2 fl ++ cs.flatMap put2
theorem cat_mk (a b : List UInt8) : (⟨a.toArray⟩ : ByteArray) ++ ⟨b.toArray⟩ = ⟨(a ++ b).toArray⟩ := by
  apply ByteArray.ext
  simp
theorem headL_len (id fl : Nat) (cs : List Nat) : (headL id fl cs).length = 4 + 2 * cs.length := by
  have : (cs.flatMap put2).length = 2 * cs.length := by
    induction cs with
    | nil => rfl
    | cons x xs ih => simp [put2] at ih ⊢; omega
  simp [headL, this, put2]
  omega

theorem below_hd {w w2 : World} {X : Obj} {cs : Array Value} {T : TypeId} (n : Nat) (h : Below (((w.alloc X).alloc (.cells cs T)).drewN n).heap.size (((w.alloc X).alloc (.cells cs T)).drewN n) w2) : Below w.heap.size w w2 ∧ Blk w2 (w.heap.size + 1) cs T := by
  have b := ((Below.refl w.heap.size w).alloc (Nat.le_refl _) X).alloc (by simp) (.cells cs T)
  have b' : Below w.heap.size w (((w.alloc X).alloc (.cells cs T)).drewN n) := ⟨b.os, b.tape, b.output, b.size, b.block⟩
  refine ⟨b'.trans (h.mono b'.size), ?_⟩
  have k := blk_new (w.alloc X) cs T
  rw [show (w.alloc X).heap.size = w.heap.size + 1 by simp] at k
  have k' : Blk (((w.alloc X).alloc (.cells cs T)).drewN n) (w.heap.size + 1) cs T := k
  exact blk_below k' h
theorem headL_step (id fl c : Nat) (cs : List Nat) : (⟨(headL id fl cs).toArray⟩ : ByteArray) ++ ⟨(put2 c).toArray⟩ = ⟨(headL id fl (cs ++ [c])).toArray⟩ := by
  rw [cat_mk]; simp [headL]
theorem headL_fit (id fl c : Nat) (cs : List Nat) (h : cs.length ≤ 4) : ¬ 9223372036854775807 < (⟨(headL id fl cs).toArray⟩ : ByteArray).size + (⟨(put2 c).toArray⟩ : ByteArray).size := by
  rw [← ByteArray.size_append, headL_step]
  show ¬ 9223372036854775807 < (headL id fl (cs ++ [c])).toArray.size
  rw [List.size_toArray, headL_len]
  simp
  omega

set_option maxRecDepth 100000 in
set_option maxHeartbeats 1600000 in
theorem l04Head_any (id op code c0 c1 c2 c3 : Nat) (qr aa tc rd ra z ad cd : Bool) (w : World) (hid : id < 65536) (hop : op ≤ 15) (hcode : code ≤ 15) (h0 : c0 < 65536) (h1 : c1 < 65536) (h2 : c2 < 65536) (h3 : c3 < 65536) :
    Calls Try.prog 27 #[.agg #[.int .i64 (id : Int), .bool qr, .int .i64 (op : Int), .bool aa, .bool tc, .bool rd, .bool ra, .bool z, .bool ad, .bool cd, .int .i64 (code : Int)], .agg #[.int .i64 (c0 : Int), .int .i64 (c1 : Int), .int .i64 (c2 : Int), .int .i64 (c3 : Int)]] w fun e w' => e = .returned (.string ⟨(headL id (flagsS qr op aa tc rd ra z ad cd code) [c0, c1, c2, c3]).toArray⟩) ∧ Below w.heap.size w w' := by
  have hfl := flagsS_lt qr op aa tc rd ra z ad cd code hop hcode
  have HF : Hid (flagsS qr op aa tc rd ra z ad cd code = flS qr 15 + op * 2048 + flS aa 10 + flS tc 9 + flS rd 8 + flS ra 7 + flS z 6 + flS ad 5 + flS cd 4 + code) := rfl
  have f15 : ∀ W, Calls Try.prog 42 #[.bool qr, .int .i64 15] W fun e w' => e = .returned (.int .i64 (flS qr 15 : Int)) ∧ w' = W := fun W => l04Flag_any qr 15 (by decide) W
  have f10 : ∀ W, Calls Try.prog 42 #[.bool aa, .int .i64 10] W fun e w' => e = .returned (.int .i64 (flS aa 10 : Int)) ∧ w' = W := fun W => l04Flag_any aa 10 (by decide) W
  have f9 : ∀ W, Calls Try.prog 42 #[.bool tc, .int .i64 9] W fun e w' => e = .returned (.int .i64 (flS tc 9 : Int)) ∧ w' = W := fun W => l04Flag_any tc 9 (by decide) W
  have f8 : ∀ W, Calls Try.prog 42 #[.bool rd, .int .i64 8] W fun e w' => e = .returned (.int .i64 (flS rd 8 : Int)) ∧ w' = W := fun W => l04Flag_any rd 8 (by decide) W
  have f7 : ∀ W, Calls Try.prog 42 #[.bool ra, .int .i64 7] W fun e w' => e = .returned (.int .i64 (flS ra 7 : Int)) ∧ w' = W := fun W => l04Flag_any ra 7 (by decide) W
  have f6 : ∀ W, Calls Try.prog 42 #[.bool z, .int .i64 6] W fun e w' => e = .returned (.int .i64 (flS z 6 : Int)) ∧ w' = W := fun W => l04Flag_any z 6 (by decide) W
  have f5 : ∀ W, Calls Try.prog 42 #[.bool ad, .int .i64 5] W fun e w' => e = .returned (.int .i64 (flS ad 5 : Int)) ∧ w' = W := fun W => l04Flag_any ad 5 (by decide) W
  have f4 : ∀ W, Calls Try.prog 42 #[.bool cd, .int .i64 4] W fun e w' => e = .returned (.int .i64 (flS cd 4 : Int)) ∧ w' = W := fun W => l04Flag_any cd 4 (by decide) W
  have l15 := flS_le qr 15
  have l10 := flS_le aa 10
  have l9 := flS_le tc 9
  have l8 := flS_le rd 8
  have l7 := flS_le ra 7
  have l6 := flS_le z 6
  have l5 := flS_le ad 5
  have l4 := flS_le cd 4
  simp only [Nat.reducePow] at l15 l10 l9 l8 l7 l6 l5 l4
  generalize flS qr 15 = k15 at *
  generalize flS aa 10 = k10 at *
  generalize flS tc 9 = k9 at *
  generalize flS rd 8 = k8 at *
  generalize flS ra 7 = k7 at *
  generalize flS z 6 = k6 at *
  generalize flS ad 5 = k5 at *
  generalize flS cd 4 = k4 at *
  generalize flagsS qr op aa tc rd ra z ad cd code = FL at *
  have hpI := fun W => l02Put2_any id W hid
  have hpF : ∀ W, Calls Try.prog 43 #[.int .i64 ((k15 : Int) + (op : Int) * 2048 + k10 + k9 + k8 + k7 + k6 + k5 + k4 + code), .int .i64 2] W fun e w' => e = .returned (.string ⟨(put2 FL).toArray⟩) ∧ Below W.heap.size W w' := by
    intro W
    have := l02Put2_any FL W hfl
    rw [show ((FL : Nat) : Int) = (k15 : Int) + (op : Int) * 2048 + k10 + k9 + k8 + k7 + k6 + k5 + k4 + code by rw [HF.out]; omega] at this
    exact this
  have hcat : (⟨(put2 id).toArray⟩ : ByteArray) ++ ⟨(put2 FL).toArray⟩ = ⟨(headL id FL []).toArray⟩ := by rw [cat_mk]; simp [headL]
  have hps2 : ¬ 9223372036854775807 < (⟨(put2 id).toArray⟩ : ByteArray).size + (⟨(put2 FL).toArray⟩ : ByteArray).size := by
    rw [← ByteArray.size_append, hcat]
    show ¬ 9223372036854775807 < (headL id FL []).toArray.size
    rw [List.size_toArray, headL_len]; decide
  clear HF
  generalize (⟨(put2 id).toArray⟩ : ByteArray) = P1 at *
  generalize (⟨(put2 FL).toArray⟩ : ByteArray) = P2 at *
  go_enter Try.func27, Try.ntmps27
  go_wp2_with fail
  go_quiet ((go_at_call 42; first | with_reducible exact Calls.quiet_of_same (f15 _) | with_reducible exact Calls.quiet_of_same (f10 _) | with_reducible exact Calls.quiet_of_same (f9 _) | with_reducible exact Calls.quiet_of_same (f8 _) | with_reducible exact Calls.quiet_of_same (f7 _) | with_reducible exact Calls.quiet_of_same (f6 _) | with_reducible exact Calls.quiet_of_same (f5 _) | with_reducible exact Calls.quiet_of_same (f4 _)))
  go_wp2_with (first
    | (go_at_call 43; with_reducible refine (hpI _).mono ?_; rintro e w2 ⟨rfl, hb2⟩)
    | (go_at_call 43; with_reducible refine (hpF _).mono ?_; rintro e w3 ⟨rfl, hb3⟩))
  obtain ⟨be2, bl2⟩ := below_hd nq hb2
  have be3 := Nm.below_two be2 hb3
  have bl3 := blk_below bl2 hb3
  clear hb2 hb3 be2 bl2 hcat hps2 hpI hpF f15 f10 f9 f8 f7 f6 f5 f4
  go_loopw [6, 7] (fun o i wr => ∃ k : Nat, k ≤ 4 ∧ i = .int .i64 (k : Int) ∧ o = .string ⟨(headL id FL ([c0, c1, c2, c3].take k)).toArray⟩ ∧ Below w.heap.size w wr ∧ Blk wr (w.heap.size + 1) #[.int .i64 (c0 : Int), .int .i64 (c1 : Int), .int .i64 (c2 : Int), .int .i64 (c3 : Int)] 63) (fun _ i _ => 4 - (intOf i).toNat)
  case atStart => exact ⟨0, by omega, rfl, rfl, be3, bl3⟩
  case round =>
    obtain ⟨k, hk, rfl, rfl, hbe, hbl⟩ := hrel
    clear be3 bl3
    obtain rfl | rfl | rfl | rfl | rfl : k = 0 ∨ k = 1 ∨ k = 2 ∨ k = 3 ∨ k = 4 := by omega
    · have hp := fun W => l02Put2_any c0 W h0
      have hst := headL_step id FL c0 ([c0, c1, c2, c3].take 0)
      have hft := headL_fit id FL c0 ([c0, c1, c2, c3].take 0) (by simp)
      have cl : wr.cell? ⟨w.heap.size + 1, 0, none⟩ = some (.int .i64 (c0 : Int)) := (blk_cell hbl 0).trans rfl
      try simp only [List.take_succ_cons] at hst hft ⊢
      try simp only [List.take_zero] at hst hft ⊢
      try simp only [List.cons_append] at hst hft ⊢
      try simp only [List.nil_append] at hst hft ⊢
      generalize (⟨(put2 c0).toArray⟩ : ByteArray) = PC at *
      generalize (⟨(headL id FL _).toArray⟩ : ByteArray) = HD at hst hft ⊢
      go_wp2_with (go_at_call 43; with_reducible refine (hp _).mono ?_; rintro e w5 ⟨rfl, hb5⟩)
      go_roundw
      case rel => exact ⟨1, by omega, by go_num, by simp only [List.take_succ_cons, List.take_zero], Nm.below_two hbe hb5, blk_below hbl hb5⟩
      case measure => simp [intOf]
    · have hp := fun W => l02Put2_any c1 W h1
      have hst := headL_step id FL c1 ([c0, c1, c2, c3].take 1)
      have hft := headL_fit id FL c1 ([c0, c1, c2, c3].take 1) (by simp)
      have cl : wr.cell? ⟨w.heap.size + 1, 1, none⟩ = some (.int .i64 (c1 : Int)) := (blk_cell hbl 1).trans rfl
      try simp only [List.take_succ_cons] at hst hft ⊢
      try simp only [List.take_zero] at hst hft ⊢
      try simp only [List.cons_append] at hst hft ⊢
      try simp only [List.nil_append] at hst hft ⊢
      generalize (⟨(put2 c1).toArray⟩ : ByteArray) = PC at *
      generalize (⟨(headL id FL _).toArray⟩ : ByteArray) = HD at hst hft ⊢
      go_wp2_with (go_at_call 43; with_reducible refine (hp _).mono ?_; rintro e w5 ⟨rfl, hb5⟩)
      go_roundw
      case rel => exact ⟨2, by omega, by go_num, by simp only [List.take_succ_cons, List.take_zero], Nm.below_two hbe hb5, blk_below hbl hb5⟩
      case measure => simp [intOf]
    · have hp := fun W => l02Put2_any c2 W h2
      have hst := headL_step id FL c2 ([c0, c1, c2, c3].take 2)
      have hft := headL_fit id FL c2 ([c0, c1, c2, c3].take 2) (by simp)
      have cl : wr.cell? ⟨w.heap.size + 1, 2, none⟩ = some (.int .i64 (c2 : Int)) := (blk_cell hbl 2).trans rfl
      try simp only [List.take_succ_cons] at hst hft ⊢
      try simp only [List.take_zero] at hst hft ⊢
      try simp only [List.cons_append] at hst hft ⊢
      try simp only [List.nil_append] at hst hft ⊢
      generalize (⟨(put2 c2).toArray⟩ : ByteArray) = PC at *
      generalize (⟨(headL id FL _).toArray⟩ : ByteArray) = HD at hst hft ⊢
      go_wp2_with (go_at_call 43; with_reducible refine (hp _).mono ?_; rintro e w5 ⟨rfl, hb5⟩)
      go_roundw
      case rel => exact ⟨3, by omega, by go_num, by simp only [List.take_succ_cons, List.take_zero], Nm.below_two hbe hb5, blk_below hbl hb5⟩
      case measure => simp [intOf]
    · have hp := fun W => l02Put2_any c3 W h3
      have hst := headL_step id FL c3 ([c0, c1, c2, c3].take 3)
      have hft := headL_fit id FL c3 ([c0, c1, c2, c3].take 3) (by simp)
      have cl : wr.cell? ⟨w.heap.size + 1, 3, none⟩ = some (.int .i64 (c3 : Int)) := (blk_cell hbl 3).trans rfl
      try simp only [List.take_succ_cons] at hst hft ⊢
      try simp only [List.take_zero] at hst hft ⊢
      try simp only [List.cons_append] at hst hft ⊢
      try simp only [List.nil_append] at hst hft ⊢
      generalize (⟨(put2 c3).toArray⟩ : ByteArray) = PC at *
      generalize (⟨(headL id FL _).toArray⟩ : ByteArray) = HD at hst hft ⊢
      go_wp2_with (go_at_call 43; with_reducible refine (hp _).mono ?_; rintro e w5 ⟨rfl, hb5⟩)
      go_roundw
      case rel => exact ⟨4, by omega, by go_num, by simp only [List.take_succ_cons, List.take_zero], Nm.below_two hbe hb5, blk_below hbl hb5⟩
      case measure => simp [intOf]
    · go_wp2
      go_ret
      exact ⟨rfl, hbe⟩
end Go.Proofs.Ytehggabhjpiclaa
