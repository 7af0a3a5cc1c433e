import Derived.Test.YtddabafaejahbaaGreatDoorJRv1
import Derived.Test.YtddabafaejahbaaGreatDoorJEsc
import Derived.Test.YtddabafaejahbaaGreatDoorJTxt6A
/- The readers of words by their contracts: tags, numbers, texts. -/
namespace Go.Proofs.YtddabafaejahbaaGreatDoor
open Go.RowKit
set_option linter.unusedVariables false

theorem big_one (n : Nat) : (⟨(bigL n 1).toArray⟩ : ByteArray) = ⟨#[UInt8.ofNat n]⟩ := by
  simp [bigL, List.range_succ]
theorem tag_len {x : ByteArray} (h : tagT x = true) : 1 ≤ x.size ∧ x.size ≤ 15 := by
  rw [tagT] at h
  simp at h
  omega

set_option maxRecDepth 100000 in
set_option maxHeartbeats 1600000 in
theorem tagRead_any (x o : ByteArray) (w : World) (hx : x.size ≤ 1000000000) :
    Calls Tryz.prog 124 #[.string x, .string o] w fun e w' => e = .returned (strV (readPl 103 x o)) ∧ Below w.heap.size w w' := by
  have hr : readPl 103 x o = if tagT x = true then (lenS x, 0) else (⟨#[]⟩, 15) := rfl
  rw [hr]
  clear hr
  have hT := fun W => isTag_any x W hx
  cases ht : tagT x with
  | false =>
    rw [ht] at hT
    rw [if_neg (by simp)]
    clear ht
    go_enter Tryz.func124, Tryz.ntmps124
    go_wp2_with (go_at_call 125; refine (hT _).mono ?_; rintro e w1 ⟨rfl, hw⟩; obtain rfl : w = w1 := hw.symm; clear hw)
    go_ret2
    exact ⟨rfl, Below.refl _ _⟩
  | true =>
    rw [ht] at hT
    rw [if_pos rfl]
    obtain ⟨l1, l2⟩ := tag_len ht
    have hB : ∀ W, Calls Tryz.prog 101 #[.int .i64 (x.size : Int), .int .i64 1] W fun e w' => e = .returned (.string ⟨#[UInt8.ofNat x.size]⟩) ∧ Below W.heap.size W w' := fun W => by
      have := bigBytesN_any x.size 1 W (by omega) (by decide) (by decide)
      rw [big_one] at this
      exact this
    have HL : Hid ((⟨#[UInt8.ofNat x.size]⟩ : ByteArray) ++ x = lenS x) := rfl
    have l3 : (x.size : Int) ≤ 15 := by omega
    clear ht
    go_enter Tryz.func124, Tryz.ntmps124
    go_wp2_with (first | (go_at_call 125; refine (hT _).mono ?_; rintro e w1 ⟨rfl, hw⟩; obtain rfl : w = w1 := hw.symm; clear hw) | (go_at_call 101; refine (hB _).mono ?_; rintro e w2 ⟨rfl, hb2⟩))
    go_ret2
    rw [← HL.out]
    exact ⟨rfl, hb2⟩

set_option maxRecDepth 100000 in
set_option maxHeartbeats 1600000 in
theorem numRead_any (k : Nat) (x o : ByteArray) (g : Nat) (w : World) (hk : k = 1 ∨ k = 2 ∨ k = 4) (hg : w.cell? ⟨g, 0, none⟩ = some (.int .i64 (k : Int))) :
    Calls Tryz.prog 104 #[.string x, .string o, .pointer (some ⟨g, 0, none⟩)] w fun e w' => e = .returned (strV (readPl (kc (k + 7)) x o)) ∧ Below w.heap.size w w' := by
  have hN := fun W => readNumber_any x 10 W (by decide)
  rw [show ((10 : Nat) : Int) = 10 from rfl] at hN
  have hr : readPl (kc (k + 7)) x o = match numO x 10 with
    | some n => if n < 2 ^ (8 * k) then (⟨(bigL n k).toArray⟩, 0) else (⟨#[]⟩, 15)
    | none => (⟨#[]⟩, 15) := by rcases hk with rfl | rfl | rfl <;> rfl
  rw [hr]
  clear hr
  cases hn : numO x 10 with
  | none =>
    rw [hn] at hN
    unfold numV at hN
    simp only [Option.getD_none, Option.isSome_none] at hN
    clear hn
    go_enter Tryz.func104, Tryz.ntmps104
    go_wp2_with (go_at_call 53; refine (hN _).mono ?_; rintro e w1 ⟨rfl, hw⟩; obtain rfl : w = w1 := hw.symm; clear hw)
    go_ret2
    exact ⟨rfl, Below.refl _ _⟩
  | some n =>
    have hlt := numO_lt hn
    rw [hn] at hN
    unfold numV at hN
    simp only [Option.getD_some, Option.isSome_some] at hN ⊢
    have hB := fun W => bigBytesN_any n k W (by omega) (by omega) (by omega)
    clear hn
    by_cases hb : n < 2 ^ (8 * k)
    · rw [if_pos hb]
      rcases hk with rfl | rfl | rfl
      · have d1 : (n : Int) / 256 = 0 := by simp at hb; omega
        have hB1 : ∀ W, Calls Tryz.prog 101 #[.int .i64 (n : Int), .int .i64 1] W fun e w' => e = .returned (.string ⟨(bigL n 1).toArray⟩) ∧ Below W.heap.size W w' := hB
        have hg1 : w.cell? ⟨g, 0, none⟩ = some (.int .i64 1) := hg
        clear hB hb hg
        go_enter Tryz.func104, Tryz.ntmps104
        go_wp2_with (first | (go_at_call 53; refine (hN _).mono ?_; rintro e w1 ⟨rfl, hw⟩; obtain rfl : w = w1 := hw.symm; clear hw) | (go_at_call 101; refine (hB1 _).mono ?_; rintro e w2 ⟨rfl, hb2⟩))
        go_ret2
        exact ⟨rfl, hb2⟩
      · have d1 : (n : Int) / 65536 = 0 := by simp at hb; omega
        have hB1 : ∀ W, Calls Tryz.prog 101 #[.int .i64 (n : Int), .int .i64 2] W fun e w' => e = .returned (.string ⟨(bigL n 2).toArray⟩) ∧ Below W.heap.size W w' := hB
        have hg1 : w.cell? ⟨g, 0, none⟩ = some (.int .i64 2) := hg
        clear hB hb hg
        go_enter Tryz.func104, Tryz.ntmps104
        go_wp2_with (first | (go_at_call 53; refine (hN _).mono ?_; rintro e w1 ⟨rfl, hw⟩; obtain rfl : w = w1 := hw.symm; clear hw) | (go_at_call 101; refine (hB1 _).mono ?_; rintro e w2 ⟨rfl, hb2⟩))
        go_ret2
        exact ⟨rfl, hb2⟩
      · have d1 : (n : Int) / 4294967296 = 0 := by simp at hb; omega
        have hB1 : ∀ W, Calls Tryz.prog 101 #[.int .i64 (n : Int), .int .i64 4] W fun e w' => e = .returned (.string ⟨(bigL n 4).toArray⟩) ∧ Below W.heap.size W w' := hB
        have hg1 : w.cell? ⟨g, 0, none⟩ = some (.int .i64 4) := hg
        clear hB hb hg
        go_enter Tryz.func104, Tryz.ntmps104
        go_wp2_with (first | (go_at_call 53; refine (hN _).mono ?_; rintro e w1 ⟨rfl, hw⟩; obtain rfl : w = w1 := hw.symm; clear hw) | (go_at_call 101; refine (hB1 _).mono ?_; rintro e w2 ⟨rfl, hb2⟩))
        go_ret2
        exact ⟨rfl, hb2⟩
    · rw [if_neg hb]
      clear hB
      rcases hk with rfl | rfl | rfl
      · have d1 : ((n : Int) / 256 == 0) = false := by simp at hb; rw [beq_eq_false_iff_ne]; omega
        have hg1 : w.cell? ⟨g, 0, none⟩ = some (.int .i64 1) := hg
        clear hb hg
        go_enter Tryz.func104, Tryz.ntmps104
        go_wp2_with (go_at_call 53; refine (hN _).mono ?_; rintro e w1 ⟨rfl, hw⟩; obtain rfl : w = w1 := hw.symm; clear hw)
        go_ret2
        exact ⟨rfl, Below.refl _ _⟩
      · have d1 : ((n : Int) / 65536 == 0) = false := by simp at hb; rw [beq_eq_false_iff_ne]; omega
        have hg1 : w.cell? ⟨g, 0, none⟩ = some (.int .i64 2) := hg
        clear hb hg
        go_enter Tryz.func104, Tryz.ntmps104
        go_wp2_with (go_at_call 53; refine (hN _).mono ?_; rintro e w1 ⟨rfl, hw⟩; obtain rfl : w = w1 := hw.symm; clear hw)
        go_ret2
        exact ⟨rfl, Below.refl _ _⟩
      · have d1 : ((n : Int) / 4294967296 == 0) = false := by simp at hb; rw [beq_eq_false_iff_ne]; omega
        have hg1 : w.cell? ⟨g, 0, none⟩ = some (.int .i64 4) := hg
        clear hb hg
        go_enter Tryz.func104, Tryz.ntmps104
        go_wp2_with (go_at_call 53; refine (hN _).mono ?_; rintro e w1 ⟨rfl, hw⟩; obtain rfl : w = w1 := hw.symm; clear hw)
        go_ret2
        exact ⟨rfl, Below.refl _ _⟩

set_option maxRecDepth 100000 in
set_option maxHeartbeats 1600000 in
theorem textRead_any (x o : ByteArray) (b : Bool) (w : World) (hs : x.size ≤ 1000000000) :
    Calls Tryz.prog 99 #[.agg #[.string x, .bool b], .string o] w fun e w' => e = .returned (strV (readTx 116 x)) ∧ Below w.heap.size w w' := by
  have h1 := fun W => implReadText_any x W hs
  obtain ⟨T, hT⟩ : ∃ T, T = readTextR x := ⟨_, rfl⟩
  rw [← hT] at h1
  have hr : readTx 116 x = if T.2 ≠ 0 then (⟨#[]⟩, T.2) else if 255 < T.1.size then (⟨#[]⟩, 7) else (lenS T.1, 0) := by rw [hT]; rfl
  rw [hr]
  clear hr hT
  by_cases h0 : T.2 = 0
  · rw [if_neg (by simpa using h0)]
    rw [h0] at h1
    by_cases hl : 255 < T.1.size
    · rw [if_pos hl]
      have hl' : 255 < (T.1.size : Int) := by omega
      go_enter Tryz.func99, Tryz.ntmps99
      go_wp2_with (go_at_call 100; refine (h1 _).mono ?_; rintro e w1 ⟨rfl, hb1⟩)
      go_ret2
      exact ⟨rfl, Nm.below_two ((Below.refl _ _).alloc (Nat.le_refl _) _) hb1⟩
    · rw [if_neg hl]
      have hl' : (T.1.size : Int) ≤ 255 := by omega
      have hB : ∀ W, Calls Tryz.prog 101 #[.int .i64 (T.1.size : Int), .int .i64 1] W fun e w' => e = .returned (.string ⟨#[UInt8.ofNat T.1.size]⟩) ∧ Below W.heap.size W w' := fun W => by
        have := bigBytesN_any T.1.size 1 W (by omega) (by decide) (by decide)
        rw [big_one] at this
        exact this
      have HL : Hid ((⟨#[UInt8.ofNat T.1.size]⟩ : ByteArray) ++ T.1 = lenS T.1) := rfl
      go_enter Tryz.func99, Tryz.ntmps99
      go_wp2_with (first | (go_at_call 100; refine (h1 _).mono ?_; rintro e w1 ⟨rfl, hb1⟩) | (go_at_call 101; refine (hB _).mono ?_; rintro e w2 ⟨rfl, hb2⟩))
      go_ret2
      rw [← HL.out]
      exact ⟨rfl, Nm.below_two (Nm.below_two ((Below.refl _ _).alloc (Nat.le_refl _) _) hb1) hb2⟩
  · rw [if_pos (by simpa using h0)]
    have h0' : (T.2 == 0) = false := by simpa using h0
    go_enter Tryz.func99, Tryz.ntmps99
    go_wp2_with (go_at_call 100; refine (h1 _).mono ?_; rintro e w1 ⟨rfl, hb1⟩)
    go_ret2
    exact ⟨rfl, Nm.below_two ((Below.refl _ _).alloc (Nat.le_refl _) _) hb1⟩

theorem readTx_rest (x : ByteArray) : readTx 118 x = readTextR x := by
  unfold readTx
  by_cases h : (readTextR x).2 = 0
  · rw [if_neg (by simpa using h), if_pos rfl]
    rw [← h]
  · rw [if_pos h]
    unfold readTextR at h ⊢
    cases hl : readTextL x.data.toList with
    | none => rfl
    | some l => rw [hl] at h; exact absurd rfl h

set_option maxRecDepth 100000 in
set_option maxHeartbeats 1600000 in
theorem restRead_any (x o : ByteArray) (b : Bool) (w : World) (hs : x.size ≤ 1000000000) :
    Calls Tryz.prog 127 #[.agg #[.string x, .bool b], .string o] w fun e w' => e = .returned (strV (readTx 118 x)) ∧ Below w.heap.size w w' := by
  have h1 := fun W => implReadText_any x W hs
  rw [readTx_rest]
  generalize readTextR x = T at *
  go_enter Tryz.func127, Tryz.ntmps127
  go_wp2_with (go_at_call 100; refine (h1 _).mono ?_; rintro e w1 ⟨rfl, hb1⟩)
  go_ret2
  exact ⟨rfl, Nm.below_two ((Below.refl _ _).alloc (Nat.le_refl _) _) hb1⟩
end Go.Proofs.YtddabafaejahbaaGreatDoor
