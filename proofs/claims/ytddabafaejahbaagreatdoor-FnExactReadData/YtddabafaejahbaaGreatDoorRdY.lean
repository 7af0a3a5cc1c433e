import Derived.Test.YtddabafaejahbaaGreatDoorJRdW
import Derived.Test.YtddabafaejahbaaGreatDoorJIParts
/- spec.l03Word by its contract: texts; spec.l03Many. -/
namespace Go.Proofs.YtddabafaejahbaaGreatDoor
open Go.RowKit
set_option linter.unusedVariables false

set_option maxRecDepth 100000 in
set_option maxHeartbeats 1600000 in
theorem l03Word_text (c : UInt8) (x o : ByteArray) (b : Bool) (w : World) (hs : x.size ≤ 1000000000) (hc : c = 116 ∨ c = 115 ∨ c = 118) :
    Calls Tryz.prog 21 #[.int .u8 (c.toNat : Int), .agg #[.string x, .bool b], .string o] w fun e w' => e = .returned (strV (readTx c x)) ∧ Below w.heap.size w w' := by
  have h1 := fun W => specReadText_any x W hs
  obtain ⟨T, hT⟩ : ∃ T, T = readTextR x := ⟨_, rfl⟩
  rw [← hT] at h1
  have hr : readTx c x = if T.2 ≠ 0 then (⟨#[]⟩, T.2) else if c = 118 then (T.1, 0) else if 255 < T.1.size then (⟨#[]⟩, 7) else (lenS T.1, 0) := by rw [hT]; rfl
  rw [hr]
  clear hr hT
  by_cases h0 : T.2 = 0
  · rw [if_neg (by simpa using h0)]
    rw [h0] at h1
    by_cases hv : c = 118
    · rw [if_pos hv]
      subst hv
      clear hc
      cases b <;>
      · go_enter Tryz.func21, Tryz.ntmps21
        go_wp2_with (go_at_call 48; refine (h1 _).mono ?_; rintro e w1 ⟨rfl, hb1⟩)
        refine bodyPost_ret (v := strV (T.1, 0)) ?_ rfl ⟨rfl, Nm.below_two ((Below.refl _ _).alloc (Nat.le_refl _) _) hb1⟩
        simp [results, Tryz.f21, go_sem, strV]
    · rw [if_neg hv]
      have hc' : c = 116 ∨ c = 115 := by
        rcases hc with h | h | h
        · exact .inl h
        · exact .inr h
        · exact absurd h hv
      clear hc hv
      by_cases hl : 255 < T.1.size
      · rw [if_pos hl]
        have hl' : 255 < (T.1.size : Int) := by omega
        rcases hc' with rfl | rfl <;> cases b <;>
        · go_enter Tryz.func21, Tryz.ntmps21
          go_wp2_with (go_at_call 48; refine (h1 _).mono ?_; rintro e w1 ⟨rfl, hb1⟩)
          refine bodyPost_ret (v := strV (⟨#[]⟩, 7)) ?_ rfl ⟨rfl, Nm.below_two ((Below.refl _ _).alloc (Nat.le_refl _) _) hb1⟩
          simp [results, Tryz.f21, go_sem, strV]
      · rw [if_neg hl]
        have hl' : (T.1.size : Int) ≤ 255 := by omega
        have hcv := fun W => conv_one (T.1.size : Int) W
        simp only [Int.toNat_natCast] at hcv
        have HL : Hid ((⟨#[UInt8.ofNat T.1.size]⟩ : ByteArray) ++ T.1 = lenS T.1) := rfl
        rcases hc' with rfl | rfl <;> cases b <;>
        · go_enter Tryz.func21, Tryz.ntmps21
          go_wp2_with (go_at_call 48; refine (h1 _).mono ?_; rintro e w1 ⟨rfl, hb1⟩)
          refine bodyPost_ret (v := strV (lenS T.1, 0)) ?_ rfl ⟨rfl, (Nm.below_two ((Below.refl _ _).alloc (Nat.le_refl _) _) hb1).alloc (by have := hb1.size; simp at this; omega) _⟩
          rw [← HL.out]
          simp [results, Tryz.f21, go_sem, strV]
  · rw [if_pos (by simpa using h0)]
    have h0' : (T.2 == 0) = false := by simpa using h0
    rcases hc with rfl | rfl | rfl <;> cases b <;>
    · go_enter Tryz.func21, Tryz.ntmps21
      go_wp2_with (go_at_call 48; refine (h1 _).mono ?_; rintro e w1 ⟨rfl, hb1⟩)
      refine bodyPost_ret (v := strV (⟨#[]⟩, T.2)) ?_ rfl ⟨rfl, Nm.below_two ((Below.refl _ _).alloc (Nat.le_refl _) _) hb1⟩
      simp [results, Tryz.f21, go_sem, strV]

/-- So many words fit a script. -/
def manyB (s : ByteArray) (n : Nat) : Bool :=
  if h : 0 < s.size then (if s[s.size - 1] = 109 then decide (s.size - 1 ≤ n) else if s[s.size - 1] = 115 then decide (s.size ≤ n) else decide (n = s.size)) else false
end Go.Proofs.YtddabafaejahbaaGreatDoor
