/- impl.readNumbered by its contract. -/
import Derived.Test.YtakonfkefoeenadDoorCmp
import Derived.Test.YtakonfkefoeenadDoorINum
namespace Go.Proofs.YtakonfkefoeenadDoor
open Go.RowKit

/-- A prefix in any letters, and up to five digits behind it. -/
def nbdO (s p : ByteArray) : Option Nat :=
  if s.size < p.size then none else if Nm.ordS (s.extract 0 p.size) p = 0 then numO (s.extract p.size s.size) 5 else none

set_option maxRecDepth 100000 in
set_option maxHeartbeats 800000 in
theorem readNumbered_any (s p : ByteArray) (w : World) (hs : s.size ≤ 1000000000) :
    Calls Tryd.prog 17 #[.string s, .string p] w fun e w' => e = .returned (numV (nbdO s p)) ∧ ∃ m, w' = w.drewN m := by
  by_cases h1 : s.size < p.size
  · have HN : Hid (numV (nbdO s p) = .tuple #[.int .i64 0, .bool false]) := by show _ = _; rw [nbdO, if_pos h1]; rfl
    have h1' : (s.size : Int) < (p.size : Int) := by omega
    go_enter Tryd.func17, Tryd.ntmps17
    go_wp2
    go_ret2
    rw [HN.out]
    exact ⟨rfl, 0, rfl⟩
  · have h1' : (p.size : Int) ≤ (s.size : Int) := by omega
    have hp : p.size ≤ s.size := by omega
    have hcmp := fun W => compareFolded_any (s.extract 0 p.size) p W (by simp; omega)
    have hnum := fun W => readNumber_any (s.extract p.size s.size) 5 W (by decide)
    by_cases h2 : Nm.ordS (s.extract 0 p.size) p = 0
    · have HN : Hid (nbdO s p = numO (s.extract p.size s.size) 5) := by show _ = _; rw [nbdO, if_neg h1, if_pos h2]
      rw [h2] at hcmp
      clear h2
      rw [HN.out]
      simp only [numV] at hnum ⊢
      generalize ((numO (s.extract p.size s.size) 5).getD 0 : Nat) = n at *
      generalize (numO (s.extract p.size s.size) 5).isSome = o at *
      go_enter Tryd.func17, Tryd.ntmps17
      go_wp2_with (first | (go_at_call 16; refine (hcmp _).mono ?_; rintro e w2 ⟨rfl, m, hw2⟩; have HW := Nm.hide hw2; clear hw2) | (go_at_call 13; refine (hnum _).mono ?_; rintro e w3 ⟨rfl, hw⟩; obtain rfl : w2 = w3 := hw.symm; clear hw))
      go_ret2
      exact ⟨rfl, m, HW.out⟩
    · have HN : Hid (numV (nbdO s p) = .tuple #[.int .i64 0, .bool false]) := by show _ = _; rw [nbdO, if_neg h1, if_neg h2]; rfl
      have hne : (Nm.ordS (s.extract 0 p.size) p == 0) = false := by rw [beq_eq_false_iff_ne]; exact h2
      have hne2 : (Nm.ordS (s.extract 0 p.size) p != 0) = true := by rw [bne_iff_ne]; exact h2
      clear h2
      generalize Nm.ordS (s.extract 0 p.size) p = O at *
      go_enter Tryd.func17, Tryd.ntmps17
      go_wp2_with (go_at_call 16; refine (hcmp _).mono ?_; rintro e w2 ⟨rfl, m, hw2⟩)
      go_ret2
      rw [HN.out]
      exact ⟨rfl, m, rfl⟩
end Go.Proofs.YtakonfkefoeenadDoor
