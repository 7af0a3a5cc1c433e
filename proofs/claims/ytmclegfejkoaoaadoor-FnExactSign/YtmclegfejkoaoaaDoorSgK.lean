import Derived.Test.YtmclegfejkoaoaaDoorJShL8
import Derived.Test.YtmclegfejkoaoaaDoorJPiece2
import Derived.Test.YtmclegfejkoaoaaDoorJNameOKs
import Derived.Test.YtmclegfejkoaoaaDoorJBitM
/- Keys: valid or not; the algorithm's name; by their contracts. -/
namespace Go.Proofs.YtmclegfejkoaoaaDoor
open Go.RowKit
set_option linter.unusedVariables false

def keyB (nm sc : ByteArray) : Bool := (Nm.split nm).isSome && (decide (1 ≤ sc.size) && decide (sc.size ≤ 64))

set_option maxRecDepth 100000 in
set_option maxHeartbeats 1600000 in
theorem isValid_any (nm sc : ByteArray) (w : World) (hn : nm.size ≤ maxLen) :
    Calls Tryd.prog 18 #[.agg #[.string nm, .string sc]] w fun e w' => e = .returned (.bool (keyB nm sc)) ∧ Below w.heap.size w w' := by
  have hno := fun W => implNameOK_any nm W hn
  clear hn
  have k0 := blk_new w #[.string nm, .string sc] 29
  have hB0 := (Below.refl w.heap.size w).alloc (Nat.le_refl _) (.cells #[.string nm, .string sc] 29)
  have HM : Hid (keyB nm sc = ((Nm.split nm).isSome && (decide (1 ≤ sc.size) && decide (sc.size ≤ 64)))) := rfl
  have q0 := blk_cell k0 0
  generalize keyB nm sc = M at *
  generalize (Nm.split nm).isSome = B at *
  cases B with
  | false =>
    obtain rfl : M = false := by rw [HM.out]; simp
    go_enter Tryd.func18, Tryd.ntmps18
    go_wp2_with (go_at_call 30; refine (hno _).mono ?_; rintro e w1 ⟨rfl, hb1⟩)
    go_ret
    exact ⟨rfl, Nm.below_two hB0 hb1⟩
  | true =>
    by_cases h1 : 1 ≤ sc.size
    · have h1' : (1 : Int) ≤ (sc.size : Int) := by omega
      have h1'' : (0 : Int) < (sc.size : Int) := by omega
      by_cases h2 : sc.size ≤ 64
      · have h2' : (sc.size : Int) ≤ 64 := by omega
        obtain rfl : M = true := by rw [HM.out]; simp [h1, h2]
        clear h1 h2
        go_enter Tryd.func18, Tryd.ntmps18
        go_wp2_with (go_at_call 30; refine (hno _).mono ?_; rintro e w1 ⟨rfl, hb1⟩; have q1 := (blk_cell (blk_below k0 hb1) 1).trans rfl)
        go_ret
        exact ⟨rfl, Nm.below_two hB0 hb1⟩
      · have h2' : ¬ (sc.size : Int) ≤ 64 := by omega
        have h2'' : decide ((sc.size : Int) ≤ 64) = false := by simpa using h2'
        obtain rfl : M = false := by rw [HM.out]; simp [h2]
        clear h1 h2
        go_enter Tryd.func18, Tryd.ntmps18
        go_wp2_with (go_at_call 30; refine (hno _).mono ?_; rintro e w1 ⟨rfl, hb1⟩; have q1 := (blk_cell (blk_below k0 hb1) 1).trans rfl)
        go_ret
        exact ⟨rfl, Nm.below_two hB0 hb1⟩
    · have h1' : ¬ (1 : Int) ≤ (sc.size : Int) := by omega
      have h1'' : ¬ (0 : Int) < (sc.size : Int) := by omega
      obtain rfl : M = false := by rw [HM.out]; simp [h1]
      clear h1
      go_enter Tryd.func18, Tryd.ntmps18
      go_wp2_with (go_at_call 30; refine (hno _).mono ?_; rintro e w1 ⟨rfl, hb1⟩; have q1 := (blk_cell (blk_below k0 hb1) 1).trans rfl)
      go_ret
      exact ⟨rfl, Nm.below_two hB0 hb1⟩

set_option maxRecDepth 100000 in
set_option maxHeartbeats 1600000 in
theorem l09KeyOK_any (nm sc : ByteArray) (w : World) (hn : nm.size ≤ maxLen) :
    Calls Tryd.prog 12 #[.agg #[.string nm, .string sc]] w fun e w' => e = .returned (.bool (keyB nm sc)) ∧ Below w.heap.size w w' := by
  have hno := fun W => specNameOK_any nm W hn
  clear hn
  have k0 := blk_new w #[.string nm, .string sc] 29
  have hB0 := (Below.refl w.heap.size w).alloc (Nat.le_refl _) (.cells #[.string nm, .string sc] 29)
  have HM : Hid (keyB nm sc = ((Nm.split nm).isSome && (decide (1 ≤ sc.size) && decide (sc.size ≤ 64)))) := rfl
  have q0 := blk_cell k0 0
  generalize keyB nm sc = M at *
  generalize (Nm.split nm).isSome = B at *
  cases B with
  | false =>
    obtain rfl : M = false := by rw [HM.out]; simp
    go_enter Tryd.func12, Tryd.ntmps12
    go_wp2_with (go_at_call 25; refine (hno _).mono ?_; rintro e w1 ⟨rfl, hb1⟩)
    go_ret
    exact ⟨rfl, Nm.below_two hB0 hb1⟩
  | true =>
    by_cases h1 : 1 ≤ sc.size
    · have h1' : (1 : Int) ≤ (sc.size : Int) := by omega
      have h1'' : (0 : Int) < (sc.size : Int) := by omega
      by_cases h2 : sc.size ≤ 64
      · have h2' : (sc.size : Int) ≤ 64 := by omega
        obtain rfl : M = true := by rw [HM.out]; simp [h1, h2]
        clear h1 h2
        go_enter Tryd.func12, Tryd.ntmps12
        go_wp2_with (go_at_call 25; refine (hno _).mono ?_; rintro e w1 ⟨rfl, hb1⟩; have q1 := (blk_cell (blk_below k0 hb1) 1).trans rfl)
        go_ret
        exact ⟨rfl, Nm.below_two hB0 hb1⟩
      · have h2' : ¬ (sc.size : Int) ≤ 64 := by omega
        have h2'' : decide ((sc.size : Int) ≤ 64) = false := by simpa using h2'
        obtain rfl : M = false := by rw [HM.out]; simp [h2]
        clear h1 h2
        go_enter Tryd.func12, Tryd.ntmps12
        go_wp2_with (go_at_call 25; refine (hno _).mono ?_; rintro e w1 ⟨rfl, hb1⟩; have q1 := (blk_cell (blk_below k0 hb1) 1).trans rfl)
        go_ret
        exact ⟨rfl, Nm.below_two hB0 hb1⟩
    · have h1' : ¬ (1 : Int) ≤ (sc.size : Int) := by omega
      have h1'' : ¬ (0 : Int) < (sc.size : Int) := by omega
      obtain rfl : M = false := by rw [HM.out]; simp [h1]
      clear h1
      go_enter Tryd.func12, Tryd.ntmps12
      go_wp2_with (go_at_call 25; refine (hno _).mono ?_; rintro e w1 ⟨rfl, hb1⟩; have q1 := (blk_cell (blk_below k0 hb1) 1).trans rfl)
      go_ret
      exact ⟨rfl, Nm.below_two hB0 hb1⟩

set_option maxRecDepth 100000 in
set_option maxHeartbeats 1600000 in
theorem l09Alg_any (w : World) : Calls Tryd.prog 17 #[] w fun e w' => e = .returned (.string ⟨algL.toArray⟩) ∧ Below w.heap.size w w' := by
  have hB0 := (Below.refl w.heap.size w).alloc (Nat.le_refl _) (.cells #[.string ⟨#[104, 109, 97, 99, 45, 115, 104, 97, 50, 53, 54]⟩] 9)
  have ho := World.ownsRow_lit (base := w.heap.size) (e := 9) (size := 1) w #[.string ⟨#[104, 109, 97, 99, 45, 115, 104, 97, 50, 53, 54]⟩] 1 (Nat.le_refl _) (by decide) rfl
  have hj := l01Join_any (.slice (some ⟨w.heap.size, 0, none⟩) 1 1) [⟨#[104, 109, 97, 99, 45, 115, 104, 97, 50, 53, 54]⟩] _ (Nm.SRow.of_owns ho) (by decide)
  have e : Nm.joinL [⟨#[104, 109, 97, 99, 45, 115, 104, 97, 50, 53, 54]⟩] = algL := by decide
  rw [e] at hj
  go_enter Tryd.func17, Tryd.ntmps17
  go_wp2_with fail
  refine hj.mono ?_
  rintro e w1 ⟨rfl, hb1⟩
  go_wp2
  go_ret
  exact ⟨rfl, Nm.below_two hB0 hb1⟩
end Go.Proofs.YtmclegfejkoaoaaDoor
