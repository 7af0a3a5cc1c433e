/- laws.eqInt64A4 by its contract. -/
import Derived.Test.YtakonfkefoeenadEqH1
namespace Go.Proofs.Ytakonfkefoeenad
open Go.RowKit
set_option linter.unusedVariables false

theorem four_at {m0 m1 m2 m3 : Int} {k : Nat} (h : k < 4) : ∃ x : Int, (#[.int .i64 m0, .int .i64 m1, .int .i64 m2, .int .i64 m3] : Array Value)[k]? = some (.int .i64 x) := by
  rcases k with _ | _ | _ | _ | k
  · exact ⟨_, rfl⟩
  · exact ⟨_, rfl⟩
  · exact ⟨_, rfl⟩
  · exact ⟨_, rfl⟩
  · omega

set_option maxRecDepth 100000 in
set_option maxHeartbeats 1600000 in
theorem eqInt64A4_any (m0 m1 m2 m3 : Int) (w : World) :
    Calls Try.prog 11 #[.agg #[.int .i64 m0, .int .i64 m1, .int .i64 m2, .int .i64 m3], .agg #[.int .i64 m0, .int .i64 m1, .int .i64 m2, .int .i64 m3]] w fun e w' => e = .returned (.bool true) ∧ Below w.heap.size w w' := by
  have hA := blk_alloc (blk_new w #[.int .i64 m0, .int .i64 m1, .int .i64 m2, .int .i64 m3] 26) (.cells #[.int .i64 m0, .int .i64 m1, .int .i64 m2, .int .i64 m3] 26)
  have hB := blk_new (w.alloc (.cells #[.int .i64 m0, .int .i64 m1, .int .i64 m2, .int .i64 m3] 26)) #[.int .i64 m0, .int .i64 m1, .int .i64 m2, .int .i64 m3] 26
  have hbe : Below w.heap.size w ((w.alloc (.cells #[.int .i64 m0, .int .i64 m1, .int .i64 m2, .int .i64 m3] 26)).alloc (.cells #[.int .i64 m0, .int .i64 m1, .int .i64 m2, .int .i64 m3] 26)) := ((Below.refl _ _).alloc (Nat.le_refl _) _).alloc (by simp) _
  have e1 : (w.alloc (.cells #[.int .i64 m0, .int .i64 m1, .int .i64 m2, .int .i64 m3] 26)).heap.size = w.heap.size + 1 := by simp
  rw [e1] at hB
  go_enter Try.func11, Try.ntmps11
  go_wp2
  go_loopw [5] (fun vi wr => ∃ k : Nat, k ≤ 4 ∧ vi = .int .i64 k ∧ Blk wr w.heap.size #[.int .i64 m0, .int .i64 m1, .int .i64 m2, .int .i64 m3] 26 ∧ Blk wr (w.heap.size + 1) #[.int .i64 m0, .int .i64 m1, .int .i64 m2, .int .i64 m3] 26 ∧ Below w.heap.size w wr) (fun vi _ => 4 - (intOf vi).toNat)
  case atStart => exact ⟨0, by decide, rfl, hA, hB, hbe⟩
  case round =>
    obtain ⟨k, hk, rfl, hAk, hBk, hbk⟩ := hrel
    clear hA hB hbe e1
    by_cases hlt : k < 4
    · have hlt' : (k : Int) < 4 := by omega
      obtain ⟨x, hx⟩ := four_at (m0 := m0) (m1 := m1) (m2 := m2) (m3 := m3) hlt
      have r0 := (blk_cell hAk k).trans hx
      have r1 := (blk_cell hBk k).trans hx
      have hxx : (x != x) = false := by simp
      have HR : Hid (Blk wr w.heap.size #[.int .i64 m0, .int .i64 m1, .int .i64 m2, .int .i64 m3] 26 ∧ Blk wr (w.heap.size + 1) #[.int .i64 m0, .int .i64 m1, .int .i64 m2, .int .i64 m3] 26 ∧ Below w.heap.size w wr) := by exact ⟨hAk, hBk, hbk⟩
      clear hAk hBk hbk hx
      go_wp2
      go_region
      all_goals
        go_wp2
        go_roundw
        case rel => exact ⟨k + 1, by omega, by go_num, HR.out.1, HR.out.2.1, HR.out.2.2.drew⟩
        case measure => simp [intOf]; omega
    · have hge : (4 : Int) ≤ (k : Int) := by omega
      clear hAk hBk
      go_wp2
      go_ret
      exact ⟨rfl, hbk⟩
end Go.Proofs.Ytakonfkefoeenad
