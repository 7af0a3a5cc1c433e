/- laws.eqByteSS, markByteSS, heldByteSS by their contracts; marks of bytes from any number on. -/
import Derived.Test.YtlgeeidbclnhbaaCfM
import Derived.Test.YtlgeeidbclnhbaaCfR
import Derived.Test.YtlgeeidbclnhbaaEnM
import Derived.BigQuiet
namespace Go.Proofs.Ytlgeeidbclnhbaa
open Go.RowKit
set_option linter.unusedVariables false

/-- The marks: k, k + 1, .. as bytes. -/
def bmK (k n : Nat) : List Value := (List.range n).map fun i : Nat => .int .u8 (((k + i : Nat) : Int) % 256)
theorem bmK_len (k n : Nat) : (bmK k n).length = n := by simp [bmK]
theorem bmK_get {k n i : Nat} (h : i < n) : (bmK k n)[i]? = some (.int .u8 (((k + i : Nat) : Int) % 256)) := by simp [bmK, h]

set_option maxRecDepth 100000 in
set_option maxHeartbeats 1600000 in
theorem markByK_any (v : Value) (n B k : Nat) (xs : List Value) (w : World) (hown : w.ownsRow B 5 1 v n xs) (hn : n ≤ 1048576) (hk : k ≤ 4000000) :
    Calls Try.prog 9 #[v, .int .i64 (k : Int)] w fun e w' => e = .returned (.int .i64 ((k + n : Nat) : Int)) ∧ w'.ownsRow B 5 1 v n (bmK k n) ∧ w.grownBy w' v.ownBlock := by
  have hxl : xs.length = n := by have := hown.1; omega
  rcases Nat.eq_zero_or_pos n with h0 | hpos
  · subst h0
    obtain ⟨a, cap, rfl⟩ : ∃ a cap, v = .slice a 0 cap := by
      rcases hown.2 with ⟨rfl, _⟩ | ⟨g, cap, cur, rfl, _⟩
      · exact ⟨_, _, rfl⟩
      · exact ⟨_, _, rfl⟩
    have hx0 : xs = bmK k 0 := List.eq_nil_of_length_eq_zero hxl
    rw [hx0] at hown
    go_enter Try.func9, Try.ntmps9
    go_wp2
    go_loop [1, 5] (fun t i => t = .int .i64 (k : Int) ∧ i = .int .i64 0) (fun _ _ => 0)
    case atStart => exact ⟨rfl, rfl⟩
    case round =>
      obtain ⟨rfl, rfl⟩ := hrel
      go_wp2
      go_ret
      exact ⟨rfl, hown, World.grownBy.refl _ _⟩
  · obtain ⟨g, cap, rfl, hBg⟩ : ∃ g cap, v = .slice (some ⟨g, 0, none⟩) n cap ∧ B ≤ g := by
      rcases hown.2 with ⟨rfl, h0⟩ | ⟨g, cap, cur, rfl, hb, _⟩
      · omega
      · exact ⟨g, cap, rfl, hb⟩
    have hown0 : w.ownsRow B 5 1 (.slice (some ⟨g, 0, none⟩) n cap) n ((bmK k n).take 0 ++ xs.drop 0) := by simpa using hown
    go_enter Try.func9, Try.ntmps9
    go_wp2
    go_loopw [1, 5] (fun t i wr => ∃ (j : Nat), j ≤ n ∧ i = .int .i64 (j : Int) ∧ t = .int .i64 ((k + j : Nat) : Int) ∧ wr.ownsRow B 5 1 (.slice (some ⟨g, 0, none⟩) n cap) n ((bmK k n).take j ++ xs.drop j) ∧ w.grownBy wr (some g))
      (fun _ i _ => n - (intOf i).toNat)
    case atStart => exact ⟨0, Nat.zero_le _, rfl, rfl, hown0, World.grownBy.refl _ _⟩
    case round =>
      obtain ⟨j, hj, rfl, rfl, hownj, hgr⟩ := hrel
      clear hown hown0
      by_cases hlt : j < n
      · have hyl : ((bmK k n).take j ++ xs.drop j).length = n := by have := hownj.1; omega
        obtain ⟨y, hy⟩ : ∃ y, wr.cell? ⟨g, j, none⟩ = some y := by
          rw [hownj.cellAt j (by omega)]
          exact ⟨_, List.getElem?_eq_getElem (by omega)⟩
        have hfz := hownj.frozenAt j
        obtain ⟨K, hK⟩ : ∃ K, K = k + j := ⟨_, rfl⟩
        have HS : Hid ((wr.setCell ⟨g, j, none⟩ (.int .u8 ((K : Int) % 256))).ownsRow B 5 1 (.slice (some ⟨g, 0, none⟩) n cap) n ((bmK k n).take (j + 1) ++ xs.drop (j + 1)) ∧ w.grownBy (wr.setCell ⟨g, j, none⟩ (.int .u8 ((K : Int) % 256))) (some g)) := by
          refine ⟨?_, ⟨hgr.os, hgr.tape, hgr.output, by simpa using hgr.size, fun q hq hne => by rw [heap_setCell_other wr ⟨g, j, none⟩ q _ (fun e => hne (by simp [e]))]; exact hgr.block q hq hne⟩⟩
          have := (hownj.stored j (.int .u8 ((K : Int) % 256))).1
          rwa [take_set (bmK_len k n) hxl hlt (by rw [hK]; exact bmK_get hlt)] at this
        have i1 : (j : Int) < (n : Int) := by omega
        have e9 : k + (j + 1) = K + 1 := by omega
        have hKs : K ≤ 6000000 := by omega
        rw [← hK]
        clear hownj hgr hyl hK
        go_wp2
        go_roundw
        case rel => exact ⟨j + 1, by omega, by go_num, by rw [e9]; go_num, HS.out.1, HS.out.2⟩
        case measure => simp [intOf]; omega
      · obtain rfl : j = n := by omega
        have i1 : (j : Int) ≤ (j : Int) := by omega
        rw [List.take_of_length_le (by rw [bmK_len]; omega), List.drop_of_length_le (by omega), List.append_nil] at hownj
        go_wp2
        go_ret
        exact ⟨rfl, hownj, hgr⟩

set_option maxRecDepth 100000 in
set_option maxHeartbeats 1600000 in
theorem heldByK_any (v : Value) (n k : Nat) (w : World) (h : CRow w v n 1 (bmK k n)) (hn : n ≤ 1048576) (hk : k ≤ 4000000) :
    Calls Try.prog 12 #[v, .int .i64 (k : Int)] w fun e w' => e = .returned (.int .i64 ((k + n : Nat) : Int)) ∧ Below w.heap.size w w' := by
  obtain ⟨_, a, cap, rfl, hcap, hmx, hc⟩ := h
  unfold maxLen at hmx
  go_enter Try.func12, Try.ntmps12
  go_wp2
  go_loopw [1, 5] (fun t i wr => ∃ j : Nat, j ≤ n ∧ i = .int .i64 j ∧ t = .int .i64 ((k + j : Nat) : Int) ∧ Below w.heap.size w wr) (fun _ i _ => n - (intOf i).toNat)
  case atStart => exact ⟨0, Nat.zero_le _, rfl, rfl, Below.refl _ _⟩
  case round =>
    obtain ⟨j, hj, rfl, rfl, hbel⟩ := hrel
    by_cases hlt : j < n
    · obtain ⟨b, off, rfl, hcell⟩ := hc (by omega)
      have hcx := (hbel.cell (World.block_lt_of_cell? w _ (hcell j _ (bmK_get hlt)))).trans (hcell j _ (bmK_get hlt))
      obtain ⟨K, hK⟩ : ∃ K, K = k + j := ⟨_, rfl⟩
      have e9 : k + (j + 1) = K + 1 := by omega
      have hKs : K ≤ 6000000 := by omega
      rw [← hK] at hcx ⊢
      have hxx : ((K : Int) % 256 != (K : Int) % 256) = false := by simp
      have i1 : (j : Int) < (n : Int) := by omega
      clear hcell hc hK
      go_wp2
      go_roundw
      case rel => exact ⟨j + 1, by omega, by go_num, by rw [e9]; go_num, hbel⟩
      case measure => simp [intOf]; omega
    · obtain rfl : j = n := by omega
      have i1 : (j : Int) ≤ (j : Int) := by omega
      clear hc
      go_wp2
      go_ret
      exact ⟨rfl, hbel⟩
end Go.Proofs.Ytlgeeidbclnhbaa
