/- laws.eqByteS, markByteS, heldByteS by their contracts. -/
import Derived.Test.YtlgeeidbclnhbaaCRow
import Derived.Test.YtlgeeidbclnhbaaRows
import Derived.WalkSpells
import Derived.WalkLawsBesides
import Derived.RegionTactic
import Derived.BigRegion
namespace Go.Proofs.Ytlgeeidbclnhbaa
open Go.RowKit
set_option linter.unusedVariables false

set_option maxRecDepth 100000 in
set_option maxHeartbeats 800000 in
theorem eqBy_any (v u : Value) (l : List UInt8) (w : World) (h : CRow w v l.length 1 (Nm.bys l)) (h' : CRow w u l.length 1 (Nm.bys l)) :
    Calls Try.prog 8 #[v, u] w fun e w' => e = .returned (.bool true) ∧ Below w.heap.size w w' := by
  obtain ⟨_, a, cap, rfl, hcap, hmx, hc⟩ := h
  obtain ⟨_, a', cap', rfl, hcap', hmx', hc'⟩ := h'
  unfold maxLen at hmx
  have hne : ((l.length : Int) != (l.length : Int)) = false := by simp
  go_enter Try.func8, Try.ntmps8
  go_wp2
  go_loopw [5] (fun i wr => ∃ k : Nat, k ≤ l.length ∧ i = .int .i64 k ∧ Below w.heap.size w wr) (fun i _ => l.length - (intOf i).toNat)
  case atStart => exact ⟨0, Nat.zero_le _, rfl, Below.refl _ _⟩
  case round =>
    obtain ⟨k, hk, rfl, hbel⟩ := hrel
    by_cases hlt : k < l.length
    · obtain ⟨x, hx⟩ : ∃ x, l[k]? = some x := ⟨_, List.getElem?_eq_getElem hlt⟩
      have hx' : (Nm.bys l)[k]? = some (.int .u8 x.toNat) := by simp [Nm.bys, hx]
      obtain ⟨b, off, rfl, hcell⟩ := hc (by omega)
      obtain ⟨b', off', rfl, hcell'⟩ := hc' (by omega)
      have hcx : wr.cell? ⟨b, off + k, none⟩ = some (.int .u8 x.toNat) := (hbel.cell (World.block_lt_of_cell? w _ (hcell k _ hx'))).trans (hcell k _ hx')
      have hcx' : wr.cell? ⟨b', off' + k, none⟩ = some (.int .u8 x.toNat) := (hbel.cell (World.block_lt_of_cell? w _ (hcell' k _ hx'))).trans (hcell' k _ hx')
      have hxx : ((x.toNat : Int) != (x.toNat : Int)) = false := by simp
      have i1 : (k : Int) < (l.length : Int) := by omega
      clear hx hx' hcell hcell' hc hc'
      go_wp2
      go_region
      all_goals
        go_wp2
        go_roundw
        case rel => exact ⟨k + 1, by omega, by go_num, hbel.drew⟩
        case measure => simp [intOf]; omega
    · obtain rfl : k = l.length := by omega
      have i1 : (l.length : Int) ≤ (l.length : Int) := by omega
      clear hc hc'
      go_wp2
      go_ret
      exact ⟨rfl, hbel⟩

/-- The marks: 1, 2, .. as bytes. -/
def bmk (n : Nat) : List Value := (List.range n).map fun i : Nat => .int .u8 ((1 + (i : Int)) % 256)
theorem bmk_len (n : Nat) : (bmk n).length = n := by simp [bmk]
theorem bmk_get {n i : Nat} (h : i < n) : (bmk n)[i]? = some (.int .u8 ((1 + (i : Int)) % 256)) := by simp [bmk, h]
theorem take_set {L xs : List Value} {n i : Nat} {v : Value} (hL : L.length = n) (hx : xs.length = n) (hi : i < n) (hv : L[i]? = some v) : (L.take i ++ xs.drop i).set i v = L.take (i + 1) ++ xs.drop (i + 1) := by
  have h1 : (L.take i).length = i := by simp; omega
  obtain ⟨h2, e2⟩ := List.getElem?_eq_some_iff.1 hv
  rw [List.take_succ_eq_append_getElem h2, e2, List.set_append_right _ _ (by omega), h1, List.drop_eq_getElem_cons (by omega : i < xs.length), Nat.sub_self, List.set_cons_zero, List.append_assoc]
  rfl

set_option maxRecDepth 100000 in
set_option maxHeartbeats 1600000 in
theorem markBy_any (v : Value) (n B : Nat) (xs : List Value) (w : World) (hown : w.ownsRow B 5 1 v n xs) (hn : n ≤ 1048576) :
    Calls Try.prog 9 #[v, .int .i64 1] w fun e w' => e = .returned (.int .i64 (1 + (n : Int))) ∧ w'.ownsRow B 5 1 v n (bmk n) ∧ w.grownBy w' v.ownBlock := by
  have hxl : xs.length = n := by have := hown.1; omega
  rcases Nat.eq_zero_or_pos n with h0 | hpos
  · subst h0
    obtain ⟨a, cap, rfl⟩ : ∃ a cap, v = .slice a 0 cap := by
      rcases hown.2 with ⟨rfl, _⟩ | ⟨g, cap, cur, rfl, _⟩
      · exact ⟨_, _, rfl⟩
      · exact ⟨_, _, rfl⟩
    have hx0 : xs = bmk 0 := List.eq_nil_of_length_eq_zero hxl
    rw [hx0] at hown
    go_enter Try.func9, Try.ntmps9
    go_wp2
    go_loop [1, 5] (fun t i => t = .int .i64 1 ∧ i = .int .i64 0) (fun _ _ => 0)
    case atStart => exact ⟨rfl, rfl⟩
    case round =>
      obtain ⟨rfl, rfl⟩ := hrel
      go_wp2
      go_ret
      exact ⟨rfl, hown, World.grownBy.refl _ _⟩
  · obtain ⟨g, cap, rfl, hBg⟩ : ∃ g cap, v = .slice (some ⟨g, 0, none⟩) n cap ∧ B ≤ g := by
      rcases hown.2 with ⟨rfl, h0⟩ | ⟨g, cap, cur, rfl, hb, _⟩
      · omega
      · exact ⟨g, cap, rfl, hb⟩
    have hown0 : w.ownsRow B 5 1 (.slice (some ⟨g, 0, none⟩) n cap) n ((bmk n).take 0 ++ xs.drop 0) := by simpa using hown
    go_enter Try.func9, Try.ntmps9
    go_wp2
    go_loopw [1, 5] (fun t i wr => ∃ (j : Nat), j ≤ n ∧ i = .int .i64 (j : Int) ∧ t = .int .i64 (1 + (j : Int)) ∧ wr.ownsRow B 5 1 (.slice (some ⟨g, 0, none⟩) n cap) n ((bmk n).take j ++ xs.drop j) ∧ w.grownBy wr (some g))
      (fun _ i _ => n - (intOf i).toNat)
    case atStart => exact ⟨0, Nat.zero_le _, rfl, rfl, hown0, World.grownBy.refl _ _⟩
    case round =>
      obtain ⟨j, hj, rfl, rfl, hownj, hgr⟩ := hrel
      clear hown hown0
      by_cases hlt : j < n
      · have hyl : ((bmk n).take j ++ xs.drop j).length = n := by have := hownj.1; omega
        obtain ⟨y, hy⟩ : ∃ y, wr.cell? ⟨g, j, none⟩ = some y := by
          rw [hownj.cellAt j (by omega)]
          exact ⟨_, List.getElem?_eq_getElem (by omega)⟩
        have hfz := hownj.frozenAt j
        have HS : Hid ((wr.setCell ⟨g, j, none⟩ (.int .u8 ((1 + (j : Int)) % 256))).ownsRow B 5 1 (.slice (some ⟨g, 0, none⟩) n cap) n ((bmk n).take (j + 1) ++ xs.drop (j + 1)) ∧ w.grownBy (wr.setCell ⟨g, j, none⟩ (.int .u8 ((1 + (j : Int)) % 256))) (some g)) := by
          refine ⟨?_, ⟨hgr.os, hgr.tape, hgr.output, by simpa using hgr.size, fun q hq hne => by rw [heap_setCell_other wr ⟨g, j, none⟩ q _ (fun e => hne (by simp [e]))]; exact hgr.block q hq hne⟩⟩
          have := (hownj.stored j (.int .u8 ((1 + (j : Int)) % 256))).1
          rwa [take_set (bmk_len n) hxl hlt (bmk_get hlt)] at this
        have i1 : (j : Int) < (n : Int) := by omega
        have e9 : 1 + (j : Int) + 1 = 1 + ((j : Int) + 1) := by omega
        clear hownj hgr hyl
        go_wp2
        go_roundw
        case rel => exact ⟨j + 1, by omega, by go_num, by go_num, HS.out.1, HS.out.2⟩
        case measure => simp [intOf]; omega
      · obtain rfl : j = n := by omega
        have i1 : (j : Int) ≤ (j : Int) := by omega
        rw [List.take_of_length_le (by rw [bmk_len]; omega), List.drop_of_length_le (by omega), List.append_nil] at hownj
        go_wp2
        go_ret
        exact ⟨rfl, hownj, hgr⟩

set_option maxRecDepth 100000 in
set_option maxHeartbeats 1600000 in
theorem heldBy_any (v : Value) (n : Nat) (w : World) (h : CRow w v n 1 (bmk n)) (hn : n ≤ 1048576) :
    Calls Try.prog 12 #[v, .int .i64 1] w fun e w' => e = .returned (.int .i64 (1 + (n : Int))) ∧ Below w.heap.size w w' := by
  obtain ⟨_, a, cap, rfl, hcap, hmx, hc⟩ := h
  unfold maxLen at hmx
  go_enter Try.func12, Try.ntmps12
  go_wp2
  go_loopw [1, 5] (fun t i wr => ∃ k : Nat, k ≤ n ∧ i = .int .i64 k ∧ t = .int .i64 (1 + (k : Int)) ∧ Below w.heap.size w wr) (fun _ i _ => n - (intOf i).toNat)
  case atStart => exact ⟨0, Nat.zero_le _, rfl, rfl, Below.refl _ _⟩
  case round =>
    obtain ⟨k, hk, rfl, rfl, hbel⟩ := hrel
    by_cases hlt : k < n
    · obtain ⟨b, off, rfl, hcell⟩ := hc (by omega)
      have hcx := (hbel.cell (World.block_lt_of_cell? w _ (hcell k _ (bmk_get hlt)))).trans (hcell k _ (bmk_get hlt))
      have hxx : ((1 + (k : Int)) % 256 != (1 + (k : Int)) % 256) = false := by simp
      have i1 : (k : Int) < (n : Int) := by omega
      clear hcell hc
      go_wp2
      go_roundw
      case rel => exact ⟨k + 1, by omega, by go_num, by go_num, hbel⟩
      case measure => simp [intOf]; omega
    · obtain rfl : k = n := by omega
      have i1 : (k : Int) ≤ (k : Int) := by omega
      clear hc
      go_wp2
      go_ret
      exact ⟨rfl, hbel⟩
end Go.Proofs.Ytlgeeidbclnhbaa
