/- laws.markStringS, heldStringS by their contracts. -/
import Derived.Test.YtakonfkefoeenacMarkT
namespace Go.Proofs.Ytakonfkefoeenac
open Go.RowKit

/-- The marks from number k on, n of them. -/
def mks (k n : Nat) : List ByteArray := (List.range n).map (fun i => mkS (k + i))

theorem mks_get {k n i : Nat} (h : i < n) : (mks k n)[i]? = some (mkS (k + i)) := by simp [mks, h]
theorem mks_len (k n : Nat) : (mks k n).length = n := by simp [mks]

theorem mks_set {k n i : Nat} {xs : List Value} (hl : xs.length = n) (h : i < n) :
    (((mks k n).take i).map Value.string ++ xs.drop i).set i (.string (mkS (k + i))) = ((mks k n).take (i + 1)).map Value.string ++ xs.drop (i + 1) := by
  have h1 : (((mks k n).take i).map Value.string).length = i := by simp [mks_len]; omega
  rw [Nm.take_step (mks_get h), List.set_append_right _ _ (by omega), h1, List.drop_eq_getElem_cons (by omega : i < xs.length), Nat.sub_self, List.set_cons_zero, List.map_append, List.append_assoc]
  rfl

set_option maxRecDepth 100000 in
set_option maxHeartbeats 800000 in
theorem markStringS_any (v : Value) (n B k : Nat) (xs : List Value) (w : World) (hown : w.ownsRow B 9 1 v n xs) (hB : B ≤ w.heap.size) (hn : n ≤ 1000000) (hk : k ≤ 1000000) :
    Calls Try.prog 16 #[v, .int .i64 (k : Int)] w fun e w' => e = .returned (.int .i64 ((k + n : Nat) : Int)) ∧ w'.ownsRow B 9 1 v n ((mks k n).map Value.string) ∧ Below B w w' := by
  have hxl : xs.length = n := by have := hown.1; omega
  rcases Nat.eq_zero_or_pos n with h0 | hpos
  · subst h0
    obtain ⟨a, cap, rfl⟩ : ∃ a cap, v = .slice a 0 cap := by
      rcases hown.2 with ⟨rfl, _⟩ | ⟨g, cap, cur, rfl, _⟩
      · exact ⟨_, _, rfl⟩
      · exact ⟨_, _, rfl⟩
    have hx0 : xs = [] := List.length_eq_zero_iff.1 hxl
    subst hx0
    go_enter Try.func16, Try.ntmps16
    go_wp2
    go_loop [1, 5] (fun t i => t = .int .i64 (k : Int) ∧ i = .int .i64 0) (fun _ _ => 0)
    case atStart => exact ⟨rfl, rfl⟩
    case round =>
      obtain ⟨rfl, rfl⟩ := hrel
      go_wp2
      go_ret
      exact ⟨rfl, by simpa [mks] using hown, Below.refl _ _⟩
  · obtain ⟨g, cap, rfl, hBg⟩ : ∃ g cap, v = .slice (some ⟨g, 0, none⟩) n cap ∧ B ≤ g := by
      rcases hown.2 with ⟨rfl, h0⟩ | ⟨g, cap, cur, rfl, hb, _⟩
      · omega
      · exact ⟨g, cap, rfl, hb⟩
    go_enter Try.func16, Try.ntmps16
    go_wp2
    go_loopw [1, 5] (fun t i wr => ∃ j : Nat, j ≤ n ∧ i = .int .i64 (j : Int) ∧ t = .int .i64 ((k + j : Nat) : Int) ∧ wr.ownsRow B 9 1 (.slice (some ⟨g, 0, none⟩) n cap) n (((mks k n).take j).map Value.string ++ xs.drop j) ∧ Below B w wr)
      (fun _ i _ => n - (intOf i).toNat)
    case atStart => exact ⟨0, Nat.zero_le _, rfl, rfl, by simpa using hown, Below.refl _ _⟩
    case round =>
      obtain ⟨j, hj, rfl, rfl, hownj, hbel⟩ := hrel
      have hszj := hbel.size
      clear hown
      by_cases hlt : j < n
      · have HSET := Nm.hide (mks_set (k := k) hxl hlt)
        obtain ⟨y, hy⟩ : ∃ y, wr.cell? ⟨g, j, none⟩ = some y := by
          rw [hownj.cellAt j (by omega)]
          exact ⟨_, List.getElem?_eq_getElem (by simp [mks_len]; omega)⟩
        go_wp2_with (go_at_call 29; refine (markText_any (k + j) _ (by omega)).mono ?_; rintro e w3 ⟨rfl, hbel3⟩; have hown3 := hownj.kept (w' := w3) (row := none) ⟨hbel3.os, hbel3.tape, hbel3.output, hbel3.size, fun k hk _ => hbel3.block k hk⟩ (.inr (by simp [Value.ownBlock])); have hst := hown3.stored j (.string (mkS (k + j))); rw [HSET.out] at hst; have hfz := hown3.frozenAt j; have hc3 : w3.cell? ⟨g, j, none⟩ = some y := (hbel3.cell (World.block_lt_of_cell? wr _ hy)).trans hy; have HR := Nm.hide hst; have HB : Hid (Below B w (w3.setCell ⟨g, j, none⟩ (.string (mkS (k + j))))) := (hbel.trans (hbel3.mono (by omega))).setCell hBg _; clear hst hown3)
        go_roundw
        case rel => exact ⟨j + 1, by omega, by go_num, by go_num, HR.out.1, HB.out⟩
        case measure => simp [intOf]; omega
      · have hje : j = n := by omega
        subst hje
        have HR : Hid (wr.ownsRow B 9 1 (.slice (some ⟨g, 0, none⟩) j cap) j ((mks k j).map Value.string)) := by
          show wr.ownsRow _ _ _ _ _ _
          rw [List.take_of_length_le (by rw [mks_len]; omega), List.drop_of_length_le (by omega), List.append_nil] at hownj
          exact hownj
        clear hownj
        go_wp2
        go_ret
        exact ⟨rfl, HR.out, hbel⟩

set_option maxRecDepth 100000 in
set_option maxHeartbeats 800000 in
theorem heldStringS_any (v : Value) (n k : Nat) (w : World) (h : Nm.SRow w v (mks k n)) (hn : n ≤ 1000000) (hk : k ≤ 1000000) :
    Calls Try.prog 17 #[v, .int .i64 (k : Int)] w fun e w' => e = .returned (.int .i64 ((k + n : Nat) : Int)) ∧ Below w.heap.size w w' := by
  obtain ⟨a, cap, rfl, hcap, hmx, hnl, hc⟩ := h
  rw [mks_len] at *
  go_enter Try.func17, Try.ntmps17
  go_wp2
  go_loopw [1, 5] (fun t i wr => ∃ j : Nat, j ≤ n ∧ i = .int .i64 (j : Int) ∧ t = .int .i64 ((k + j : Nat) : Int) ∧ Below w.heap.size w wr)
    (fun _ i _ => n - (intOf i).toNat)
  case atStart => exact ⟨0, Nat.zero_le _, rfl, rfl, Below.refl _ _⟩
  case round =>
    obtain ⟨j, hj, rfl, rfl, hbel⟩ := hrel
    by_cases hlt : j < n
    · obtain ⟨b, off, rfl, hcell⟩ := hc (by intro h; have := mks_len k n; rw [h] at this; simp at this; omega)
      have hx2 := hcell j _ (mks_get hlt)
      have hcx : wr.cell? ⟨b, off + j, none⟩ = some (.string (mkS (k + j))) := (hbel.cell (World.block_lt_of_cell? w _ hx2)).trans hx2
      have hmt : ∀ W : World, (W.cell? ⟨b, off + j, none⟩ = some (.string (mkS (k + j))) ∧ Below w.heap.size w W) → Calls Try.prog 29 #[.int .i64 ((k : Int) + (j : Int))] W fun e w' => e = .returned (.string (mkS (k + j))) ∧ (w'.cell? ⟨b, off + j, none⟩ = some (.string (mkS (k + j))) ∧ Below w.heap.size w w') := by
        intro W hS
        have hm := markText_any (k + j) W (by omega)
        rw [show (((k + j : Nat)) : Int) = (k : Int) + (j : Int) by omega] at hm
        refine hm.mono ?_
        rintro e w' ⟨rfl, hbs⟩
        exact ⟨rfl, (hbs.cell (World.block_lt_of_cell? W _ hS.1)).trans hS.1, hS.2.trans (hbs.mono hS.2.size)⟩
      have hS0 : wr.drew.cell? ⟨b, off + j, none⟩ = some (.string (mkS (k + j))) ∧ Below w.heap.size w wr.drew := ⟨hcx, hbel.drew⟩
      have i1 : (0 : Int) ≤ (j : Int) := by omega
      have i2 : (j : Int) < (n : Int) := by omega
      have hbq : ((mkS (k + j)).toList == (mkS (k + j)).toList) = true := by simp
      generalize mkS (k + j) = x at *
      clear hc hcell hx2
      go_wp2
      go_region_held3 (fun w' => w'.cell? ⟨b, off + j, none⟩ = some (.string x) ∧ Below w.heap.size w w') (first | assumption | exact hS0) ((first | (go_at_call 29; refine (hmt _ (by first | assumption | exact hS0)).mono ?_; rintro e w' ⟨rfl, hS1⟩)))
      go_wp2
      go_roundw
      case rel => exact ⟨j + 1, by omega, by go_num, by go_num, hS1.2⟩
      case measure => simp [intOf]; omega
    · have hje : j = n := by omega
      subst hje
      clear hc
      go_wp2
      go_ret
      exact ⟨rfl, hbel⟩
end Go.Proofs.Ytakonfkefoeenac
