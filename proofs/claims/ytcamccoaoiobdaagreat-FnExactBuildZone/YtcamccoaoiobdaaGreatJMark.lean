import Derived.Test.YtcamccoaoiobdaaGreatJBzE
import Derived.Test.YtcamccoaoiobdaaGreatJMath
import Derived.RegionTactic
import Derived.BigRegion
import Derived.Deep.RegionHeld3
import Derived.Test.YtcamccoaoiobdaaGreatJTbAI
/- laws.markStringS, heldStringS by their contracts. -/
namespace Go.Proofs.YtcamccoaoiobdaaGreat
open Go.RowKit

/-- The marks from number k on, n of them. -/
def mks (k n : Nat) : List ByteArray := (List.range n).map (fun i => mkS (k + i))

theorem mks_get {k n i : Nat} (h : i < n) : (mks k n)[i]? = some (mkS (k + i)) := by simp [mks, h]
theorem mks_len (k n : Nat) : (mks k n).length = n := by simp [mks]

theorem mks_set {k n i : Nat} {xs : List Value} (hl : xs.length = n) (h : i < n) :
    (((mks k n).take i).map Value.string ++ xs.drop i).set i (.string (mkS (k + i))) = ((mks k n).take (i + 1)).map Value.string ++ xs.drop (i + 1) := by
  have h1 : (((mks k n).take i).map Value.string).length = i := by simp [mks_len]; omega
  rw [Nm.take_step (mks_get h), List.set_append_right _ _ (by omega), h1, List.drop_eq_getElem_cons (by omega : i < xs.length), Nat.sub_self, List.set_cons_zero, List.map_append, List.append_assoc]
  rfl

set_option maxRecDepth 100000 in
set_option maxHeartbeats 800000 in
theorem markStringS_any (v : Value) (n B k : Nat) (xs : List Value) (w : World) (hown : w.ownsRow B 9 1 v n xs) (hB : B ≤ w.heap.size) (hn : n ≤ 1000000) (hk : k ≤ 1000000) :
    Calls Tryz.prog 56 #[v, .int .i64 (k : Int)] w fun e w' => e = .returned (.int .i64 ((k + n : Nat) : Int)) ∧ w'.ownsRow B 9 1 v n ((mks k n).map Value.string) ∧ Below B w w' := by
  have hxl : xs.length = n := by have := hown.1; omega
  rcases Nat.eq_zero_or_pos n with h0 | hpos
  · subst h0
    obtain ⟨a, cap, rfl⟩ : ∃ a cap, v = .slice a 0 cap := by
      rcases hown.2 with ⟨rfl, _⟩ | ⟨g, cap, cur, rfl, _⟩
      · exact ⟨_, _, rfl⟩
      · exact ⟨_, _, rfl⟩
    have hx0 : xs = [] := List.length_eq_zero_iff.1 hxl
    subst hx0
    go_enter Tryz.func56, Tryz.ntmps56
    go_wp2
    go_loop [1, 5] (fun t i => t = .int .i64 (k : Int) ∧ i = .int .i64 0) (fun _ _ => 0)
    case atStart => exact ⟨rfl, rfl⟩
    case round =>
      obtain ⟨rfl, rfl⟩ := hrel
      go_wp2
      go_ret
      exact ⟨rfl, by simpa [mks] using hown, Below.refl _ _⟩
  · obtain ⟨g, cap, rfl, hBg⟩ : ∃ g cap, v = .slice (some ⟨g, 0, none⟩) n cap ∧ B ≤ g := by
      rcases hown.2 with ⟨rfl, h0⟩ | ⟨g, cap, cur, rfl, hb, _⟩
      · omega
      · exact ⟨g, cap, rfl, hb⟩
    go_enter Tryz.func56, Tryz.ntmps56
    go_wp2
    go_loopw [1, 5] (fun t i wr => ∃ j : Nat, j ≤ n ∧ i = .int .i64 (j : Int) ∧ t = .int .i64 ((k + j : Nat) : Int) ∧ wr.ownsRow B 9 1 (.slice (some ⟨g, 0, none⟩) n cap) n (((mks k n).take j).map Value.string ++ xs.drop j) ∧ Below B w wr)
      (fun _ i _ => n - (intOf i).toNat)
    case atStart => exact ⟨0, Nat.zero_le _, rfl, rfl, by simpa using hown, Below.refl _ _⟩
    case round =>
      obtain ⟨j, hj, rfl, rfl, hownj, hbel⟩ := hrel
      have hszj := hbel.size
      clear hown
      by_cases hlt : j < n
      · have HSET := Nm.hide (mks_set (k := k) hxl hlt)
        obtain ⟨y, hy⟩ : ∃ y, wr.cell? ⟨g, j, none⟩ = some y := by
          rw [hownj.cellAt j (by omega)]
          exact ⟨_, List.getElem?_eq_getElem (by simp [mks_len]; omega)⟩
        go_wp2_with (go_at_call 27; refine (markText_any (k + j) _ (by omega)).mono ?_; rintro e w3 ⟨rfl, hbel3⟩; have hown3 := hownj.kept (w' := w3) (row := none) ⟨hbel3.os, hbel3.tape, hbel3.output, hbel3.size, fun k hk _ => hbel3.block k hk⟩ (.inr (by simp [Value.ownBlock])); have hst := hown3.stored j (.string (mkS (k + j))); rw [HSET.out] at hst; have hfz := hown3.frozenAt j; have hc3 : w3.cell? ⟨g, j, none⟩ = some y := (hbel3.cell (World.block_lt_of_cell? wr _ hy)).trans hy; have HR := Nm.hide hst; have HB : Hid (Below B w (w3.setCell ⟨g, j, none⟩ (.string (mkS (k + j))))) := (hbel.trans (hbel3.mono (by omega))).setCell hBg _; clear hst hown3)
        go_roundw
        case rel => exact ⟨j + 1, by omega, by go_num, by go_num, HR.out.1, HB.out⟩
        case measure => simp [intOf]; omega
      · have hje : j = n := by omega
        subst hje
        have HR : Hid (wr.ownsRow B 9 1 (.slice (some ⟨g, 0, none⟩) j cap) j ((mks k j).map Value.string)) := by
          show wr.ownsRow _ _ _ _ _ _
          rw [List.take_of_length_le (by rw [mks_len]; omega), List.drop_of_length_le (by omega), List.append_nil] at hownj
          exact hownj
        clear hownj
        go_wp2
        go_ret
        exact ⟨rfl, HR.out, hbel⟩

set_option maxRecDepth 100000 in
set_option maxHeartbeats 800000 in
theorem heldStringS_any (v : Value) (n k : Nat) (w : World) (h : Nm.SRow w v (mks k n)) (hn : n ≤ 1000000) (hk : k ≤ 1000000) :
    Calls Tryz.prog 57 #[v, .int .i64 (k : Int)] w fun e w' => e = .returned (.int .i64 ((k + n : Nat) : Int)) ∧ Below w.heap.size w w' := by
  obtain ⟨a, cap, rfl, hcap, hmx, hnl, hc⟩ := h
  rw [mks_len] at *
  go_enter Tryz.func57, Tryz.ntmps57
  go_wp2
  go_loopw [1, 5] (fun t i wr => ∃ j : Nat, j ≤ n ∧ i = .int .i64 (j : Int) ∧ t = .int .i64 ((k + j : Nat) : Int) ∧ Below w.heap.size w wr)
    (fun _ i _ => n - (intOf i).toNat)
  case atStart => exact ⟨0, Nat.zero_le _, rfl, rfl, Below.refl _ _⟩
  case round =>
    obtain ⟨j, hj, rfl, rfl, hbel⟩ := hrel
    by_cases hlt : j < n
    · obtain ⟨b, off, rfl, hcell⟩ := hc (by intro h; have := mks_len k n; rw [h] at this; simp at this; omega)
      have hx2 := hcell j _ (mks_get hlt)
      have hcx : wr.cell? ⟨b, off + j, none⟩ = some (.string (mkS (k + j))) := (hbel.cell (World.block_lt_of_cell? w _ hx2)).trans hx2
      have hmt : ∀ W : World, (W.cell? ⟨b, off + j, none⟩ = some (.string (mkS (k + j))) ∧ Below w.heap.size w W) → Calls Tryz.prog 27 #[.int .i64 ((k : Int) + (j : Int))] W fun e w' => e = .returned (.string (mkS (k + j))) ∧ (w'.cell? ⟨b, off + j, none⟩ = some (.string (mkS (k + j))) ∧ Below w.heap.size w w') := by
        intro W hS
        have hm := markText_any (k + j) W (by omega)
        rw [show (((k + j : Nat)) : Int) = (k : Int) + (j : Int) by omega] at hm
        refine hm.mono ?_
        rintro e w' ⟨rfl, hbs⟩
        exact ⟨rfl, (hbs.cell (World.block_lt_of_cell? W _ hS.1)).trans hS.1, hS.2.trans (hbs.mono hS.2.size)⟩
      have hS0 : wr.drew.cell? ⟨b, off + j, none⟩ = some (.string (mkS (k + j))) ∧ Below w.heap.size w wr.drew := ⟨hcx, hbel.drew⟩
      have i1 : (0 : Int) ≤ (j : Int) := by omega
      have i2 : (j : Int) < (n : Int) := by omega
      have hbq : ((mkS (k + j)).toList == (mkS (k + j)).toList) = true := by simp
      generalize mkS (k + j) = x at *
      clear hc hcell hx2
      go_wp2
      go_region_held3 (fun w' => w'.cell? ⟨b, off + j, none⟩ = some (.string x) ∧ Below w.heap.size w w') (first | assumption | exact hS0) ((first | (go_at_call 27; refine (hmt _ (by first | assumption | exact hS0)).mono ?_; rintro e w' ⟨rfl, hS1⟩)))
      go_wp2
      go_roundw
      case rel => exact ⟨j + 1, by omega, by go_num, by go_num, hS1.2⟩
      case measure => simp [intOf]; omega
    · have hje : j = n := by omega
      subst hje
      clear hc
      go_wp2
      go_ret
      exact ⟨rfl, hbel⟩
end Go.Proofs.YtcamccoaoiobdaaGreat
/- laws.markRRS by its contract. -/
namespace Go.Proofs.YtcamccoaoiobdaaGreat
open Go.RowKit
set_option linter.unusedVariables false

theorem mr_below {w w1 w2 : World} {g : Nat} (h : w.grownBy w1 (some g)) (h2 : Below w1.heap.size w1 w2) : w.grownBy w2 (some g) :=
  ⟨h2.os.trans h.os, h2.tape.trans h.tape, h2.output.trans h.output, Nat.le_trans h.size h2.size, fun k hk hne =>
    (h2.block k (Nat.lt_of_lt_of_le hk h.size)).trans (h.block k hk hne)⟩
theorem mr_ne (s : ByteArray) : (s.toList != s.toList) = false ∧ (s.toList == s.toList) = true := by simp

/-- The marks of cells: number k + i at cell i, a text or a number. -/
def mkQ (k i : Nat) : Value := if i % 3 = 0 then .string (mkS (k + i)) else .int .i64 ((k + i : Nat) : Int)
def mkR (k i : Nat) : Value := if i % 5 = 0 ∨ i % 5 = 4 then .string (mkS (k + i)) else .int .i64 ((k + i : Nat) : Int)
def mkL (f : Nat → Nat → Value) (k m : Nat) : List Value := (List.range m).map (f k)

theorem mkL_len (f : Nat → Nat → Value) (k m : Nat) : (mkL f k m).length = m := by simp [mkL]
theorem mkL_get {f : Nat → Nat → Value} {k m i : Nat} (h : i < m) : (mkL f k m)[i]? = some (f k i) := by simp [mkL, h]
theorem mkL_set {f : Nat → Nat → Value} {k m i : Nat} {xs : List Value} (hl : xs.length = m) (h : i < m) :
    ((mkL f k m).take i ++ xs.drop i).set i (f k i) = (mkL f k m).take (i + 1) ++ xs.drop (i + 1) := by
  apply List.ext_getElem?
  intro j
  have h1 : ((mkL f k m).take i).length = i := by rw [List.length_take, mkL_len]; omega
  have h2 : ((mkL f k m).take (i + 1)).length = i + 1 := by rw [List.length_take, mkL_len]; omega
  rw [List.getElem?_set]
  by_cases e : i = j
  · subst e
    rw [if_pos rfl, if_pos (by rw [List.length_append, h1, List.length_drop]; omega), List.getElem?_append_left (by omega), List.getElem?_take, if_pos (by omega), mkL_get h]
  · rw [if_neg e]
    by_cases e2 : j < i
    · rw [List.getElem?_append_left (by omega), List.getElem?_append_left (by omega), List.getElem?_take, List.getElem?_take, if_pos e2, if_pos (by omega)]
    · rw [List.getElem?_append_right (by omega), List.getElem?_append_right (by omega), h1, h2, List.getElem?_drop, List.getElem?_drop]
      congr 1
      omega
theorem mkL_cell {f : Nat → Nat → Value} {k m i j : Nat} {xs : List Value} (hl : xs.length = m) (h : j < m) : ∃ y, ((mkL f k m).take i ++ xs.drop i)[j]? = some y :=
  ⟨_, List.getElem?_eq_getElem (by rw [List.length_append, List.length_take, mkL_len, List.length_drop]; omega)⟩
theorem mkL_done {f : Nat → Nat → Value} {k m : Nat} {xs : List Value} (hl : xs.length = m) : (mkL f k m).take m ++ xs.drop m = mkL f k m := by
  rw [List.take_of_length_le (by rw [mkL_len]; omega), List.drop_eq_nil_of_le (by omega), List.append_nil]

set_option maxRecDepth 100000 in
set_option maxHeartbeats 1600000 in
theorem markRRS_any (v : Value) (n B k : Nat) (xs : List Value) (w : World) (hown : w.ownsRow B 42 5 v n xs) (hB : B ≤ w.heap.size) (hn : n ≤ 1100000) (hk : k ≤ 10000000) :
    Calls Tryz.prog 10 #[v, .int .i64 (k : Int)] w fun e w' => e = .returned (.int .i64 ((k + n * 5 : Nat) : Int)) ∧ w'.ownsRow B 42 5 v n (mkL mkR k (n * 5)) ∧ w.grownBy w' v.ownBlock := by
  have hxl : xs.length = n * 5 := hown.1
  rcases Nat.eq_zero_or_pos n with h0 | hpos
  · subst h0
    obtain ⟨a, cap, rfl⟩ : ∃ a cap, v = .slice a 0 cap := by
      rcases hown.2 with ⟨rfl, _⟩ | ⟨g, cap, cur, rfl, _⟩
      · exact ⟨_, _, rfl⟩
      · exact ⟨_, _, rfl⟩
    have hx0 : xs = [] := List.length_eq_zero_iff.1 (by omega)
    subst hx0
    go_enter Tryz.func10, Tryz.ntmps10
    go_wp2
    go_loop [1, 5] (fun t i => t = .int .i64 (k : Int) ∧ i = .int .i64 0) (fun _ _ => 0)
    case atStart => exact ⟨rfl, rfl⟩
    case round =>
      obtain ⟨rfl, rfl⟩ := hrel
      go_wp2
      go_ret
      exact ⟨rfl, by simpa [mkL] using hown, World.grownBy.refl _ _⟩
  · obtain ⟨g, cap, rfl, hBg⟩ : ∃ g cap, v = .slice (some ⟨g, 0, none⟩) n cap ∧ B ≤ g := by
      rcases hown.2 with ⟨rfl, h0⟩ | ⟨g, cap, cur, rfl, hb, _⟩
      · omega
      · exact ⟨g, cap, rfl, hb⟩
    have hglt := (hown.lt g rfl).2
    go_enter Tryz.func10, Tryz.ntmps10
    go_wp2
    go_loopw [1, 5] (fun t i wr => ∃ j : Nat, j ≤ n ∧ i = .int .i64 (j : Int) ∧ t = .int .i64 ((k + j * 5 : Nat) : Int) ∧ wr.ownsRow B 42 5 (.slice (some ⟨g, 0, none⟩) n cap) n ((mkL mkR k (n * 5)).take (j * 5) ++ xs.drop (j * 5)) ∧ w.grownBy wr (some g))
      (fun _ i _ => n - (intOf i).toNat)
    case atStart => exact ⟨0, Nat.zero_le _, rfl, rfl, by simpa using hown, World.grownBy.refl _ _⟩
    case round =>
      obtain ⟨j, hj, rfl, rfl, hownj, hgr⟩ := hrel
      clear hown
      by_cases hlt : j < n
      · have s0 := mkL_set (f := mkR) (k := k) hxl (i := j * 5) (by omega)
        have s1 := mkL_set (f := mkR) (k := k) hxl (i := j * 5 + 1) (by omega)
        have s2 := mkL_set (f := mkR) (k := k) hxl (i := j * 5 + 2) (by omega)
        have s3 := mkL_set (f := mkR) (k := k) hxl (i := j * 5 + 3) (by omega)
        have s4 := mkL_set (f := mkR) (k := k) hxl (i := j * 5 + 4) (by omega)
        have m0 : mkR k (j * 5) = .string (mkS (k + j * 5)) := by rw [mkR, if_pos (by omega)]
        have m1 : mkR k (j * 5 + 1) = .int .i64 ((k : Int) + (j : Int) * 5 + 1) := by rw [mkR, if_neg (by omega)]; congr 1 <;> omega
        have m2 : mkR k (j * 5 + 2) = .int .i64 ((k : Int) + (j : Int) * 5 + 1 + 1) := by rw [mkR, if_neg (by omega)]; congr 1 <;> omega
        have m3 : mkR k (j * 5 + 3) = .int .i64 ((k : Int) + (j : Int) * 5 + 1 + 1 + 1) := by rw [mkR, if_neg (by omega)]; congr 1 <;> omega
        have m4 : mkR k (j * 5 + 4) = .string (mkS (k + j * 5 + 1 + 1 + 1 + 1)) := by rw [mkR, if_pos (by omega)]; congr 1
        rw [m0] at s0
        rw [m1] at s1
        rw [m2] at s2
        rw [m3] at s3
        rw [m4] at s4
        have hmt := fun W => markText_any (k + j * 5) W (by omega)
        rw [show (((k + j * 5 : Nat)) : Int) = (k : Int) + (j : Int) * 5 by omega] at hmt
        have hmt4 := fun W => markText_any (k + j * 5 + 1 + 1 + 1 + 1) W (by omega)
        rw [show (((k + j * 5 + 1 + 1 + 1 + 1 : Nat)) : Int) = (k : Int) + (j : Int) * 5 + 1 + 1 + 1 + 1 by omega] at hmt4
        have hg : ∀ (V : World) i u, w.grownBy V (some g) → w.grownBy (V.setCell ⟨g, i, none⟩ u) (some g) := fun V i u h =>
          ⟨h.os, h.tape, h.output, by simpa using h.size, fun q hq hne => by rw [heap_setCell_other V ⟨g, i, none⟩ q _ (fun e => hne (by simp [e]))]; exact h.block q hq hne⟩
        have HST : Hid (∀ W, Below wr.heap.size wr W → (∃ y, W.cell? ⟨g, j * 5, none⟩ = some y) ∧ W.frozen? ⟨g, j * 5, none⟩ = false ∧ (∃ y, (W.setCell ⟨g, j * 5, none⟩ (.string (mkS (k + j * 5)))).cell? ⟨g, j * 5 + 1, none⟩ = some y) ∧ (∃ y, ((W.setCell ⟨g, j * 5, none⟩ (.string (mkS (k + j * 5)))).setCell ⟨g, j * 5 + 1, none⟩ (.int .i64 ((k : Int) + (j : Int) * 5 + 1))).cell? ⟨g, j * 5 + 2, none⟩ = some y) ∧ (∃ y, (((W.setCell ⟨g, j * 5, none⟩ (.string (mkS (k + j * 5)))).setCell ⟨g, j * 5 + 1, none⟩ (.int .i64 ((k : Int) + (j : Int) * 5 + 1))).setCell ⟨g, j * 5 + 2, none⟩ (.int .i64 ((k : Int) + (j : Int) * 5 + 1 + 1))).cell? ⟨g, j * 5 + 3, none⟩ = some y) ∧ W.frozen? ⟨g, j * 5 + 1, none⟩ = false ∧ W.frozen? ⟨g, j * 5 + 2, none⟩ = false ∧ W.frozen? ⟨g, j * 5 + 3, none⟩ = false ∧
            (((((W.setCell ⟨g, j * 5, none⟩ (.string (mkS (k + j * 5)))).setCell ⟨g, j * 5 + 1, none⟩ (.int .i64 ((k : Int) + (j : Int) * 5 + 1))).setCell ⟨g, j * 5 + 2, none⟩ (.int .i64 ((k : Int) + (j : Int) * 5 + 1 + 1))).setCell ⟨g, j * 5 + 3, none⟩ (.int .i64 ((k : Int) + (j : Int) * 5 + 1 + 1 + 1))).ownsRow B 42 5 (.slice (some ⟨g, 0, none⟩) n cap) n ((mkL mkR k (n * 5)).take (j * 5 + 3 + 1) ++ xs.drop (j * 5 + 3 + 1)) ∧ w.grownBy ((((W.setCell ⟨g, j * 5, none⟩ (.string (mkS (k + j * 5)))).setCell ⟨g, j * 5 + 1, none⟩ (.int .i64 ((k : Int) + (j : Int) * 5 + 1))).setCell ⟨g, j * 5 + 2, none⟩ (.int .i64 ((k : Int) + (j : Int) * 5 + 1 + 1))).setCell ⟨g, j * 5 + 3, none⟩ (.int .i64 ((k : Int) + (j : Int) * 5 + 1 + 1 + 1))) (some g))) := by
          intro W hW
          have h0 := own_below hownj hW
          have o0 := (h0.stored (j * 5) (.string (mkS (k + j * 5)))).1
          rw [s0] at o0
          have o1 := (o0.stored (j * 5 + 1) (.int .i64 ((k : Int) + (j : Int) * 5 + 1))).1
          rw [s1] at o1
          have o2 := (o1.stored (j * 5 + 2) (.int .i64 ((k : Int) + (j : Int) * 5 + 1 + 1))).1
          rw [s2] at o2
          have o3 := (o2.stored (j * 5 + 3) (.int .i64 ((k : Int) + (j : Int) * 5 + 1 + 1 + 1))).1
          rw [s3] at o3
          refine ⟨?_, h0.frozenAt _, ?_, ?_, ?_, h0.frozenAt _, h0.frozenAt _, h0.frozenAt _, o3, ?_⟩
          · rw [h0.cellAt (j * 5) (by omega)]; exact mkL_cell hxl (by omega)
          · rw [o0.cellAt (j * 5 + 1) (by omega)]; exact mkL_cell hxl (by omega)
          · rw [o1.cellAt (j * 5 + 2) (by omega)]; exact mkL_cell hxl (by omega)
          · rw [o2.cellAt (j * 5 + 3) (by omega)]; exact mkL_cell hxl (by omega)
          · exact hg _ _ _ (hg _ _ _ (hg _ _ _ (hg _ _ _ (mr_below hgr hW))))
        have HSU : Hid (∀ V W : World, (V.ownsRow B 42 5 (.slice (some ⟨g, 0, none⟩) n cap) n ((mkL mkR k (n * 5)).take (j * 5 + 3 + 1) ++ xs.drop (j * 5 + 3 + 1)) ∧ w.grownBy V (some g)) → Below V.heap.size V W → (∃ y, W.cell? ⟨g, j * 5 + 4, none⟩ = some y) ∧ W.frozen? ⟨g, j * 5 + 4, none⟩ = false ∧ ((W.setCell ⟨g, j * 5 + 4, none⟩ (.string (mkS (k + j * 5 + 1 + 1 + 1 + 1)))).ownsRow B 42 5 (.slice (some ⟨g, 0, none⟩) n cap) n ((mkL mkR k (n * 5)).take (j * 5 + 4 + 1) ++ xs.drop (j * 5 + 4 + 1)) ∧ w.grownBy (W.setCell ⟨g, j * 5 + 4, none⟩ (.string (mkS (k + j * 5 + 1 + 1 + 1 + 1)))) (some g))) := by
          intro V W hV hW
          have h0 := own_below hV.1 hW
          have o4 := (h0.stored (j * 5 + 4) (.string (mkS (k + j * 5 + 1 + 1 + 1 + 1)))).1
          rw [s4] at o4
          refine ⟨?_, h0.frozenAt _, o4, hg _ _ _ (mr_below hV.2 hW)⟩
          rw [h0.cellAt (j * 5 + 4) (by omega)]; exact mkL_cell hxl (by omega)
        have HE : Hid ((j + 1) * 5 = j * 5 + 4 + 1) := by show _ = _; omega
        generalize mkS (k + j * 5) = ms at *
        generalize mkS (k + j * 5 + 1 + 1 + 1 + 1) = mt at *
        clear s0 s1 s2 s3 s4 m0 m1 m2 m3 m4 hownj hgr hg
        go_wp2_with (first | (go_at_call 27; with_reducible refine (hmt _).mono ?_; rintro e w2 ⟨rfl, hb2⟩; obtain ⟨⟨y0, c0⟩, f0, ⟨y1, c1⟩, ⟨y2, c2⟩, ⟨y3, c3⟩, f1, f2, f3, hx⟩ := HST.out w2 hb2; have HX := Nm.hide hx; clear hx) | (go_at_call 27; with_reducible refine (hmt4 _).mono ?_; rintro e w3 ⟨rfl, hb3⟩; obtain ⟨⟨y4, c4⟩, f4, hx4⟩ := HSU.out _ _ HX.out hb3; have HY := Nm.hide hx4; clear hx4))
        go_roundw
        case rel => exact ⟨j + 1, by omega, by go_num, by go_num, by rw [HE.out]; exact HY.out.1, HY.out.2⟩
        case measure => simp [intOf]; omega
      · have hje : j = n := by omega
        subst hje
        rw [mkL_done hxl] at hownj
        go_wp2
        go_ret
        exact ⟨rfl, hownj, hgr⟩
end Go.Proofs.YtcamccoaoiobdaaGreat
/- laws.markZone and heldZone of a zone's sets of one's own: what they hold. -/
namespace Go.Proofs.YtcamccoaoiobdaaGreat
open Go.RowKit
set_option linter.unusedVariables false

theorem gr_trans {w w1 w2 : World} {row : Option Nat} (h1 : w.grownBy w1 row) (h2 : w1.grownBy w2 row) : w.grownBy w2 row :=
  ⟨h2.os.trans h1.os, h2.tape.trans h1.tape, h2.output.trans h1.output, Nat.le_trans h1.size h2.size, fun k hk hn => (h2.block k (Nat.lt_of_lt_of_le hk h1.size) hn).trans (h1.block k hk hn)⟩
theorem gr_set (W : World) (b i : Nat) (v : Value) : W.grownBy (W.setCell ⟨b, i, none⟩ v) (some b) :=
  ⟨rfl, rfl, rfl, by simp, fun k _ hk => heap_setCell_other W ⟨b, i, none⟩ k _ (fun e => hk (by rw [e]))⟩
theorem gr_refl (w : World) (row : Option Nat) : w.grownBy w row := ⟨rfl, rfl, rfl, Nat.le_refl _, fun _ _ _ => rfl⟩

set_option maxRecDepth 100000 in
set_option maxHeartbeats 800000 in
theorem markStringS_own (v : Value) (n B k : Nat) (xs : List Value) (w : World) (hown : w.ownsRow B 9 1 v n xs) (hn : n ≤ 1000000) (hk : k ≤ 1000000) :
    Calls Tryz.prog 56 #[v, .int .i64 (k : Int)] w fun e w' => e = .returned (.int .i64 ((k + n : Nat) : Int)) ∧ w'.ownsRow B 9 1 v n ((mks k n).map Value.string) ∧ w.grownBy w' v.ownBlock := by
  have hxl : xs.length = n := by have := hown.1; omega
  rcases Nat.eq_zero_or_pos n with h0 | hpos
  · subst h0
    obtain ⟨a, cap, rfl⟩ : ∃ a cap, v = .slice a 0 cap := by
      rcases hown.2 with ⟨rfl, _⟩ | ⟨g, cap, cur, rfl, _⟩
      · exact ⟨_, _, rfl⟩
      · exact ⟨_, _, rfl⟩
    have hx0 : xs = [] := List.length_eq_zero_iff.1 hxl
    subst hx0
    go_enter Tryz.func56, Tryz.ntmps56
    go_wp2
    go_loop [1, 5] (fun t i => t = .int .i64 (k : Int) ∧ i = .int .i64 0) (fun _ _ => 0)
    case atStart => exact ⟨rfl, rfl⟩
    case round =>
      obtain ⟨rfl, rfl⟩ := hrel
      go_wp2
      go_ret
      exact ⟨rfl, by simpa [mks] using hown, gr_refl _ _⟩
  · obtain ⟨g, cap, rfl, hBg⟩ : ∃ g cap, v = .slice (some ⟨g, 0, none⟩) n cap ∧ B ≤ g := by
      rcases hown.2 with ⟨rfl, h0⟩ | ⟨g, cap, cur, rfl, hb, _⟩
      · omega
      · exact ⟨g, cap, rfl, hb⟩
    have eb : (Value.slice (some ⟨g, 0, none⟩) n cap).ownBlock = some g := rfl
    rw [eb]
    clear eb
    go_enter Tryz.func56, Tryz.ntmps56
    go_wp2
    go_loopw [1, 5] (fun t i wr => ∃ j : Nat, j ≤ n ∧ i = .int .i64 (j : Int) ∧ t = .int .i64 ((k + j : Nat) : Int) ∧ wr.ownsRow B 9 1 (.slice (some ⟨g, 0, none⟩) n cap) n (((mks k n).take j).map Value.string ++ xs.drop j) ∧ w.grownBy wr (some g))
      (fun _ i _ => n - (intOf i).toNat)
    case atStart => exact ⟨0, Nat.zero_le _, rfl, rfl, by simpa using hown, gr_refl _ _⟩
    case round =>
      obtain ⟨j, hj, rfl, rfl, hownj, hbel⟩ := hrel
      clear hown
      by_cases hlt : j < n
      · have HSET := Nm.hide (mks_set (k := k) hxl hlt)
        obtain ⟨y, hy⟩ : ∃ y, wr.cell? ⟨g, j, none⟩ = some y := by
          rw [hownj.cellAt j (by omega)]
          exact ⟨_, List.getElem?_eq_getElem (by simp [mks_len]; omega)⟩
        go_wp2_with (go_at_call 27; refine (markText_any (k + j) _ (by omega)).mono ?_; rintro e w3 ⟨rfl, hbel3⟩; have hown3 := hownj.kept (w' := w3) (row := none) ⟨hbel3.os, hbel3.tape, hbel3.output, hbel3.size, fun k hk _ => hbel3.block k hk⟩ (.inr (by simp [Value.ownBlock])); have hst := hown3.stored j (.string (mkS (k + j))); rw [HSET.out] at hst; have hfz := hown3.frozenAt j; have hc3 : w3.cell? ⟨g, j, none⟩ = some y := (hbel3.cell (World.block_lt_of_cell? wr _ hy)).trans hy; have HR := Nm.hide hst; have HB := Nm.hide (gr_trans (mr_below hbel hbel3) (gr_set w3 g j (.string (mkS (k + j))))); clear hst hown3 hownj)
        go_roundw
        case rel => exact ⟨j + 1, by omega, by go_num, by go_num, HR.out.1, HB.out⟩
        case measure => simp [intOf]; omega
      · have hje : j = n := by omega
        subst hje
        have HR : Hid (wr.ownsRow B 9 1 (.slice (some ⟨g, 0, none⟩) j cap) j ((mks k j).map Value.string)) := by
          show wr.ownsRow _ _ _ _ _ _
          rw [List.take_of_length_le (by rw [mks_len]; omega), List.drop_of_length_le (by omega), List.append_nil] at hownj
          exact hownj
        clear hownj
        go_wp2
        go_ret
        exact ⟨rfl, HR.out, hbel⟩

/-- A set marked from k on. -/
def mkZp (k : Nat) (p : Zp) : Zp := (⟨mkS k, ((k + 1 : Nat) : Int), ((k + 2 : Nat) : Int), mks (k + 3) p.1.da.length⟩, p.2)
def mkZ : Nat → List Zp → List Zp
  | _, [] => []
  | k, p :: ps => mkZp k p :: mkZ (k + (p.1.da.length + 3)) ps
theorem mkZ_len : ∀ (ps : List Zp) (k : Nat), (mkZ k ps).length = ps.length := by
  intro ps
  induction ps with
  | nil => intro k; rfl
  | cons p ps ih => intro k; simp [mkZ, ih]
theorem mkZ_get : ∀ (ps : List Zp) (k j : Nat) (p : Zp), ps[j]? = some p → (mkZ k ps)[j]? = some (mkZp (k + zl (ps.take j)) p) := by
  intro ps
  induction ps with
  | nil => intro k j p h; simp at h
  | cons q ps ih =>
    intro k j p h
    cases j with
    | zero =>
      simp at h
      subst h
      simp [mkZ, zl]
    | succ j =>
      simp at h
      rw [mkZ, List.getElem?_cons_succ, ih _ j p h, List.take_succ_cons, zl, Nat.add_assoc]
theorem mixZ_at {k j : Nat} {ps : List Zp} {p : Zp} (h : ps[j]? = some p) : ((mkZ k ps).take j ++ ps.drop j)[j]? = some p := by
  have hj := (List.getElem?_eq_some_iff.1 h).1
  rw [List.getElem?_append_right (by rw [List.length_take, mkZ_len]; omega), List.length_take, mkZ_len, Nat.min_eq_left (by omega), Nat.sub_self, List.getElem?_drop, Nat.add_zero, h]
theorem mixZ_set {k j : Nat} {ps : List Zp} {p : Zp} (h : ps[j]? = some p) : ((mkZ k ps).take j ++ ps.drop j).set j (mkZp (k + zl (ps.take j)) p) = (mkZ k ps).take (j + 1) ++ ps.drop (j + 1) := by
  have hj := List.getElem?_eq_some_iff.1 h
  have hg := mkZ_get ps k j p h
  have hl : ((mkZ k ps).take j).length = j := by rw [List.length_take, mkZ_len]; have := hj.1; omega
  rw [List.set_append_right _ _ (by omega), hl, Nat.sub_self, List.drop_eq_getElem_cons hj.1, List.set_cons_zero]
  have hg2 := List.getElem?_eq_some_iff.1 hg
  rw [List.take_succ_eq_append_getElem hg2.1, hg2.2, List.append_assoc]
  rfl
/-- A cell of a set is written. -/
theorem ZOwn.cell {w : World} {B g cap n j i : Nat} {ps : List Zp} {p q : Zp} {y : Value} (h : ZOwn w B (.slice (some ⟨g, 0, none⟩) n cap) ps) (hn : n = ps.length) (hp : ps[j]? = some p) (hi : i < 3) (hq2 : q.2 = p.2) (hqd : q.1.da = p.1.da) (hz : (zpV p).set i y = zpV q) : ZOwn (w.setCell ⟨g, j * 4 + i, none⟩ y) B (.slice (some ⟨g, 0, none⟩) n cap) (ps.set j q) := by
  have hj := (List.getElem?_eq_some_iff.1 hp).1
  have e1 : (zpVs ps).set (j * 4 + i) y = zpVs (ps.set j q) := by
    obtain ⟨e2, e3⟩ : ps = ps.take j ++ [p] ++ ps.drop (j + 1) ∧ ps.set j q = ps.take j ++ [q] ++ ps.drop (j + 1) := by
      have hj' := List.getElem?_eq_some_iff.1 hp
      constructor
      · conv => lhs; rw [← List.take_append_drop j ps, List.drop_eq_getElem_cons hj'.1, hj'.2]
        simp
      · rw [List.set_eq_take_append_cons_drop, if_pos hj]
        simp
    have hl : (zpVs (ps.take j)).length = j * 4 := by rw [zpVs_len, List.length_take]; omega
    rw [e3]
    conv => lhs; rw [e2]
    have hp4 : (zpV p).length = 4 := rfl
    rw [zpVs_app, zpVs_app, zpVs_app, zpVs_app, List.append_assoc, List.append_assoc, List.set_append_right _ _ (by omega), hl, show j * 4 + i - j * 4 = i by omega]
    congr 1
    have s1 : zpVs [p] = zpV p := by simp [zpVs]
    have s2 : zpVs [q] = zpV q := by simp [zpVs]
    rw [s1, s2, List.set_append_left _ _ (by omega), hz]
  have ho := h.outer
  rw [← hn] at ho
  have hst := ho.stored (j * 4 + i) y
  rw [e1] at hst
  have far : ∀ {v : Value} {n : Nat} {xs : List Value}, w.ownsRow B 9 1 v n xs → (w.setCell ⟨g, j * 4 + i, none⟩ y).ownsRow B 9 1 v n xs := fun hx => own_far hx (own_kindsZ hx ho (by decide) g rfl)
  refine ⟨by rw [List.length_set, ← hn]; exact hst.1, fun m r hr => ?_, fun a b r s hr hs hne => ?_⟩
  · rw [List.getElem?_set] at hr
    by_cases hm : j = m
    · subst hm
      rw [if_pos rfl, if_pos hj] at hr
      obtain rfl := Option.some.inj hr
      have := h.inner j p hp
      rw [hq2, hqd]
      exact far this
    · rw [if_neg hm] at hr
      exact far (h.inner m r hr)
  · have key : ∀ (m : Nat) (r : Zp), (ps.set j q)[m]? = some r → ∃ r', ps[m]? = some r' ∧ r'.2 = r.2 := by
      intro m r hr
      rw [List.getElem?_set] at hr
      by_cases hm : j = m
      · subst hm
        rw [if_pos rfl, if_pos hj] at hr
        obtain rfl := Option.some.inj hr
        exact ⟨p, hp, hq2.symm⟩
      · rw [if_neg hm] at hr
        exact ⟨r, hr, rfl⟩
    obtain ⟨r', h1, h2⟩ := key a r hr
    obtain ⟨s', h3, h4⟩ := key b s hs
    rw [← h2, ← h4]
    exact h.apart a b r' s' h1 h3 hne
/-- The data of a set are written. -/
theorem ZOwn.data {w w1 : World} {B j : Nat} {v : Value} {ps : List Zp} {p : Zp} {da : List ByteArray} (h : ZOwn w B v ps) (hp : ps[j]? = some p) (hl : da.length = p.1.da.length) (ho : w1.ownsRow B 9 1 p.2 p.1.da.length (da.map Value.string)) (hg : w.grownBy w1 p.2.ownBlock) : ZOwn w1 B v (ps.set j ({ p.1 with da := da }, p.2)) := by
  have hj := (List.getElem?_eq_some_iff.1 hp).1
  have hin := h.inner j p hp
  have e1 : zpVs (ps.set j ({ p.1 with da := da }, p.2)) = zpVs ps := by
    have : ∀ (l : List Zp) (i : Nat) (r : Zp), l[i]? = some r → ∀ q, zpV q = zpV r → zpVs (l.set i q) = zpVs l := by
      intro l
      induction l with
      | nil => intro i r h; simp at h
      | cons x l ih =>
        intro i r h q hq
        cases i with
        | zero =>
          simp at h
          subst h
          rw [List.set_cons_zero, zpVs_cons, zpVs_cons, hq]
        | succ i =>
          simp at h
          rw [List.set_cons_succ, zpVs_cons, zpVs_cons, ih i r h q hq]
    exact this ps j p hp _ rfl
  have key : ∀ (m : Nat) (r : Zp), (ps.set j ({ p.1 with da := da }, p.2))[m]? = some r → (m = j ∧ r = ({ p.1 with da := da }, p.2)) ∨ (m ≠ j ∧ ps[m]? = some r) := by
    intro m r hr
    rw [List.getElem?_set] at hr
    by_cases hm : j = m
    · subst hm
      rw [if_pos rfl, if_pos hj] at hr
      exact .inl ⟨rfl, (Option.some.inj hr).symm⟩
    · rw [if_neg hm] at hr
      exact .inr ⟨fun e => hm e.symm, hr⟩
  refine ⟨by rw [e1, List.length_set]; exact own_besideZ h.outer hg (own_kindsZ h.outer hin (by decide)), fun m r hr => ?_, fun a b r s hr hs hne g e => ?_⟩
  · rcases key m r hr with ⟨_, rfl⟩ | ⟨hm, hr⟩
    · simp only [hl]; exact ho
    · exact own_besideZ (h.inner m r hr) hg (fun g e => fun e' => h.apart m j r p hr hp hm g e' e)
  · rcases key a r hr with ⟨ha, rfl⟩ | ⟨ha, hr⟩ <;> rcases key b s hs with ⟨hb, rfl⟩ | ⟨hb, hs⟩
    · omega
    · exact h.apart a b p s (by rw [ha]; exact hp) hs hne g e
    · exact h.apart a b r p hr (by rw [hb]; exact hp) hne g e
    · exact h.apart a b r s hr hs hne g e
end Go.Proofs.YtcamccoaoiobdaaGreat
