import Derived.Test.YtmaopfagkffccaaGreatJMath
import Derived.Test.YtmaopfagkffccaaGreatMarkT
import Derived.RegionTactic
import Derived.BigRegion
import Derived.Deep.RegionHeld3
/- laws.markRRS by its contract. -/
namespace Go.Proofs.YtmaopfagkffccaaGreat
open Go.RowKit
set_option linter.unusedVariables false

theorem mr_below {w w1 w2 : World} {g : Nat} (h : w.grownBy w1 (some g)) (h2 : Below w1.heap.size w1 w2) : w.grownBy w2 (some g) :=
  ⟨h2.os.trans h.os, h2.tape.trans h.tape, h2.output.trans h.output, Nat.le_trans h.size h2.size, fun k hk hne =>
    (h2.block k (Nat.lt_of_lt_of_le hk h.size)).trans (h.block k hk hne)⟩
theorem mr_ne (s : ByteArray) : (s.toList != s.toList) = false ∧ (s.toList == s.toList) = true := by simp

/-- The marks of cells: number k + i at cell i, a text or a number. -/
def mkQ (k i : Nat) : Value := if i % 3 = 0 then .string (mkS (k + i)) else .int .i64 ((k + i : Nat) : Int)
def mkR (k i : Nat) : Value := if i % 5 = 0 ∨ i % 5 = 4 then .string (mkS (k + i)) else .int .i64 ((k + i : Nat) : Int)
def mkL (f : Nat → Nat → Value) (k m : Nat) : List Value := (List.range m).map (f k)

theorem mkL_len (f : Nat → Nat → Value) (k m : Nat) : (mkL f k m).length = m := by simp [mkL]
theorem mkL_get {f : Nat → Nat → Value} {k m i : Nat} (h : i < m) : (mkL f k m)[i]? = some (f k i) := by simp [mkL, h]
theorem mkL_set {f : Nat → Nat → Value} {k m i : Nat} {xs : List Value} (hl : xs.length = m) (h : i < m) :
    ((mkL f k m).take i ++ xs.drop i).set i (f k i) = (mkL f k m).take (i + 1) ++ xs.drop (i + 1) := by
  apply List.ext_getElem?
  intro j
  have h1 : ((mkL f k m).take i).length = i := by rw [List.length_take, mkL_len]; omega
  have h2 : ((mkL f k m).take (i + 1)).length = i + 1 := by rw [List.length_take, mkL_len]; omega
  rw [List.getElem?_set]
  by_cases e : i = j
  · subst e
    rw [if_pos rfl, if_pos (by rw [List.length_append, h1, List.length_drop]; omega), List.getElem?_append_left (by omega), List.getElem?_take, if_pos (by omega), mkL_get h]
  · rw [if_neg e]
    by_cases e2 : j < i
    · rw [List.getElem?_append_left (by omega), List.getElem?_append_left (by omega), List.getElem?_take, List.getElem?_take, if_pos e2, if_pos (by omega)]
    · rw [List.getElem?_append_right (by omega), List.getElem?_append_right (by omega), h1, h2, List.getElem?_drop, List.getElem?_drop]
      congr 1
      omega
theorem mkL_cell {f : Nat → Nat → Value} {k m i j : Nat} {xs : List Value} (hl : xs.length = m) (h : j < m) : ∃ y, ((mkL f k m).take i ++ xs.drop i)[j]? = some y :=
  ⟨_, List.getElem?_eq_getElem (by rw [List.length_append, List.length_take, mkL_len, List.length_drop]; omega)⟩
theorem mkL_done {f : Nat → Nat → Value} {k m : Nat} {xs : List Value} (hl : xs.length = m) : (mkL f k m).take m ++ xs.drop m = mkL f k m := by
  rw [List.take_of_length_le (by rw [mkL_len]; omega), List.drop_eq_nil_of_le (by omega), List.append_nil]

set_option maxRecDepth 100000 in
set_option maxHeartbeats 1600000 in
theorem markRRS_any (v : Value) (n B k : Nat) (xs : List Value) (w : World) (hown : w.ownsRow B 72 5 v n xs) (hB : B ≤ w.heap.size) (hn : n ≤ 1100000) (hk : k ≤ 10000000) :
    Calls Tryz.prog 27 #[v, .int .i64 (k : Int)] w fun e w' => e = .returned (.int .i64 ((k + n * 5 : Nat) : Int)) ∧ w'.ownsRow B 72 5 v n (mkL mkR k (n * 5)) ∧ w.grownBy w' v.ownBlock := by
  have hxl : xs.length = n * 5 := hown.1
  rcases Nat.eq_zero_or_pos n with h0 | hpos
  · subst h0
    obtain ⟨a, cap, rfl⟩ : ∃ a cap, v = .slice a 0 cap := by
      rcases hown.2 with ⟨rfl, _⟩ | ⟨g, cap, cur, rfl, _⟩
      · exact ⟨_, _, rfl⟩
      · exact ⟨_, _, rfl⟩
    have hx0 : xs = [] := List.length_eq_zero_iff.1 (by omega)
    subst hx0
    go_enter Tryz.func27, Tryz.ntmps27
    go_wp2
    go_loop [1, 5] (fun t i => t = .int .i64 (k : Int) ∧ i = .int .i64 0) (fun _ _ => 0)
    case atStart => exact ⟨rfl, rfl⟩
    case round =>
      obtain ⟨rfl, rfl⟩ := hrel
      go_wp2
      go_ret
      exact ⟨rfl, by simpa [mkL] using hown, World.grownBy.refl _ _⟩
  · obtain ⟨g, cap, rfl, hBg⟩ : ∃ g cap, v = .slice (some ⟨g, 0, none⟩) n cap ∧ B ≤ g := by
      rcases hown.2 with ⟨rfl, h0⟩ | ⟨g, cap, cur, rfl, hb, _⟩
      · omega
      · exact ⟨g, cap, rfl, hb⟩
    have hglt := (hown.lt g rfl).2
    go_enter Tryz.func27, Tryz.ntmps27
    go_wp2
    go_loopw [1, 5] (fun t i wr => ∃ j : Nat, j ≤ n ∧ i = .int .i64 (j : Int) ∧ t = .int .i64 ((k + j * 5 : Nat) : Int) ∧ wr.ownsRow B 72 5 (.slice (some ⟨g, 0, none⟩) n cap) n ((mkL mkR k (n * 5)).take (j * 5) ++ xs.drop (j * 5)) ∧ w.grownBy wr (some g))
      (fun _ i _ => n - (intOf i).toNat)
    case atStart => exact ⟨0, Nat.zero_le _, rfl, rfl, by simpa using hown, World.grownBy.refl _ _⟩
    case round =>
      obtain ⟨j, hj, rfl, rfl, hownj, hgr⟩ := hrel
      clear hown
      by_cases hlt : j < n
      · have s0 := mkL_set (f := mkR) (k := k) hxl (i := j * 5) (by omega)
        have s1 := mkL_set (f := mkR) (k := k) hxl (i := j * 5 + 1) (by omega)
        have s2 := mkL_set (f := mkR) (k := k) hxl (i := j * 5 + 2) (by omega)
        have s3 := mkL_set (f := mkR) (k := k) hxl (i := j * 5 + 3) (by omega)
        have s4 := mkL_set (f := mkR) (k := k) hxl (i := j * 5 + 4) (by omega)
        have m0 : mkR k (j * 5) = .string (mkS (k + j * 5)) := by rw [mkR, if_pos (by omega)]
        have m1 : mkR k (j * 5 + 1) = .int .i64 ((k : Int) + (j : Int) * 5 + 1) := by rw [mkR, if_neg (by omega)]; congr 1 <;> omega
        have m2 : mkR k (j * 5 + 2) = .int .i64 ((k : Int) + (j : Int) * 5 + 1 + 1) := by rw [mkR, if_neg (by omega)]; congr 1 <;> omega
        have m3 : mkR k (j * 5 + 3) = .int .i64 ((k : Int) + (j : Int) * 5 + 1 + 1 + 1) := by rw [mkR, if_neg (by omega)]; congr 1 <;> omega
        have m4 : mkR k (j * 5 + 4) = .string (mkS (k + j * 5 + 1 + 1 + 1 + 1)) := by rw [mkR, if_pos (by omega)]; congr 1
        rw [m0] at s0
        rw [m1] at s1
        rw [m2] at s2
        rw [m3] at s3
        rw [m4] at s4
        have hmt := fun W => markText_any (k + j * 5) W (by omega)
        rw [show (((k + j * 5 : Nat)) : Int) = (k : Int) + (j : Int) * 5 by omega] at hmt
        have hmt4 := fun W => markText_any (k + j * 5 + 1 + 1 + 1 + 1) W (by omega)
        rw [show (((k + j * 5 + 1 + 1 + 1 + 1 : Nat)) : Int) = (k : Int) + (j : Int) * 5 + 1 + 1 + 1 + 1 by omega] at hmt4
        have hg : ∀ (V : World) i u, w.grownBy V (some g) → w.grownBy (V.setCell ⟨g, i, none⟩ u) (some g) := fun V i u h =>
          ⟨h.os, h.tape, h.output, by simpa using h.size, fun q hq hne => by rw [heap_setCell_other V ⟨g, i, none⟩ q _ (fun e => hne (by simp [e]))]; exact h.block q hq hne⟩
        have HST : Hid (∀ W, Below wr.heap.size wr W → (∃ y, W.cell? ⟨g, j * 5, none⟩ = some y) ∧ W.frozen? ⟨g, j * 5, none⟩ = false ∧ (∃ y, (W.setCell ⟨g, j * 5, none⟩ (.string (mkS (k + j * 5)))).cell? ⟨g, j * 5 + 1, none⟩ = some y) ∧ (∃ y, ((W.setCell ⟨g, j * 5, none⟩ (.string (mkS (k + j * 5)))).setCell ⟨g, j * 5 + 1, none⟩ (.int .i64 ((k : Int) + (j : Int) * 5 + 1))).cell? ⟨g, j * 5 + 2, none⟩ = some y) ∧ (∃ y, (((W.setCell ⟨g, j * 5, none⟩ (.string (mkS (k + j * 5)))).setCell ⟨g, j * 5 + 1, none⟩ (.int .i64 ((k : Int) + (j : Int) * 5 + 1))).setCell ⟨g, j * 5 + 2, none⟩ (.int .i64 ((k : Int) + (j : Int) * 5 + 1 + 1))).cell? ⟨g, j * 5 + 3, none⟩ = some y) ∧ W.frozen? ⟨g, j * 5 + 1, none⟩ = false ∧ W.frozen? ⟨g, j * 5 + 2, none⟩ = false ∧ W.frozen? ⟨g, j * 5 + 3, none⟩ = false ∧
            (((((W.setCell ⟨g, j * 5, none⟩ (.string (mkS (k + j * 5)))).setCell ⟨g, j * 5 + 1, none⟩ (.int .i64 ((k : Int) + (j : Int) * 5 + 1))).setCell ⟨g, j * 5 + 2, none⟩ (.int .i64 ((k : Int) + (j : Int) * 5 + 1 + 1))).setCell ⟨g, j * 5 + 3, none⟩ (.int .i64 ((k : Int) + (j : Int) * 5 + 1 + 1 + 1))).ownsRow B 72 5 (.slice (some ⟨g, 0, none⟩) n cap) n ((mkL mkR k (n * 5)).take (j * 5 + 3 + 1) ++ xs.drop (j * 5 + 3 + 1)) ∧ w.grownBy ((((W.setCell ⟨g, j * 5, none⟩ (.string (mkS (k + j * 5)))).setCell ⟨g, j * 5 + 1, none⟩ (.int .i64 ((k : Int) + (j : Int) * 5 + 1))).setCell ⟨g, j * 5 + 2, none⟩ (.int .i64 ((k : Int) + (j : Int) * 5 + 1 + 1))).setCell ⟨g, j * 5 + 3, none⟩ (.int .i64 ((k : Int) + (j : Int) * 5 + 1 + 1 + 1))) (some g))) := by
          intro W hW
          have h0 := own_below hownj hW
          have o0 := (h0.stored (j * 5) (.string (mkS (k + j * 5)))).1
          rw [s0] at o0
          have o1 := (o0.stored (j * 5 + 1) (.int .i64 ((k : Int) + (j : Int) * 5 + 1))).1
          rw [s1] at o1
          have o2 := (o1.stored (j * 5 + 2) (.int .i64 ((k : Int) + (j : Int) * 5 + 1 + 1))).1
          rw [s2] at o2
          have o3 := (o2.stored (j * 5 + 3) (.int .i64 ((k : Int) + (j : Int) * 5 + 1 + 1 + 1))).1
          rw [s3] at o3
          refine ⟨?_, h0.frozenAt _, ?_, ?_, ?_, h0.frozenAt _, h0.frozenAt _, h0.frozenAt _, o3, ?_⟩
          · rw [h0.cellAt (j * 5) (by omega)]; exact mkL_cell hxl (by omega)
          · rw [o0.cellAt (j * 5 + 1) (by omega)]; exact mkL_cell hxl (by omega)
          · rw [o1.cellAt (j * 5 + 2) (by omega)]; exact mkL_cell hxl (by omega)
          · rw [o2.cellAt (j * 5 + 3) (by omega)]; exact mkL_cell hxl (by omega)
          · exact hg _ _ _ (hg _ _ _ (hg _ _ _ (hg _ _ _ (mr_below hgr hW))))
        have HSU : Hid (∀ V W : World, (V.ownsRow B 72 5 (.slice (some ⟨g, 0, none⟩) n cap) n ((mkL mkR k (n * 5)).take (j * 5 + 3 + 1) ++ xs.drop (j * 5 + 3 + 1)) ∧ w.grownBy V (some g)) → Below V.heap.size V W → (∃ y, W.cell? ⟨g, j * 5 + 4, none⟩ = some y) ∧ W.frozen? ⟨g, j * 5 + 4, none⟩ = false ∧ ((W.setCell ⟨g, j * 5 + 4, none⟩ (.string (mkS (k + j * 5 + 1 + 1 + 1 + 1)))).ownsRow B 72 5 (.slice (some ⟨g, 0, none⟩) n cap) n ((mkL mkR k (n * 5)).take (j * 5 + 4 + 1) ++ xs.drop (j * 5 + 4 + 1)) ∧ w.grownBy (W.setCell ⟨g, j * 5 + 4, none⟩ (.string (mkS (k + j * 5 + 1 + 1 + 1 + 1)))) (some g))) := by
          intro V W hV hW
          have h0 := own_below hV.1 hW
          have o4 := (h0.stored (j * 5 + 4) (.string (mkS (k + j * 5 + 1 + 1 + 1 + 1)))).1
          rw [s4] at o4
          refine ⟨?_, h0.frozenAt _, o4, hg _ _ _ (mr_below hV.2 hW)⟩
          rw [h0.cellAt (j * 5 + 4) (by omega)]; exact mkL_cell hxl (by omega)
        have HE : Hid ((j + 1) * 5 = j * 5 + 4 + 1) := by show _ = _; omega
        generalize mkS (k + j * 5) = ms at *
        generalize mkS (k + j * 5 + 1 + 1 + 1 + 1) = mt at *
        clear s0 s1 s2 s3 s4 m0 m1 m2 m3 m4 hownj hgr hg
        go_wp2_with (first | (go_at_call 54; with_reducible refine (hmt _).mono ?_; rintro e w2 ⟨rfl, hb2⟩; obtain ⟨⟨y0, c0⟩, f0, ⟨y1, c1⟩, ⟨y2, c2⟩, ⟨y3, c3⟩, f1, f2, f3, hx⟩ := HST.out w2 hb2; have HX := Nm.hide hx; clear hx) | (go_at_call 54; with_reducible refine (hmt4 _).mono ?_; rintro e w3 ⟨rfl, hb3⟩; obtain ⟨⟨y4, c4⟩, f4, hx4⟩ := HSU.out _ _ HX.out hb3; have HY := Nm.hide hx4; clear hx4))
        go_roundw
        case rel => exact ⟨j + 1, by omega, by go_num, by go_num, by rw [HE.out]; exact HY.out.1, HY.out.2⟩
        case measure => simp [intOf]; omega
      · have hje : j = n := by omega
        subst hje
        rw [mkL_done hxl] at hownj
        go_wp2
        go_ret
        exact ⟨rfl, hownj, hgr⟩
end Go.Proofs.YtmaopfagkffccaaGreat
