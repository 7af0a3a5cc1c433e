/- laws.markWordS, heldWordS by their contracts. -/
import Derived.Test.YtjbdfooppokonaaDoorLkA
import Derived.Test.YtjbdfooppokonaaDoorMarkT
namespace Go.Proofs.YtjbdfooppokonaaDoor
open Go.RowKit
set_option linter.unusedVariables false

theorem gr_of_belowL {w W : World} {b : Option Nat} (h : Below w.heap.size w W) : w.grownBy W b := ⟨h.os, h.tape, h.output, h.size, fun k hk _ => h.block k hk⟩
/-- The mark of a flag. -/
def b3 (k : Nat) : Bool := decide (k % 3 = 0)
theorem b3_int (k : Nat) : ((k : Int) % 3 == 0) = b3 k := by
  rw [b3, Bool.eq_iff_iff]
  simp
  omega
/-- Words marked from k on. -/
def mkWs (k n : Nat) : List Wd := (List.range n).map (fun i => (mkS (k + 2 * i), b3 (k + 2 * i + 1)))
theorem mkWs_len (k n : Nat) : (mkWs k n).length = n := by simp [mkWs]
theorem mkWs_get {k n i : Nat} (h : i < n) : (mkWs k n)[i]? = some (mkS (k + 2 * i), b3 (k + 2 * i + 1)) := by simp [mkWs, h]
theorem wdVs_set : ∀ (ws : List Wd) (j : Nat) (x : Wd), j < ws.length → ((wdVs ws).set (j * 2) (.string x.1)).set (j * 2 + 1) (.bool x.2) = wdVs (ws.set j x) := by
  intro ws
  induction ws with
  | nil => intro j x h; simp at h
  | cons y ws ih =>
    intro j x h
    cases j with
    | zero => simp [wdVs, wdV]
    | succ j =>
      have := ih j x (by simpa using h)
      simp only [wdVs, List.flatMap_cons, List.set_cons_succ] at *
      rw [← this, show (j + 1) * 2 = (wdV y).length + j * 2 by simp [wdV]; omega, List.set_append_right _ _ (by omega), Nat.add_sub_cancel_left, show (wdV y).length + j * 2 + 1 = (wdV y).length + (j * 2 + 1) by omega, List.set_append_right _ _ (by omega), Nat.add_sub_cancel_left]
theorem mixW_set {k j : Nat} {ws : List Wd} (h : j < ws.length) : ((mkWs k ws.length).take j ++ ws.drop j).set j (mkS (k + 2 * j), b3 (k + 2 * j + 1)) = (mkWs k ws.length).take (j + 1) ++ ws.drop (j + 1) := by
  have hl : ((mkWs k ws.length).take j).length = j := by rw [List.length_take, mkWs_len]; omega
  rw [List.set_append_right _ _ (by omega), hl, Nat.sub_self, List.drop_eq_getElem_cons h, List.set_cons_zero]
  have hg := List.getElem?_eq_some_iff.1 (mkWs_get (k := k) h)
  rw [List.take_succ_eq_append_getElem hg.1, hg.2, List.append_assoc]
  rfl

set_option maxRecDepth 100000 in
set_option maxHeartbeats 1600000 in
theorem markWordS_own (v : Value) (ws : List Wd) (B k : Nat) (w : World) (h : w.ownsRow B 62 2 v ws.length (wdVs ws)) (hn : ws.length ≤ 100000) (hk : k ≤ 1000000) :
    Calls Tryd.prog 16 #[v, .int .i64 (k : Int)] w fun e w' => e = .returned (.int .i64 ((k + 2 * ws.length : Nat) : Int)) ∧ w'.ownsRow B 62 2 v ws.length (wdVs (mkWs k ws.length)) ∧ w.grownBy w' v.ownBlock := by
  obtain ⟨a, c, rfl⟩ := own_sl h
  have H0 := Nm.hide h
  have hgex : 0 < ws.length → ∃ g, a = some ⟨g, 0, none⟩ := fun hp => by
    rcases h.2 with ⟨e, h0⟩ | ⟨g, c', cur, e, _⟩
    · omega
    · cases e; exact ⟨g, rfl⟩
  clear h
  go_enter Tryd.func16, Tryd.ntmps16
  go_wp2
  go_loopw [1, 5] (fun t i wr => ∃ j : Nat, j ≤ ws.length ∧ i = .int .i64 (j : Int) ∧ t = .int .i64 ((k : Int) + 2 * (j : Int)) ∧ wr.ownsRow B 62 2 (.slice a ws.length c) ws.length (wdVs ((mkWs k ws.length).take j ++ ws.drop j)) ∧ w.grownBy wr (Value.slice a ws.length c).ownBlock) (fun _ i _ => ws.length - (intOf i).toNat)
  case atStart => exact ⟨0, Nat.zero_le _, rfl, by simp, by simpa using H0.out, gr_refl _ _⟩
  case round =>
    obtain ⟨j, hj, rfl, rfl, ho, hgr⟩ := hrel
    by_cases hlt : j < ws.length
    · obtain ⟨g, rfl⟩ := hgex (by omega)
      have hmt := fun W => markText_any (k + 2 * j) W (by omega)
      rw [show ((k + 2 * j : Nat) : Int) = (k : Int) + 2 * (j : Int) by omega] at hmt
      have HSET : Hid (((wdVs ((mkWs k ws.length).take j ++ ws.drop j)).set (j * 2) (.string (mkS (k + 2 * j)))).set (j * 2 + 1) (.bool (b3 (k + 2 * j + 1))) = wdVs ((mkWs k ws.length).take (j + 1) ++ ws.drop (j + 1))) := by
        show _ = _
        rw [← mixW_set hlt]
        exact wdVs_set _ j (mkS (k + 2 * j), b3 (k + 2 * j + 1)) (by rw [List.length_append, List.length_take, mkWs_len, List.length_drop]; omega)
      have hb3 : (((k : Int) + 2 * (j : Int) + 1) % 3 == 0) = b3 (k + 2 * j + 1) := by rw [← b3_int]; congr 2
      have i1 : (0 : Int) ≤ (j : Int) := by omega
      have i2 : (j : Int) < (ws.length : Int) := by omega
      obtain ⟨y0, hy0⟩ : ∃ y, wr.cell? ⟨g, j * 2, none⟩ = some y := by
        rw [ho.cellAt (j * 2) (by omega)]
        exact ⟨_, List.getElem?_eq_getElem (by rw [wdVs_len, List.length_append, List.length_take, mkWs_len, List.length_drop]; omega)⟩
      obtain ⟨y1, hy1⟩ : ∃ y, wr.cell? ⟨g, j * 2 + 1, none⟩ = some y := by
        rw [ho.cellAt (j * 2 + 1) (by omega)]
        exact ⟨_, List.getElem?_eq_getElem (by rw [wdVs_len, List.length_append, List.length_take, mkWs_len, List.length_drop]; omega)⟩
      generalize b3 (k + 2 * j + 1) = bb at *
      generalize mkS (k + 2 * j) = ms at *
      go_wp2_with (go_at_call 26; refine (hmt _).mono ?_; rintro e w3 ⟨rfl, hb3'⟩; have ho3 := own_below ho hb3'; have z0 := (hb3'.cell (World.block_lt_of_cell? wr _ hy0)).trans hy0; have z1 := (hb3'.cell (World.block_lt_of_cell? wr _ hy1)).trans hy1; have fz := fun i => ho3.frozenAt i; have HR := Nm.hide ((ho3.stored (j * 2) (.string ms)).1.stored (j * 2 + 1) (.bool bb)); have HB := Nm.hide (gr_trans (gr_trans (gr_trans hgr (gr_of_belowL hb3')) (gr_set w3 g (j * 2) (.string ms))) (gr_set _ g (j * 2 + 1) (.bool bb))))
      go_roundw
      case rel => exact ⟨j + 1, by omega, by go_num, by go_num, by rw [← HSET.out]; exact HR.out.1, HB.out⟩
      case measure => simp [intOf]; omega
    · have hjn : j = ws.length := by omega
      subst hjn
      have HR : Hid (wr.ownsRow B 62 2 (.slice a ws.length c) ws.length (wdVs (mkWs k ws.length))) := by
        show wr.ownsRow _ _ _ _ _ _
        rw [List.take_of_length_le (by rw [mkWs_len]; omega), List.drop_of_length_le (by omega), List.append_nil] at ho
        exact ho
      clear ho
      go_wp2
      go_ret
      exact ⟨by rw [show ((k + 2 * ws.length : Nat) : Int) = (k : Int) + 2 * (ws.length : Int) by omega]; rfl, HR.out, hgr⟩
end Go.Proofs.YtjbdfooppokonaaDoor
