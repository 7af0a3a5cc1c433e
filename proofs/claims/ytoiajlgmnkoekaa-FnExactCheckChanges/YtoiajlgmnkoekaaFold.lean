import Derived.Test.YtoiajlgmnkoekaaSSmall
import Derived.Test.YtoiajlgmnkoekaaSSplit
import Derived.Test.YtoiajlgmnkoekaaJoin
/- FoldName, the program's and the model's, by their contracts. -/
namespace Go.Proofs.Ytoiajlgmnkoekaa
open Go.RowKit

theorem set_small {ls : List ByteArray} {k : Nat} {x : ByteArray} (h : ls[k]? = some x) :
    ((ls.take k).map (fun y => Value.string (Nm.small y)) ++ (ls.drop k).map Value.string).set k (.string (Nm.small x)) = (ls.take (k + 1)).map (fun y => Value.string (Nm.small y)) ++ (ls.drop (k + 1)).map Value.string := by
  have hk : k < ls.length := (List.getElem?_eq_some_iff.1 h).1
  have hx : ls[k] = x := (List.getElem?_eq_some_iff.1 h).2
  have hl : ((ls.take k).map (fun y => Value.string (Nm.small y))).length = k := by simp; omega
  rw [Nm.take_step h, List.set_append_right _ _ (by omega), hl, List.drop_eq_getElem_cons hk, hx]
  simp

set_option maxRecDepth 100000 in
set_option maxHeartbeats 800000 in
theorem specFoldName_any (s : ByteArray) (w : World) (hs : s.size ≤ maxLen) :
    Calls Try.prog 47 #[.string s] w fun e w' => e = .returned (.string (Nm.foldS s)) ∧ Below w.heap.size w w' := by
  have hsp := l01Split_any s w hs
  cases hq : Nm.split s with
  | none =>
    have HA := Nm.hide (Nm.foldS_none hq)
    rw [hq] at hsp
    clear hq
    go_enter Try.func47, Try.ntmps47
    go_wp2_with fail
    refine hsp.mono ?_
    rintro e w1 ⟨v, rfl, hown, hbel⟩
    go_wp2
    go_ret
    rw [HA.out]
    exact ⟨rfl, hbel⟩
  | some ls =>
    have hz := Nm.split_size hq
    have HA := Nm.hide (Nm.foldS_some hq)
    have HJ := Nm.hide (Nm.joinL_small hq)
    have hxs := (Nm.split_join hq).2
    have hll := Nm.length_le_wsum ls
    rw [hq] at hsp
    clear hq
    go_enter Try.func47, Try.ntmps47
    go_wp2_with fail
    refine hsp.mono ?_
    rintro e w1 ⟨v, rfl, hown, hbel⟩
    simp only [Option.getD_some] at hown
    clear hsp
    by_cases hn : ls = []
    · subst hn
      have hrow := Nm.SRow.of_owns hown
      obtain ⟨a, cap, rfl, hcap, hmx, hnl, hc⟩ := hrow
      have hr := Nm.SRow.of_owns hown
      clear hown hc hnl
      go_wp2
      go_loop [5] (fun i => i = .int .i64 0) (fun _ => 0)
      case atStart => rfl
      case round =>
        subst hrel
        go_wp2_with (go_at_call 38; refine (l01Join_any _ [] _ hr (by simp [Nm.wsum])).mono ?_; rintro e w2 ⟨rfl, hbel2⟩)
        go_ret
        rw [HA.out, ← HJ.out]
        exact ⟨rfl, Nm.below_two hbel hbel2⟩
    · have hlp : 0 < ls.length := List.length_pos_iff.2 hn
      obtain ⟨g, cap, cur, rfl, hg⟩ : ∃ g cap cur, v = .slice (some ⟨g, 0, none⟩) ls.length cap ∧ w.heap.size ≤ g ∧ ls.length ≤ cap ∧ cap ≤ maxLen ∧ w1.heap[g]? = some (.cells cur 9 (0, 0)) := by
        rcases hown.2 with ⟨rfl, h0⟩ | ⟨g, cap, cur, rfl, hb, hg, hnc, hm, _⟩
        · omega
        · exact ⟨g, cap, cur, rfl, hb, hnc, hm, hg⟩
      obtain ⟨hwg, hnc, hm, _⟩ := hg
      unfold maxLen at hm
      go_wp2
      go_loopw [5] (fun i wr => ∃ k : Nat, k ≤ ls.length ∧ i = .int .i64 k ∧ wr.ownsRow w.heap.size 9 1 (.slice (some ⟨g, 0, none⟩) ls.length cap) ls.length ((ls.take k).map (fun y => Value.string (Nm.small y)) ++ (ls.drop k).map Value.string) ∧ Below w.heap.size w wr)
        (fun i _ => ls.length - (intOf i).toNat)
      case atStart => exact ⟨0, Nat.zero_le _, rfl, by simpa using hown, hbel⟩
      case round =>
        obtain ⟨k, hk, rfl, hownk, hbelk⟩ := hrel
        have hszk := hbelk.size
        clear hown hbel
        by_cases hlt : k < ls.length
        · obtain ⟨x, hx⟩ : ∃ x, ls[k]? = some x := ⟨_, List.getElem?_eq_getElem hlt⟩
          have hxz := hxs x (List.mem_of_getElem? hx)
          have hcx : wr.cell? ⟨g, k, none⟩ = some (.string x) := by
            rw [hownk.cellAt k (by omega), List.getElem?_append_right (by simp; omega)]
            simp [Nat.min_eq_left hk, hx]
          have HSET := Nm.hide (set_small hx)
          go_wp2_with (go_at_call 56; refine (l01Small_any x _ (by omega)).mono ?_; rintro e w3 ⟨rfl, hbel3⟩; have hown3 := hownk.kept (w' := w3) (row := none) ⟨hbel3.os, hbel3.tape, hbel3.output, hbel3.size, fun k hk _ => hbel3.block k hk⟩ (.inr (by simp [Value.ownBlock])); have hst := hown3.stored k (.string (Nm.small x)); rw [HSET.out] at hst; have hfz := hown3.frozenAt k; have hc3 : w3.cell? ⟨g, k, none⟩ = some (.string x) := (hbel3.cell (World.block_lt_of_cell? wr _ hcx)).trans hcx; have HR := Nm.hide hst; have HB : Hid (Below w.heap.size w (w3.setCell ⟨g, k, none⟩ (.string (Nm.small x)))) := (hbelk.trans (hbel3.mono hszk)).setCell hwg _; clear hst hown3)
          go_roundw
          case rel => exact ⟨k + 1, by omega, by go_num, HR.out.1, HB.out⟩
          case measure => simp [intOf]; omega
        · have hkl : k = ls.length := by omega
          subst hkl
          have hr : Nm.SRow wr (.slice (some ⟨g, 0, none⟩) ls.length cap) (ls.map Nm.small) := by
            apply Nm.SRow.of_owns (B := w.heap.size) (e := 9)
            simpa [Function.comp_def] using hownk
          have hws := Nm.wsum_small ls
          clear hownk hlt
          go_wp2_with (go_at_call 38; refine (l01Join_any _ (ls.map Nm.small) _ hr (by omega)).mono ?_; rintro e w2 ⟨rfl, hbel2⟩)
          go_ret
          rw [HA.out, ← HJ.out]
          exact ⟨rfl, Nm.below_two hbelk hbel2⟩
end Go.Proofs.Ytoiajlgmnkoekaa
