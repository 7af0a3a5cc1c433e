/- impl.Labels by its contract. -/
import Derived.Test.YtakonfkefoeenagClone
import Derived.Test.YtakonfkefoeenagSplit
namespace Go.Proofs.Ytakonfkefoeenag
open Go.RowKit

theorem owns_mono {w : World} {B B' e n : Nat} {v : Value} {xs : List Value} (h : w.ownsRow B e 1 v n xs) (hB : B' ≤ B) : w.ownsRow B' e 1 v n xs := by
  refine ⟨h.1, ?_⟩
  rcases h.2 with h0 | ⟨g, cap, cur, h1, h2, h3⟩
  · exact .inl h0
  · exact .inr ⟨g, cap, cur, h1, Nat.le_trans hB h2, h3⟩

theorem owns_below {w w' : World} {B e n : Nat} {v : Value} {xs : List Value} (h : w.ownsRow B e 1 v n xs) (hb : Below w.heap.size w w') : w'.ownsRow B e 1 v n xs := by
  refine ⟨h.1, ?_⟩
  rcases h.2 with h0 | ⟨g, cap, cur, h1, h2, h3, h4⟩
  · exact .inl h0
  · exact .inr ⟨g, cap, cur, h1, h2, by rw [hb.block g (Array.getElem?_eq_some_iff.1 h3).1]; exact h3, h4⟩

set_option maxRecDepth 100000 in
set_option maxHeartbeats 800000 in
theorem implLabels_any (s : ByteArray) (w : World) (hs : s.size ≤ maxLen) :
    Calls Try.prog 13 #[.string s] w fun e w' => ∃ v, e = .returned v ∧ w'.ownsRow w.heap.size 9 1 v ((Nm.split s).getD []).length (((Nm.split s).getD []).map Value.string) ∧ Below w.heap.size w w' := by
  have hsp := splitName_any s w hs
  obtain ⟨i0, hi, hz0, hz1, hz2⟩ := info_parts Try.infoStr
  cases hq : Nm.split s with
  | none =>
    rw [hq] at hsp
    clear hq
    go_enter Try.func13, Try.ntmps13
    go_wp2_with fail
    refine hsp.mono ?_
    rintro e w1 ⟨v, rfl, hown, hbel⟩
    go_wp2
    go_ret
    exact ⟨_, rfl, World.ownsRow_nil _ _ _ _, hbel⟩
  | some ls =>
    have hz := Nm.split_size hq
    have hll := Nm.length_le_wsum ls
    rw [hq] at hsp
    clear hq
    go_enter Try.func13, Try.ntmps13
    go_wp2_with fail
    refine hsp.mono ?_
    rintro e w1 ⟨v, rfl, hown, hbel⟩
    obtain ⟨a, cap, rfl, hcap, hmx, hnl, hc⟩ := Nm.SRow.of_owns hown
    simp only [Option.getD_some] at hown hcap hc
    have hszw := hbel.size
    clear hown hnl hsp
    go_wp2_with (at_make; refine wpList_make_own _ rfl _ _ 30 rfl w1.heap.size 9 i0 (.string ByteArray.empty) 1 Try.underlying30 hi hz0 hz1 .i64 .i64 _ ls.length rfl rfl rfl (by rw [hz2]; omega) (by unfold maxLen; omega) (Nat.le_refl _) ?_; intro w2 hown0 hgrow0)
    go_loopw [5, 20] (fun v i wr => ∃ k : Nat, k ≤ ls.length ∧ i = .int .i64 k ∧ wr.ownsRow w1.heap.size 9 1 v (ls.take k).length ((ls.take k).map Value.string) ∧ Below w1.heap.size w1 wr)
      (fun _ i _ => ls.length - (intOf i).toNat)
    case atStart => exact ⟨0, Nat.zero_le _, rfl, hown0, (Below.refl _ w1).grown hgrow0 (Nat.le_refl _) (fun k hk => by cases hk)⟩
    case round =>
      obtain ⟨k, hk, rfl, hownk, hbelk⟩ := hrel
      have hszk := hbelk.size
      have hlk : (ls.take k).length = k := by simp; omega
      clear hown0 hgrow0
      by_cases hlt : k < ls.length
      · obtain ⟨x, hx⟩ : ∃ x, ls[k]? = some x := ⟨_, List.getElem?_eq_getElem hlt⟩
        obtain ⟨b, off, rfl, hcell⟩ := hc (by intro h; rw [h] at hlt; simp at hlt)
        have hcx : wr.cell? ⟨b, off + k, none⟩ = some (.string x) := (hbelk.cell (World.block_lt_of_cell? w1 _ (hcell k x hx))).trans (hcell k x hx)
        have HT := Nm.hide (Nm.take_step hx)
        have hxs : x.size ≤ 1000000000 := by
          have h1 := Nm.wsum_step hx
          have h2 := Nm.wsum_take_le ls (k + 1)
          omega
        have HLK := Nm.hide hlk
        clear hx hcell hc hlk
        go_wp2_with (first | (go_at_call 43; refine (clone_any x _ hxs).mono ?_; rintro e w3 ⟨rfl, hbel3⟩; have hown3 := owns_below hownk hbel3; have hbel4 := hbelk.trans (hbel3.mono hszk); have hsz4 := hbel4.size) | (at_builtin; refine wpList_append_own _ rfl (.tmp 24) (.tmp 27) 30 rfl w1.heap.size 9 i0 (.string ByteArray.empty) 1 16 Try.underlying30 hi hz0 hz1 hz2 rfl (by decide) _ _ _ rfl (hown3.alloc _) ⟨w3.heap.size, 0, none⟩ 1 1 [.string x] rfl rfl (cell_one_new _ _ _) (Nm.one_cell _ rfl) (by have := HLK.out; unfold maxLen; omega) (by have := HLK.out; omega) (by simp; omega) ?_; intro v' w4 hown' hgrow hnl'; clear hnl'; have R := own_step hsz4 hown3 hbel4 _ hown' hgrow; clear hown' hgrow))
        go_roundw
        case rel => exact ⟨k + 1, by omega, by go_num, by rw [HT.out]; exact R.1, R.2⟩
        case measure => simp [intOf]; omega
      · have hkl : k = ls.length := by omega
        subst hkl
        rw [List.take_length] at hownk
        clear hc hlk hlt
        go_wp2
        go_ret
        exact ⟨_, rfl, owns_mono hownk hszw, Nm.below_two hbel hbelk⟩
end Go.Proofs.Ytakonfkefoeenag
