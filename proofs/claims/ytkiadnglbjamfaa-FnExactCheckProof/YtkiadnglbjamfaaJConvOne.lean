import Derived.Test.YtkiadnglbjamfaaJMath
import Derived.Test.YtkiadnglbjamfaaRows
import Derived.WalkSpells
import Derived.WalkLawsBesides
import Derived.RegionTactic
import Derived.ChangeAlike
import Derived.BigRegion
import Derived.Test.YtkiadnglbjamfaaJPfB
import Derived.Test.YtkiadnglbjamfaaSSplit
/- string([]byte{c}), and small things. -/
namespace Go.Proofs.Ytkiadnglbjamfaa
open Go.RowKit

theorem conv_one (n : Int) (W : World) :
    (convert 74 9 (.slice (some ⟨W.heap.size, 0, none⟩) 1 1)).run Try.prog (W.alloc (.cells #[.int .u8 n] 5)) = .ok (.string ⟨#[UInt8.ofNat n.toNat]⟩) (W.alloc (.cells #[.int .u8 n] 5)) := by
  rw [run_convert_bytes_string _ 74 9 5 _ _ _ Try.underlying74 Try.underlying5 Try.underlying9]
  have hl := run_loadCells_list (P := Try.prog) (W.alloc (.cells #[.int .u8 n] 5)) ⟨W.heap.size, 0, none⟩ ([n].map (Value.int .u8)) (fun j v hj => cell_one_new W (.int .u8 n) 5 j v hj)
  rw [run_bytesToString _ _ 1 1 [n] hl]
  rfl

theorem conv_one_drew (n : Int) (W : World) :
    (convert 74 9 (.slice (some ⟨W.heap.size, 0, none⟩) 1 1)).run Try.prog (W.alloc (.cells #[.int .u8 n] 5)).drew = .ok (.string ⟨#[UInt8.ofNat n.toNat]⟩) (W.alloc (.cells #[.int .u8 n] 5)).drew :=
  conv_one n W.drew

theorem ret_str {a b : ByteArray} (h : a = b) : Ending.returned (.string a) = .returned (.string b) := by rw [h]

theorem byte_mod (n : Nat) : UInt8.ofNat (n % 256) = UInt8.ofNat n := by
  apply UInt8.toNat_inj.1
  simp

theorem ba_ext {a b : ByteArray} (h : a.data.toList = b.data.toList) : a = b := by
  apply ByteArray.ext
  exact Array.toList_inj.1 h

theorem size_list (s : ByteArray) : s.data.toList.length = s.size := by simp

end Go.Proofs.Ytkiadnglbjamfaa
/- spec.l01Join by its contract. -/
namespace Go.Proofs.Ytkiadnglbjamfaa
open Go.RowKit

set_option maxRecDepth 100000 in
set_option maxHeartbeats 800000 in
theorem l01Join_any (v : Value) (ls : List ByteArray) (w : World) (h : Nm.SRow w v ls) (hlen : Nm.wsum ls ≤ 1000000000) :
    Calls Try.prog 28 #[v] w fun e w' => e = .returned (.string ⟨(Nm.joinL ls).toArray⟩) ∧ Below w.heap.size w w' := by
  obtain ⟨a, cap, rfl, hcap, hmx, hnl, hc⟩ := h
  have hll := Nm.length_le_wsum ls
  go_enter Try.func28, Try.ntmps28
  go_wp2
  go_loopw [3, 4] (fun t i wr => ∃ (k : Nat) (s : ByteArray), k ≤ ls.length ∧ i = .int .i64 k ∧ t = .string s ∧ Hid (s.data.toList = Nm.preL (ls.take k)) ∧ Below w.heap.size w wr)
    (fun _ i _ => ls.length - (intOf i).toNat)
  case atStart => exact ⟨0, _, Nat.zero_le _, rfl, rfl, rfl, Below.refl _ _⟩
  case round =>
    obtain ⟨k, s, hk, rfl, rfl, HS, hbel⟩ := hrel
    have hw := Nm.wsum_take_le ls k
    have hsz := hbel.size
    have hss : s.size = Nm.wsum (ls.take k) := by rw [← size_list, HS.out, Nm.preL_length]
    have hss' : s.size ≤ 1000000000 := by omega
    by_cases hlt : k < ls.length
    · obtain ⟨x, hx⟩ : ∃ x, ls[k]? = some x := ⟨_, List.getElem?_eq_getElem hlt⟩
      obtain ⟨b, off, rfl, hcell⟩ := hc (by intro h; rw [h] at hlt; simp at hlt)
      have hbk : b < wr.heap.size := Nat.lt_of_lt_of_le (World.block_lt_of_cell? w _ (hcell k x hx)) hsz
      have hcx : wr.cell? ⟨b, off + k, none⟩ = some (.string x) := (hbel.cell (World.block_lt_of_cell? w _ (hcell k x hx))).trans (hcell k x hx)
      have HP : Hid (Nm.preL (ls.take (k + 1)) = Nm.preL (ls.take k) ++ (UInt8.ofNat x.size :: x.data.toList)) := Nm.preL_step hx
      have hw1 : s.size + (1 + x.size) ≤ 1000000000 := by
        have h1 := Nm.wsum_step hx
        have h2 := Nm.wsum_take_le ls (k + 1)
        omega
      have hcv := fun n => conv_one_drew n wr
      clear hx hcell hc hnl hss hw
      go_wp2
      go_region
      all_goals
        go_wp2
        go_roundw
        case rel => exact ⟨k + 1, _, by omega, by go_num, rfl, by show _ = _; rw [HP.out, ← HS.out]; simp [byte_mod], (hbel.alloc hsz _).drew⟩
        case measure => simp [intOf]; omega
    · have hkl : k = ls.length := by omega
      subst hkl
      rw [List.take_length] at HS
      clear hc hnl hw hlt hss
      have hone : (ByteArray.mk #[0]).size = 1 := rfl
      go_wp2
      go_ret
      exact ⟨ret_str (ba_ext (by simp [Nm.joinL, HS.out])), hbel⟩
end Go.Proofs.Ytkiadnglbjamfaa
/- FoldName, the program's and the model's, by their contracts. -/
namespace Go.Proofs.Ytkiadnglbjamfaa
open Go.RowKit

theorem set_small {ls : List ByteArray} {k : Nat} {x : ByteArray} (h : ls[k]? = some x) :
    ((ls.take k).map (fun y => Value.string (Nm.small y)) ++ (ls.drop k).map Value.string).set k (.string (Nm.small x)) = (ls.take (k + 1)).map (fun y => Value.string (Nm.small y)) ++ (ls.drop (k + 1)).map Value.string := by
  have hk : k < ls.length := (List.getElem?_eq_some_iff.1 h).1
  have hx : ls[k] = x := (List.getElem?_eq_some_iff.1 h).2
  have hl : ((ls.take k).map (fun y => Value.string (Nm.small y))).length = k := by simp; omega
  rw [Nm.take_step h, List.set_append_right _ _ (by omega), hl, List.drop_eq_getElem_cons hk, hx]
  simp

set_option maxRecDepth 100000 in
set_option maxHeartbeats 800000 in
theorem specFoldName_any (s : ByteArray) (w : World) (hs : s.size ≤ maxLen) :
    Calls Try.prog 41 #[.string s] w fun e w' => e = .returned (.string (Nm.foldS s)) ∧ Below w.heap.size w w' := by
  have hsp := l01Split_any s w hs
  cases hq : Nm.split s with
  | none =>
    have HA := Nm.hide (Nm.foldS_none hq)
    rw [hq] at hsp
    clear hq
    go_enter Try.func41, Try.ntmps41
    go_wp2_with fail
    refine hsp.mono ?_
    rintro e w1 ⟨v, rfl, hown, hbel⟩
    go_wp2
    go_ret
    rw [HA.out]
    exact ⟨rfl, hbel⟩
  | some ls =>
    have hz := Nm.split_size hq
    have HA := Nm.hide (Nm.foldS_some hq)
    have HJ := Nm.hide (Nm.joinL_small hq)
    have hxs := (Nm.split_join hq).2
    have hll := Nm.length_le_wsum ls
    rw [hq] at hsp
    clear hq
    go_enter Try.func41, Try.ntmps41
    go_wp2_with fail
    refine hsp.mono ?_
    rintro e w1 ⟨v, rfl, hown, hbel⟩
    simp only [Option.getD_some] at hown
    clear hsp
    by_cases hn : ls = []
    · subst hn
      have hrow := Nm.SRow.of_owns hown
      obtain ⟨a, cap, rfl, hcap, hmx, hnl, hc⟩ := hrow
      have hr := Nm.SRow.of_owns hown
      clear hown hc hnl
      go_wp2
      go_loop [5] (fun i => i = .int .i64 0) (fun _ => 0)
      case atStart => rfl
      case round =>
        subst hrel
        go_wp2_with (go_at_call 28; refine (l01Join_any _ [] _ hr (by simp [Nm.wsum])).mono ?_; rintro e w2 ⟨rfl, hbel2⟩)
        go_ret
        rw [HA.out, ← HJ.out]
        exact ⟨rfl, Nm.below_two hbel hbel2⟩
    · have hlp : 0 < ls.length := List.length_pos_iff.2 hn
      obtain ⟨g, cap, cur, rfl, hg⟩ : ∃ g cap cur, v = .slice (some ⟨g, 0, none⟩) ls.length cap ∧ w.heap.size ≤ g ∧ ls.length ≤ cap ∧ cap ≤ maxLen ∧ w1.heap[g]? = some (.cells cur 9 (0, 0)) := by
        rcases hown.2 with ⟨rfl, h0⟩ | ⟨g, cap, cur, rfl, hb, hg, hnc, hm, _⟩
        · omega
        · exact ⟨g, cap, cur, rfl, hb, hnc, hm, hg⟩
      obtain ⟨hwg, hnc, hm, _⟩ := hg
      unfold maxLen at hm
      go_wp2
      go_loopw [5] (fun i wr => ∃ k : Nat, k ≤ ls.length ∧ i = .int .i64 k ∧ wr.ownsRow w.heap.size 9 1 (.slice (some ⟨g, 0, none⟩) ls.length cap) ls.length ((ls.take k).map (fun y => Value.string (Nm.small y)) ++ (ls.drop k).map Value.string) ∧ Below w.heap.size w wr)
        (fun i _ => ls.length - (intOf i).toNat)
      case atStart => exact ⟨0, Nat.zero_le _, rfl, by simpa using hown, hbel⟩
      case round =>
        obtain ⟨k, hk, rfl, hownk, hbelk⟩ := hrel
        have hszk := hbelk.size
        clear hown hbel
        by_cases hlt : k < ls.length
        · obtain ⟨x, hx⟩ : ∃ x, ls[k]? = some x := ⟨_, List.getElem?_eq_getElem hlt⟩
          have hxz := hxs x (List.mem_of_getElem? hx)
          have hcx : wr.cell? ⟨g, k, none⟩ = some (.string x) := by
            rw [hownk.cellAt k (by omega), List.getElem?_append_right (by simp; omega)]
            simp [Nat.min_eq_left hk, hx]
          have HSET := Nm.hide (set_small hx)
          go_wp2_with (go_at_call 57; refine (l01Small_any x _ (by omega)).mono ?_; rintro e w3 ⟨rfl, hbel3⟩; have hown3 := hownk.kept (w' := w3) (row := none) ⟨hbel3.os, hbel3.tape, hbel3.output, hbel3.size, fun k hk _ => hbel3.block k hk⟩ (.inr (by simp [Value.ownBlock])); have hst := hown3.stored k (.string (Nm.small x)); rw [HSET.out] at hst; have hfz := hown3.frozenAt k; have hc3 : w3.cell? ⟨g, k, none⟩ = some (.string x) := (hbel3.cell (World.block_lt_of_cell? wr _ hcx)).trans hcx; have HR := Nm.hide hst; have HB : Hid (Below w.heap.size w (w3.setCell ⟨g, k, none⟩ (.string (Nm.small x)))) := (hbelk.trans (hbel3.mono hszk)).setCell hwg _; clear hst hown3)
          go_roundw
          case rel => exact ⟨k + 1, by omega, by go_num, HR.out.1, HB.out⟩
          case measure => simp [intOf]; omega
        · have hkl : k = ls.length := by omega
          subst hkl
          have hr : Nm.SRow wr (.slice (some ⟨g, 0, none⟩) ls.length cap) (ls.map Nm.small) := by
            apply Nm.SRow.of_owns (B := w.heap.size) (e := 9)
            simpa [Function.comp_def] using hownk
          have hws := Nm.wsum_small ls
          clear hownk hlt
          go_wp2_with (go_at_call 28; refine (l01Join_any _ (ls.map Nm.small) _ hr (by omega)).mono ?_; rintro e w2 ⟨rfl, hbel2⟩)
          go_ret
          rw [HA.out, ← HJ.out]
          exact ⟨rfl, Nm.below_two hbelk hbel2⟩
end Go.Proofs.Ytkiadnglbjamfaa
