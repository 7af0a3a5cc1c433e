import Derived.Test.YtmclegfejkoaoaaDoorJFoldM
import Derived.Test.YtmclegfejkoaoaaDoorRows
import Derived.WalkSpells
import Derived.WalkLawsBesides
import Derived.Test.YtmclegfejkoaoaaDoorSSplit
import Derived.Test.YtmclegfejkoaoaaDoorJNameOKs
/- spec.l01Small by its contract. -/
namespace Go.Proofs.YtmclegfejkoaoaaDoor
open Go.RowKit

theorem Tryd.infoU8s : (Tryd.prog.info? 5).map (fun i => (i.zero, i.size, i.bytes)) = some (some (.int .u8 0), 1, 1) := by kernel_rfl

theorem conv_nil (c : Nat) (W : World) : (convert 22 9 (.slice (some ⟨c, 0, none⟩) 0 0)).run Tryd.prog W = .ok (.string ByteArray.empty) W := by
  exact run_convert_bytes_back W 22 9 5 ⟨c, 0, none⟩ 0 [] Tryd.underlying22 Tryd.underlying5 Tryd.underlying9 (by intro j hj; simp at hj)

set_option maxRecDepth 100000 in
set_option maxHeartbeats 800000 in
theorem l01Small_any (s : ByteArray) (w : World) (hs : s.size ≤ 1000000000) :
    Calls Tryd.prog 36 #[.string s] w fun e w' => e = .returned (.string (Nm.small s)) ∧ Below w.heap.size w w' := by
  obtain ⟨j0, hj, k0, k1, k2⟩ := info_parts Tryd.infoU8s
  by_cases hz : s.size = 0
  · have hc := fun W => conv_nil w.heap.size W
    have HE : Hid (Nm.small s = ByteArray.empty) := by
      show _ = _
      apply Nm.ba_ext
      rw [Nm.small_data, List.length_eq_zero_iff.1 (show s.data.toList.length = 0 by simpa using hz)]
      rfl
    have hz' : (s.size : Int) ≤ 0 := by omega
    go_enter Tryd.func36, Tryd.ntmps36
    go_wp2
    go_loop [3, 4] (fun v i => v = .slice (some ⟨w.heap.size, 0, none⟩) 0 0 ∧ i = .int .i64 0) (fun _ _ => 0)
    case atStart => exact ⟨rfl, rfl⟩
    case round =>
      obtain ⟨rfl, rfl⟩ := hrel
      go_wp2
      go_ret
      rw [HE.out]
      exact ⟨rfl, (Below.refl _ _).alloc (Nat.le_refl _) _⟩
  · go_enter Tryd.func36, Tryd.ntmps36
    go_wp2
    go_loopw [3, 4] (fun v i wr => ∃ k : Nat, k ≤ s.size ∧ i = .int .i64 k ∧ wr.ownsRow w.heap.size 5 1 v k (Nm.bys (Nm.smallL (s.data.toList.take k))) ∧ Below w.heap.size w wr)
      (fun _ i _ => s.size - (intOf i).toNat)
    case atStart => exact ⟨0, Nat.zero_le _, rfl, World.ownsRow_made w #[] 0 (Nat.le_refl _) (by decide) rfl, (Below.refl _ _).alloc (Nat.le_refl _) _⟩
    case round =>
      obtain ⟨k, hk, rfl, hown, hbel⟩ := hrel
      have hsz := hbel.size
      by_cases hlt : k < s.size
      · have HS := Nm.hide (Nm.smallL_step (Nm.get_data hlt))
        have hcl : (s[k].toNat : Int) < 256 := by have := s[k].toNat_lt; omega
        by_cases hup : 65 ≤ s[k].toNat ∧ s[k].toNat ≤ 90
        · have HL := Nm.hide (Nm.low_up hup)
          have d1 : decide ((65 : Int) ≤ (s[k].toNat : Int)) = true := by simp; omega
          have d2 : decide ((s[k].toNat : Int) ≤ 90) = true := by simp; omega
          have hb1 : (s[k].toNat : Int) ≤ 90 := by omega
          clear hup
          go_wp2_with (at_builtin; refine wpList_append_own _ rfl (.tmp 24) (.tmp 26) 22 rfl w.heap.size 5 j0 (.int .u8 0) 1 1 Tryd.underlying22 hj k0 k1 k2 rfl (by decide) _ _ _ rfl (hown.alloc _) ⟨wr.heap.size, 0, none⟩ 1 1 [.int .u8 ((s[k].toNat : Int) + 32)] rfl rfl (cell_one_new _ _ _) (Nm.one_cell _ rfl) (by unfold maxLen; omega) (by omega) (by simp; omega) ?_; intro vb wb hown2 hgrow2 hnl2; clear hnl2; rw [← HL.out] at hown2; have R2 := Nm.bys_step (x := [Nm.low s[k]]) (by simp; omega) (hown.alloc _) (hbel.alloc hsz _) hown2 hgrow2; clear hown2 hgrow2)
          go_roundw
          case rel => exact ⟨k + 1, by omega, by go_num, by rw [HS.out]; exact R2.1, R2.2⟩
          case measure => simp [intOf]; omega
        · have HL := Nm.hide (Nm.low_id hup)
          by_cases hlo : 65 ≤ s[k].toNat
          · have d1 : decide ((65 : Int) ≤ (s[k].toNat : Int)) = true := by simp; omega
            have d2 : decide ((s[k].toNat : Int) ≤ 90) = false := by simp; omega
            clear hup
            go_wp2_with (at_builtin; refine wpList_append_own _ rfl (.tmp 24) (.tmp 26) 22 rfl w.heap.size 5 j0 (.int .u8 0) 1 1 Tryd.underlying22 hj k0 k1 k2 rfl (by decide) _ _ _ rfl (hown.alloc _) ⟨wr.heap.size, 0, none⟩ 1 1 [.int .u8 (s[k].toNat : Int)] rfl rfl (cell_one_new _ _ _) (Nm.one_cell _ rfl) (by unfold maxLen; omega) (by omega) (by simp; omega) ?_; intro vb wb hown2 hgrow2 hnl2; clear hnl2; have R2 := Nm.bys_step (x := [s[k]]) (by simp; omega) (hown.alloc _) (hbel.alloc hsz _) hown2 hgrow2; clear hown2 hgrow2)
            go_roundw
            case rel => exact ⟨k + 1, by omega, by go_num, by rw [HS.out, HL.out]; exact R2.1, R2.2⟩
            case measure => simp [intOf]; omega
          · have d1 : decide ((65 : Int) ≤ (s[k].toNat : Int)) = false := by simp; omega
            clear hup
            go_wp2_with (at_builtin; refine wpList_append_own _ rfl (.tmp 24) (.tmp 26) 22 rfl w.heap.size 5 j0 (.int .u8 0) 1 1 Tryd.underlying22 hj k0 k1 k2 rfl (by decide) _ _ _ rfl (hown.alloc _) ⟨wr.heap.size, 0, none⟩ 1 1 [.int .u8 (s[k].toNat : Int)] rfl rfl (cell_one_new _ _ _) (Nm.one_cell _ rfl) (by unfold maxLen; omega) (by omega) (by simp; omega) ?_; intro vb wb hown2 hgrow2 hnl2; clear hnl2; have R2 := Nm.bys_step (x := [s[k]]) (by simp; omega) (hown.alloc _) (hbel.alloc hsz _) hown2 hgrow2; clear hown2 hgrow2)
            go_roundw
            case rel => exact ⟨k + 1, by omega, by go_num, by rw [HS.out, HL.out]; exact R2.1, R2.2⟩
            case measure => simp [intOf]; omega
      · have hkl : k = s.size := by omega
        subst hkl
        obtain ⟨g, cp, rfl, hcv⟩ := Nm.conv_own (P := Tryd.prog) Tryd.underlying22 Tryd.underlying5 Tryd.underlying9 hown (by omega)
        rw [List.take_of_length_le (by simp)] at hcv
        have he : (⟨(Nm.smallL s.data.toList).toArray⟩ : ByteArray) = Nm.small s := rfl
        rw [he] at hcv
        clear hown hlt he
        go_wp2
        go_ret
        exact ⟨rfl, hbel⟩
end Go.Proofs.YtmclegfejkoaoaaDoor
/- FoldName, the program's and the model's, by their contracts. -/
namespace Go.Proofs.YtmclegfejkoaoaaDoor
open Go.RowKit

theorem set_small {ls : List ByteArray} {k : Nat} {x : ByteArray} (h : ls[k]? = some x) :
    ((ls.take k).map (fun y => Value.string (Nm.small y)) ++ (ls.drop k).map Value.string).set k (.string (Nm.small x)) = (ls.take (k + 1)).map (fun y => Value.string (Nm.small y)) ++ (ls.drop (k + 1)).map Value.string := by
  have hk : k < ls.length := (List.getElem?_eq_some_iff.1 h).1
  have hx : ls[k] = x := (List.getElem?_eq_some_iff.1 h).2
  have hl : ((ls.take k).map (fun y => Value.string (Nm.small y))).length = k := by simp; omega
  rw [Nm.take_step h, List.set_append_right _ _ (by omega), hl, List.drop_eq_getElem_cons hk, hx]
  simp

set_option maxRecDepth 100000 in
set_option maxHeartbeats 800000 in
theorem specFoldName_any (s : ByteArray) (w : World) (hs : s.size ≤ maxLen) :
    Calls Tryd.prog 26 #[.string s] w fun e w' => e = .returned (.string (Nm.foldS s)) ∧ Below w.heap.size w w' := by
  have hsp := l01Split_any s w hs
  cases hq : Nm.split s with
  | none =>
    have HA := Nm.hide (Nm.foldS_none hq)
    rw [hq] at hsp
    clear hq
    go_enter Tryd.func26, Tryd.ntmps26
    go_wp2_with fail
    refine hsp.mono ?_
    rintro e w1 ⟨v, rfl, hown, hbel⟩
    go_wp2
    go_ret
    rw [HA.out]
    exact ⟨rfl, hbel⟩
  | some ls =>
    have hz := Nm.split_size hq
    have HA := Nm.hide (Nm.foldS_some hq)
    have HJ := Nm.hide (Nm.joinL_small hq)
    have hxs := (Nm.split_join hq).2
    have hll := Nm.length_le_wsum ls
    rw [hq] at hsp
    clear hq
    go_enter Tryd.func26, Tryd.ntmps26
    go_wp2_with fail
    refine hsp.mono ?_
    rintro e w1 ⟨v, rfl, hown, hbel⟩
    simp only [Option.getD_some] at hown
    clear hsp
    by_cases hn : ls = []
    · subst hn
      have hrow := Nm.SRow.of_owns hown
      obtain ⟨a, cap, rfl, hcap, hmx, hnl, hc⟩ := hrow
      have hr := Nm.SRow.of_owns hown
      clear hown hc hnl
      go_wp2
      go_loop [5] (fun i => i = .int .i64 0) (fun _ => 0)
      case atStart => rfl
      case round =>
        subst hrel
        go_wp2_with (go_at_call 29; refine (l01Join_any _ [] _ hr (by simp [Nm.wsum])).mono ?_; rintro e w2 ⟨rfl, hbel2⟩)
        go_ret
        rw [HA.out, ← HJ.out]
        exact ⟨rfl, Nm.below_two hbel hbel2⟩
    · have hlp : 0 < ls.length := List.length_pos_iff.2 hn
      obtain ⟨g, cap, cur, rfl, hg⟩ : ∃ g cap cur, v = .slice (some ⟨g, 0, none⟩) ls.length cap ∧ w.heap.size ≤ g ∧ ls.length ≤ cap ∧ cap ≤ maxLen ∧ w1.heap[g]? = some (.cells cur 9 (0, 0)) := by
        rcases hown.2 with ⟨rfl, h0⟩ | ⟨g, cap, cur, rfl, hb, hg, hnc, hm, _⟩
        · omega
        · exact ⟨g, cap, cur, rfl, hb, hnc, hm, hg⟩
      obtain ⟨hwg, hnc, hm, _⟩ := hg
      unfold maxLen at hm
      go_wp2
      go_loopw [5] (fun i wr => ∃ k : Nat, k ≤ ls.length ∧ i = .int .i64 k ∧ wr.ownsRow w.heap.size 9 1 (.slice (some ⟨g, 0, none⟩) ls.length cap) ls.length ((ls.take k).map (fun y => Value.string (Nm.small y)) ++ (ls.drop k).map Value.string) ∧ Below w.heap.size w wr)
        (fun i _ => ls.length - (intOf i).toNat)
      case atStart => exact ⟨0, Nat.zero_le _, rfl, by simpa using hown, hbel⟩
      case round =>
        obtain ⟨k, hk, rfl, hownk, hbelk⟩ := hrel
        have hszk := hbelk.size
        clear hown hbel
        by_cases hlt : k < ls.length
        · obtain ⟨x, hx⟩ : ∃ x, ls[k]? = some x := ⟨_, List.getElem?_eq_getElem hlt⟩
          have hxz := hxs x (List.mem_of_getElem? hx)
          have hcx : wr.cell? ⟨g, k, none⟩ = some (.string x) := by
            rw [hownk.cellAt k (by omega), List.getElem?_append_right (by simp; omega)]
            simp [Nat.min_eq_left hk, hx]
          have HSET := Nm.hide (set_small hx)
          go_wp2_with (go_at_call 36; refine (l01Small_any x _ (by omega)).mono ?_; rintro e w3 ⟨rfl, hbel3⟩; have hown3 := hownk.kept (w' := w3) (row := none) ⟨hbel3.os, hbel3.tape, hbel3.output, hbel3.size, fun k hk _ => hbel3.block k hk⟩ (.inr (by simp [Value.ownBlock])); have hst := hown3.stored k (.string (Nm.small x)); rw [HSET.out] at hst; have hfz := hown3.frozenAt k; have hc3 : w3.cell? ⟨g, k, none⟩ = some (.string x) := (hbel3.cell (World.block_lt_of_cell? wr _ hcx)).trans hcx; have HR := Nm.hide hst; have HB : Hid (Below w.heap.size w (w3.setCell ⟨g, k, none⟩ (.string (Nm.small x)))) := (hbelk.trans (hbel3.mono hszk)).setCell hwg _; clear hst hown3)
          go_roundw
          case rel => exact ⟨k + 1, by omega, by go_num, HR.out.1, HB.out⟩
          case measure => simp [intOf]; omega
        · have hkl : k = ls.length := by omega
          subst hkl
          have hr : Nm.SRow wr (.slice (some ⟨g, 0, none⟩) ls.length cap) (ls.map Nm.small) := by
            apply Nm.SRow.of_owns (B := w.heap.size) (e := 9)
            simpa [Function.comp_def] using hownk
          have hws := Nm.wsum_small ls
          clear hownk hlt
          go_wp2_with (go_at_call 29; refine (l01Join_any _ (ls.map Nm.small) _ hr (by omega)).mono ?_; rintro e w2 ⟨rfl, hbel2⟩)
          go_ret
          rw [HA.out, ← HJ.out]
          exact ⟨rfl, Nm.below_two hbelk hbel2⟩
end Go.Proofs.YtmclegfejkoaoaaDoor
