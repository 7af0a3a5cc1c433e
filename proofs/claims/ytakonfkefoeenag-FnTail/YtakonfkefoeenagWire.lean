/- (labelList).wireSize and (labelList).wire by their contracts. -/
import Derived.Test.YtakonfkefoeenagLab
import Derived.Test.YtakonfkefoeenagRows
import Derived.WalkSpells
import Derived.WalkLawsBesides
namespace Go.Proofs.Ytakonfkefoeenag
open Go.RowKit

theorem Try.infoU8 : (Try.prog.info? 5).map (fun i => (i.zero, i.size, i.bytes)) = some (some (.int .u8 0), 1, 1) := by kernel_rfl

set_option maxRecDepth 100000 in
set_option maxHeartbeats 400000 in
theorem wireSize_any (v : Value) (ls : List ByteArray) (w : World) (h : Nm.SRow w v ls) (hlen : Nm.wsum ls ≤ 1000000000) :
    Calls Try.prog 78 #[v] w fun e w' => e = .returned (.int .i64 ((1 + Nm.wsum ls : Nat) : Int)) ∧ w' = w := by
  obtain ⟨a, cap, rfl, hcap, hmx, hnl, hc⟩ := h
  have hll := Nm.length_le_wsum ls
  by_cases hne : ls = []
  · subst hne
    go_enter Try.func78, Try.ntmps78
    go_wp2
    go_loop [3, 8] (fun t i => t = .int .i64 1 ∧ i = .int .i64 0) (fun _ _ => 0)
    case atStart => exact ⟨rfl, rfl⟩
    case round =>
      obtain ⟨rfl, rfl⟩ := hrel
      go_wp2
      go_ret
      exact ⟨rfl, rfl⟩
  · obtain ⟨b, off, rfl, hcell⟩ := hc hne
    clear hc hnl hne
    go_enter Try.func78, Try.ntmps78
    go_wp2
    go_loop [3, 8] (fun t i => ∃ k : Nat, k ≤ ls.length ∧ i = .int .i64 k ∧ t = .int .i64 ((1 + Nm.wsum (ls.take k) : Nat) : Int)) (fun _ i => ls.length - (intOf i).toNat)
    case atStart => exact ⟨0, Nat.zero_le _, rfl, rfl⟩
    case round =>
      obtain ⟨k, hk, rfl, rfl⟩ := hrel
      have hw := Nm.wsum_take_le ls k
      by_cases hlt : k < ls.length
      · obtain ⟨x, hx⟩ : ∃ x, ls[k]? = some x := ⟨_, List.getElem?_eq_getElem hlt⟩
        have hcx := hcell k x hx
        have HS : Hid (Nm.wsum (ls.take (k + 1)) = Nm.wsum (ls.take k) + (1 + x.size)) := Nm.wsum_step hx
        have hw1 : Nm.wsum (ls.take k) + (1 + x.size) ≤ Nm.wsum ls := by rw [← HS.out]; exact Nm.wsum_take_le ls (k + 1)
        clear hx hcell
        go_wp2
        go_round
        case rel => exact ⟨k + 1, by omega, by go_num, by rw [HS.out]; go_num⟩
        case measure => simp [intOf]; omega
      · go_wp2
        go_ret
        have : k = ls.length := by omega
        subst this
        rw [List.take_length]
        exact ⟨rfl, rfl⟩

def wireS (ls : List ByteArray) : ByteArray := if 255 < 1 + Nm.wsum ls then ByteArray.empty else ⟨(Nm.joinL ls).toArray⟩
def wireC (ls : List ByteArray) : Int := if 255 < 1 + Nm.wsum ls then 3 else 0

theorem wireS_short {ls : List ByteArray} (h : Nm.wsum ls ≤ 254) : wireS ls = ⟨(Nm.joinL ls).toArray⟩ := if_neg (by omega)
theorem wireC_short {ls : List ByteArray} (h : Nm.wsum ls ≤ 254) : wireC ls = 0 := if_neg (by omega)

theorem byte_len (x : ByteArray) (h : x.size ≤ 255) : [Value.int .u8 (x.size : Int)] = Nm.bys [UInt8.ofNat x.size] := by
  simp [Nm.bys]; omega

set_option maxRecDepth 100000 in
set_option maxHeartbeats 800000 in
theorem wire_any (v : Value) (ls : List ByteArray) (w : World) (h : Nm.SRow w v ls) (hlen : Nm.wsum ls ≤ 1000000000) :
    Calls Try.prog 42 #[v] w fun e w' => e = .returned (.tuple #[.string (wireS ls), .int .i64 (wireC ls)]) ∧ Below w.heap.size w w' := by
  have hws := wireSize_any v ls w h hlen
  obtain ⟨j0, hj, k0, k1, k2⟩ := info_parts Try.infoU8
  obtain ⟨a, cap, rfl, hcap, hmx, hnl, hc⟩ := h
  have hll := Nm.length_le_wsum ls
  by_cases hlong : 255 < 1 + Nm.wsum ls
  · have HS : Hid (wireS ls = ByteArray.empty) := if_pos hlong
    have HC : Hid (wireC ls = 3) := if_pos hlong
    have hl' : (255 : Int) < ((1 + Nm.wsum ls : Nat) : Int) := by omega
    clear hc
    go_enter Try.func42, Try.ntmps42
    go_wp2_with fail
    refine hws.mono ?_
    rintro e w1 ⟨rfl, rfl⟩
    go_wp2
    go_ret2
    rw [HS.out, HC.out]
    exact ⟨rfl, Below.refl _ _⟩
  · have HS : Hid (wireS ls = ⟨(Nm.joinL ls).toArray⟩) := if_neg hlong
    have HC : Hid (wireC ls = 0) := if_neg hlong
    have hl' : ((1 + Nm.wsum ls : Nat) : Int) ≤ 255 := by omega
    go_enter Try.func42, Try.ntmps42
    go_wp2_with fail
    refine hws.mono ?_
    rintro e w1 ⟨rfl, rfl⟩
    go_wp2_with (at_make; refine wpList_make_own _ rfl _ _ 24 rfl w1.heap.size 5 j0 (.int .u8 0) 1 Try.underlying24 hj k0 k1 .i64 .i64 _ (1 + Nm.wsum ls) rfl rfl rfl (by rw [k2]; omega) (by unfold maxLen; omega) (Nat.le_refl _) ?_; intro w2 hown0 hgrow0)
    go_loopw [5, 16] (fun v i wr => ∃ k : Nat, k ≤ ls.length ∧ i = .int .i64 k ∧ wr.ownsRow w1.heap.size 5 1 v (Nm.wsum (ls.take k)) (Nm.bys (Nm.preL (ls.take k))) ∧ Below w1.heap.size w1 wr)
      (fun _ i _ => ls.length - (intOf i).toNat)
    case atStart => exact ⟨0, Nat.zero_le _, rfl, hown0, (Below.refl _ w1).grown hgrow0 (Nat.le_refl _) (fun k hk => by cases hk)⟩
    case round =>
      obtain ⟨k, hk, rfl, hown, hbel⟩ := hrel
      have hw := Nm.wsum_take_le ls k
      have hsz := hbel.size
      by_cases hlt : k < ls.length
      · obtain ⟨x, hx⟩ : ∃ x, ls[k]? = some x := ⟨_, List.getElem?_eq_getElem hlt⟩
        obtain ⟨b, off, rfl, hcell⟩ := hc (by intro h; rw [h] at hlt; simp at hlt)
        have hcx : wr.cell? ⟨b, off + k, none⟩ = some (.string x) := (hbel.cell (World.block_lt_of_cell? w1 _ (hcell k x hx))).trans (hcell k x hx)
        have HW : Hid (Nm.wsum (ls.take (k + 1)) = Nm.wsum (ls.take k) + (1 + x.size)) := Nm.wsum_step hx
        have HP : Hid (Nm.preL (ls.take (k + 1)) = Nm.preL (ls.take k) ++ (UInt8.ofNat x.size :: x.data.toList)) := Nm.preL_step hx
        have hw1 : Nm.wsum (ls.take k) + (1 + x.size) ≤ Nm.wsum ls := by rw [← HW.out]; exact Nm.wsum_take_le ls (k + 1)
        clear hx hcell hc hnl hws hown0 hgrow0
        go_wp2_with (first | (at_builtin; refine wpList_append_own _ rfl (.tmp 20) (.tmp 24) 24 rfl w1.heap.size 5 j0 (.int .u8 0) 1 1 Try.underlying24 hj k0 k1 k2 rfl (by decide) _ _ _ rfl (hown.alloc _) ⟨wr.heap.size, 0, none⟩ 1 1 [.int .u8 (x.size : Int)] rfl rfl (cell_one_new _ _ _) (Nm.one_cell _ rfl) (by unfold maxLen; omega) (by omega) (by simp; omega) ?_; intro va wa hown1 hgrow1 hnl1; clear hnl1; rw [byte_len x (by omega)] at hown1; have R1 := Nm.bys_step (x := [UInt8.ofNat x.size]) (by simp; omega) (hown.alloc _) (hbel.alloc hsz _) hown1 hgrow1; clear hown1 hgrow1) | (at_builtin; refine Go.Lib.wpList_append_own_string _ rfl (.tmp 26) (.tmp 27) 24 9 rfl w1.heap.size 5 j0 Try.underlying24 Try.underlying9 hj k0 k1 k2 _ _ _ rfl R1.1 x rfl (by unfold maxLen; omega) (by omega) R1.2.size ?_; intro vb wb hown2 hgrow2 hnl2; clear hnl2; have R2 := Nm.bys_step_str R1.2.size R1.1 R1.2 hown2 hgrow2; clear hown2 hgrow2))
        go_roundw
        case rel => exact ⟨k + 1, by omega, by go_num, by rw [HW.out, HP.out]; simpa [Nat.add_assoc] using R2.1, R2.2⟩
        case measure => simp [intOf]; omega
      · have hkl : k = ls.length := by omega
        subst hkl
        rw [List.take_length] at hown
        clear hc hnl hws hown0 hgrow0 hw hlt
        have hone : (ByteArray.mk #[0]).size = 1 := rfl
        go_wp2_with (at_builtin; refine Go.Lib.wpList_append_own_string _ rfl (.tmp 30) _ 24 9 rfl w1.heap.size 5 j0 Try.underlying24 Try.underlying9 hj k0 k1 k2 _ _ _ rfl hown ⟨#[0]⟩ rfl (by unfold maxLen; omega) (by omega) hsz ?_; intro vb wb hown2 hgrow2 hnl2; clear hnl2; have R2 := Nm.bys_step_str hsz hown hbel hown2 hgrow2; clear hown2 hgrow2; obtain ⟨g, cp, rfl, hcv⟩ := Nm.conv_own (P := Try.prog) Try.underlying24 Try.underlying5 Try.underlying9 R2.1 (by omega); rw [hone] at hcv)
        go_ret2
        rw [HS.out, HC.out]
        exact ⟨rfl, R2.2⟩
end Go.Proofs.Ytakonfkefoeenag
