import Derived.Test.YtihhchebcojplaaJMath
import Derived.Test.YtihhchebcojplaaJDrT
import Derived.Test.YtihhchebcojplaaRows
import Derived.WalkSpells
import Derived.WalkLawsBesides
import Derived.RegionTactic
import Derived.ChangeAlike
import Derived.BigRegion
import Derived.Test.YtihhchebcojplaaJShowM
/- spec.l01Join by its contract. -/
namespace Go.Proofs.Ytihhchebcojplaa
open Go.RowKit

set_option maxRecDepth 100000 in
set_option maxHeartbeats 800000 in
theorem l01Join_any (v : Value) (ls : List ByteArray) (w : World) (h : Nm.SRow w v ls) (hlen : Nm.wsum ls ≤ 1000000000) :
    Calls Try.prog 50 #[v] w fun e w' => e = .returned (.string ⟨(Nm.joinL ls).toArray⟩) ∧ Below w.heap.size w w' := by
  obtain ⟨a, cap, rfl, hcap, hmx, hnl, hc⟩ := h
  have hll := Nm.length_le_wsum ls
  go_enter Try.func50, Try.ntmps50
  go_wp2
  go_loopw [3, 4] (fun t i wr => ∃ (k : Nat) (s : ByteArray), k ≤ ls.length ∧ i = .int .i64 k ∧ t = .string s ∧ Hid (s.data.toList = Nm.preL (ls.take k)) ∧ Below w.heap.size w wr)
    (fun _ i _ => ls.length - (intOf i).toNat)
  case atStart => exact ⟨0, _, Nat.zero_le _, rfl, rfl, rfl, Below.refl _ _⟩
  case round =>
    obtain ⟨k, s, hk, rfl, rfl, HS, hbel⟩ := hrel
    have hw := Nm.wsum_take_le ls k
    have hsz := hbel.size
    have hss : s.size = Nm.wsum (ls.take k) := by rw [← size_list, HS.out, Nm.preL_length]
    have hss' : s.size ≤ 1000000000 := by omega
    by_cases hlt : k < ls.length
    · obtain ⟨x, hx⟩ : ∃ x, ls[k]? = some x := ⟨_, List.getElem?_eq_getElem hlt⟩
      obtain ⟨b, off, rfl, hcell⟩ := hc (by intro h; rw [h] at hlt; simp at hlt)
      have hbk : b < wr.heap.size := Nat.lt_of_lt_of_le (World.block_lt_of_cell? w _ (hcell k x hx)) hsz
      have hcx : wr.cell? ⟨b, off + k, none⟩ = some (.string x) := (hbel.cell (World.block_lt_of_cell? w _ (hcell k x hx))).trans (hcell k x hx)
      have HP : Hid (Nm.preL (ls.take (k + 1)) = Nm.preL (ls.take k) ++ (UInt8.ofNat x.size :: x.data.toList)) := Nm.preL_step hx
      have hw1 : s.size + (1 + x.size) ≤ 1000000000 := by
        have h1 := Nm.wsum_step hx
        have h2 := Nm.wsum_take_le ls (k + 1)
        omega
      have hcv := fun n => conv_one_drew n wr
      clear hx hcell hc hnl hss hw
      go_wp2
      go_region
      all_goals
        go_wp2
        go_roundw
        case rel => exact ⟨k + 1, _, by omega, by go_num, rfl, by show _ = _; rw [HP.out, ← HS.out]; simp [byte_mod], (hbel.alloc hsz _).drew⟩
        case measure => simp [intOf]; omega
    · have hkl : k = ls.length := by omega
      subst hkl
      rw [List.take_length] at HS
      clear hc hnl hw hlt hss
      have hone : (ByteArray.mk #[0]).size = 1 := rfl
      go_wp2
      go_ret
      exact ⟨ret_str (ba_ext (by simp [Nm.joinL, HS.out])), hbel⟩
end Go.Proofs.Ytihhchebcojplaa
/- spec.l01Label by its contract: a label. -/
namespace Go.Proofs.Ytihhchebcojplaa
open Go.RowKit

set_option maxRecDepth 100000 in
set_option maxHeartbeats 1600000 in
theorem l01LabelV_any (g : Nat) (a : Option Addr) (n cap : Nat) (w : World) (h : Src w g a n cap) :
    Calls Try.prog 49 #[.pointer (some ⟨g, 0, none⟩)] w fun e w' => ∃ s : ByteArray, e = .returned (.string s) ∧ (1 ≤ s.size ∧ s.size ≤ 4) ∧ Src w' g a n cap ∧ w.grownBy w' (some g) := by
  have hcv := fun (x : Int) (W : World) => conv_one x W
  have hs1 : ∀ c : UInt8, (ByteArray.mk #[c]).size = 1 := fun _ => rfl
  have hs2 : (ByteArray.mk #[110, 115]).size = 2 := rfl
  go_enter Try.func49, Try.ntmps49
  go_wp2_with fail
  refine (l01Next_any g a n cap 12 _ h (by decide)).mono ?_
  rintro e w1 ⟨r, rfl, hr0, hr1, hsrc, hgr⟩
  have hr2 := hr1 (by decide)
  clear hr1 h
  rcases (by omega : r = 0 ∨ r = 1 ∨ r = 2 ∨ r = 3 ∨ r = 4 ∨ r = 5 ∨ 6 ≤ r) with rfl | rfl | rfl | rfl | rfl | rfl | h6
  · go_wp2
    go_ret
    exact ⟨_, rfl, ⟨by decide, by decide⟩, hsrc, hgr⟩
  · go_wp2_with (first | (go_at_call 12; refine (l01Next_any g a n cap 4 _ hsrc (by decide)).mono ?_; rintro e w2 ⟨q, rfl, hq0, hq1, hsrc2, hgr2⟩; have hq2 := hq1 (by decide); clear hq1) | (go_at_call 51; refine (l01Bytes_any g a n cap (1 + q) _ hsrc2 (by omega) (by omega)).mono ?_; rintro e w3 ⟨s3, rfl, hs3, hsrc3, hgr3⟩))
    go_ret
    exact ⟨_, rfl, ⟨by omega, by omega⟩, hsrc3, grown_step (grown_step hgr hgr2) hgr3⟩
  · go_wp2
    go_ret
    exact ⟨_, rfl, ⟨by decide, by decide⟩, hsrc, hgr⟩
  · go_wp2
    go_ret
    exact ⟨_, rfl, ⟨by decide, by decide⟩, hsrc, hgr⟩
  · go_wp2
    go_ret
    exact ⟨_, rfl, ⟨by decide, by decide⟩, hsrc, hgr⟩
  · go_wp2_with (go_at_call 12; refine (l01Next_any g a n cap 3 _ hsrc (by decide)).mono ?_; rintro e w2 ⟨q, rfl, hq0, hq1, hsrc2, hgr2⟩; have hq2 := hq1 (by decide); clear hq1)
    go_ret
    exact ⟨_, rfl, ⟨by rw [ByteArray.size_append, hs2, hs1]; decide, by rw [ByteArray.size_append, hs2, hs1]; decide⟩, src_below hsrc2 ((Below.refl _ _).alloc (Nat.le_refl _) _), grown_alloc (grown_step hgr hgr2) _⟩
  · go_wp2_with (go_at_call 12; refine (l01Next_any g a n cap 4 _ hsrc (by decide)).mono ?_; rintro e w2 ⟨q, rfl, hq0, hq1, hsrc2, hgr2⟩; have hq2 := hq1 (by decide); clear hq1)
    go_ret
    exact ⟨_, rfl, ⟨by rw [hs1]; decide, by rw [hs1]; decide⟩, src_below hsrc2 ((Below.refl _ _).alloc (Nat.le_refl _) _), grown_alloc (grown_step hgr hgr2) _⟩
end Go.Proofs.Ytihhchebcojplaa
