import Derived.Test.YtoiajlgmnkoekaaJMath
import Derived.Test.YtoiajlgmnkoekaaConvOne
import Derived.Test.YtoiajlgmnkoekaaRows
import Derived.WalkSpells
import Derived.WalkLawsBesides
import Derived.RegionTactic
import Derived.ChangeAlike
import Derived.BigRegion
/- spec.l01Join by its contract. -/
namespace Go.Proofs.Ytoiajlgmnkoekaa
open Go.RowKit

set_option maxRecDepth 100000 in
set_option maxHeartbeats 800000 in
theorem l01Join_any (v : Value) (ls : List ByteArray) (w : World) (h : Nm.SRow w v ls) (hlen : Nm.wsum ls ≤ 1000000000) :
    Calls Try.prog 38 #[v] w fun e w' => e = .returned (.string ⟨(Nm.joinL ls).toArray⟩) ∧ Below w.heap.size w w' := by
  obtain ⟨a, cap, rfl, hcap, hmx, hnl, hc⟩ := h
  have hll := Nm.length_le_wsum ls
  go_enter Try.func38, Try.ntmps38
  go_wp2
  go_loopw [3, 4] (fun t i wr => ∃ (k : Nat) (s : ByteArray), k ≤ ls.length ∧ i = .int .i64 k ∧ t = .string s ∧ Hid (s.data.toList = Nm.preL (ls.take k)) ∧ Below w.heap.size w wr)
    (fun _ i _ => ls.length - (intOf i).toNat)
  case atStart => exact ⟨0, _, Nat.zero_le _, rfl, rfl, rfl, Below.refl _ _⟩
  case round =>
    obtain ⟨k, s, hk, rfl, rfl, HS, hbel⟩ := hrel
    have hw := Nm.wsum_take_le ls k
    have hsz := hbel.size
    have hss : s.size = Nm.wsum (ls.take k) := by rw [← size_list, HS.out, Nm.preL_length]
    have hss' : s.size ≤ 1000000000 := by omega
    by_cases hlt : k < ls.length
    · obtain ⟨x, hx⟩ : ∃ x, ls[k]? = some x := ⟨_, List.getElem?_eq_getElem hlt⟩
      obtain ⟨b, off, rfl, hcell⟩ := hc (by intro h; rw [h] at hlt; simp at hlt)
      have hbk : b < wr.heap.size := Nat.lt_of_lt_of_le (World.block_lt_of_cell? w _ (hcell k x hx)) hsz
      have hcx : wr.cell? ⟨b, off + k, none⟩ = some (.string x) := (hbel.cell (World.block_lt_of_cell? w _ (hcell k x hx))).trans (hcell k x hx)
      have HP : Hid (Nm.preL (ls.take (k + 1)) = Nm.preL (ls.take k) ++ (UInt8.ofNat x.size :: x.data.toList)) := Nm.preL_step hx
      have hw1 : s.size + (1 + x.size) ≤ 1000000000 := by
        have h1 := Nm.wsum_step hx
        have h2 := Nm.wsum_take_le ls (k + 1)
        omega
      have hcv := fun n => conv_one_drew n wr
      clear hx hcell hc hnl hss hw
      go_wp2
      go_region
      all_goals
        go_wp2
        go_roundw
        case rel => exact ⟨k + 1, _, by omega, by go_num, rfl, by show _ = _; rw [HP.out, ← HS.out]; simp [byte_mod], (hbel.alloc hsz _).drew⟩
        case measure => simp [intOf]; omega
    · have hkl : k = ls.length := by omega
      subst hkl
      rw [List.take_length] at HS
      clear hc hnl hw hlt hss
      have hone : (ByteArray.mk #[0]).size = 1 := rfl
      go_wp2
      go_ret
      exact ⟨ret_str (ba_ext (by simp [Nm.joinL, HS.out])), hbel⟩
end Go.Proofs.Ytoiajlgmnkoekaa
