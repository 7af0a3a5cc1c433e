import Derived.Test.YtmclegfejkoaoaaDoorSSplit
import Derived.Test.YtmclegfejkoaoaaDoorJMath
import Derived.Test.YtmclegfejkoaoaaDoorRows
import Derived.WalkSpells
import Derived.WalkLawsBesides
import Derived.RegionTactic
import Derived.ChangeAlike
import Derived.BigRegion
/- spec.NameOK by its contract. -/
namespace Go.Proofs.YtmclegfejkoaoaaDoor
open Go.RowKit

set_option maxRecDepth 100000 in
set_option maxHeartbeats 400000 in
theorem specNameOK_any (s : ByteArray) (w : World) (hs : s.size ≤ maxLen) :
    Calls Tryd.prog 25 #[.string s] w fun e w' => e = .returned (.bool (Nm.split s).isSome) ∧ Below w.heap.size w w' := by
  go_enter Tryd.func25, Tryd.ntmps25
  go_wp2_with (go_at_call 35; refine (l01Split_any s _ hs).mono ?_; rintro e w1 ⟨v, rfl, hown, hbel⟩)
  go_ret
  exact ⟨rfl, by assumption⟩
end Go.Proofs.YtmclegfejkoaoaaDoor
/- string([]byte{c}), and small things. -/
namespace Go.Proofs.YtmclegfejkoaoaaDoor
open Go.RowKit

theorem conv_one (n : Int) (W : World) :
    (convert 22 9 (.slice (some ⟨W.heap.size, 0, none⟩) 1 1)).run Tryd.prog (W.alloc (.cells #[.int .u8 n] 5)) = .ok (.string ⟨#[UInt8.ofNat n.toNat]⟩) (W.alloc (.cells #[.int .u8 n] 5)) := by
  rw [run_convert_bytes_string _ 22 9 5 _ _ _ Tryd.underlying22 Tryd.underlying5 Tryd.underlying9]
  have hl := run_loadCells_list (P := Tryd.prog) (W.alloc (.cells #[.int .u8 n] 5)) ⟨W.heap.size, 0, none⟩ ([n].map (Value.int .u8)) (fun j v hj => cell_one_new W (.int .u8 n) 5 j v hj)
  rw [run_bytesToString _ _ 1 1 [n] hl]
  rfl

theorem conv_one_drew (n : Int) (W : World) :
    (convert 22 9 (.slice (some ⟨W.heap.size, 0, none⟩) 1 1)).run Tryd.prog (W.alloc (.cells #[.int .u8 n] 5)).drew = .ok (.string ⟨#[UInt8.ofNat n.toNat]⟩) (W.alloc (.cells #[.int .u8 n] 5)).drew :=
  conv_one n W.drew

theorem ret_str {a b : ByteArray} (h : a = b) : Ending.returned (.string a) = .returned (.string b) := by rw [h]

theorem byte_mod (n : Nat) : UInt8.ofNat (n % 256) = UInt8.ofNat n := by
  apply UInt8.toNat_inj.1
  simp

theorem ba_ext {a b : ByteArray} (h : a.data.toList = b.data.toList) : a = b := by
  apply ByteArray.ext
  exact Array.toList_inj.1 h

theorem size_list (s : ByteArray) : s.data.toList.length = s.size := by simp

end Go.Proofs.YtmclegfejkoaoaaDoor
/- spec.l01Join by its contract. -/
namespace Go.Proofs.YtmclegfejkoaoaaDoor
open Go.RowKit

set_option maxRecDepth 100000 in
set_option maxHeartbeats 800000 in
theorem l01Join_any (v : Value) (ls : List ByteArray) (w : World) (h : Nm.SRow w v ls) (hlen : Nm.wsum ls ≤ 1000000000) :
    Calls Tryd.prog 29 #[v] w fun e w' => e = .returned (.string ⟨(Nm.joinL ls).toArray⟩) ∧ Below w.heap.size w w' := by
  obtain ⟨a, cap, rfl, hcap, hmx, hnl, hc⟩ := h
  have hll := Nm.length_le_wsum ls
  go_enter Tryd.func29, Tryd.ntmps29
  go_wp2
  go_loopw [3, 4] (fun t i wr => ∃ (k : Nat) (s : ByteArray), k ≤ ls.length ∧ i = .int .i64 k ∧ t = .string s ∧ Hid (s.data.toList = Nm.preL (ls.take k)) ∧ Below w.heap.size w wr)
    (fun _ i _ => ls.length - (intOf i).toNat)
  case atStart => exact ⟨0, _, Nat.zero_le _, rfl, rfl, rfl, Below.refl _ _⟩
  case round =>
    obtain ⟨k, s, hk, rfl, rfl, HS, hbel⟩ := hrel
    have hw := Nm.wsum_take_le ls k
    have hsz := hbel.size
    have hss : s.size = Nm.wsum (ls.take k) := by rw [← size_list, HS.out, Nm.preL_length]
    have hss' : s.size ≤ 1000000000 := by omega
    by_cases hlt : k < ls.length
    · obtain ⟨x, hx⟩ : ∃ x, ls[k]? = some x := ⟨_, List.getElem?_eq_getElem hlt⟩
      obtain ⟨b, off, rfl, hcell⟩ := hc (by intro h; rw [h] at hlt; simp at hlt)
      have hbk : b < wr.heap.size := Nat.lt_of_lt_of_le (World.block_lt_of_cell? w _ (hcell k x hx)) hsz
      have hcx : wr.cell? ⟨b, off + k, none⟩ = some (.string x) := (hbel.cell (World.block_lt_of_cell? w _ (hcell k x hx))).trans (hcell k x hx)
      have HP : Hid (Nm.preL (ls.take (k + 1)) = Nm.preL (ls.take k) ++ (UInt8.ofNat x.size :: x.data.toList)) := Nm.preL_step hx
      have hw1 : s.size + (1 + x.size) ≤ 1000000000 := by
        have h1 := Nm.wsum_step hx
        have h2 := Nm.wsum_take_le ls (k + 1)
        omega
      have hcv := fun n => conv_one_drew n wr
      clear hx hcell hc hnl hss hw
      go_wp2
      go_region
      all_goals
        go_wp2
        go_roundw
        case rel => exact ⟨k + 1, _, by omega, by go_num, rfl, by show _ = _; rw [HP.out, ← HS.out]; simp [byte_mod], (hbel.alloc hsz _).drew⟩
        case measure => simp [intOf]; omega
    · have hkl : k = ls.length := by omega
      subst hkl
      rw [List.take_length] at HS
      clear hc hnl hw hlt hss
      have hone : (ByteArray.mk #[0]).size = 1 := rfl
      go_wp2
      go_ret
      exact ⟨ret_str (ba_ext (by simp [Nm.joinL, HS.out])), hbel⟩
end Go.Proofs.YtmclegfejkoaoaaDoor
