/- laws.eqStringS over two slices that hold the same strings. -/
import Derived.Test.YtghapfpapjgbjaaLab
import Derived.Test.YtghapfpapjgbjaaRows
import Derived.WalkSpells
import Derived.WalkLawsBesides
import Derived.RegionTactic
import Derived.BigRegion
import Derived.BigQuiet
import Derived.Deep.QuietTactic
namespace Go.Proofs.Ytghapfpapjgbjaa
open Go.RowKit

set_option maxRecDepth 100000 in
set_option maxHeartbeats 800000 in
theorem eqStringS_any (v u : Value) (ls : List ByteArray) (w : World) (h : Nm.SRow w v ls) (h' : Nm.SRow w u ls) (hlen : ls.length ≤ 1000000000) :
    Calls Try.prog 32 #[v, u] w fun e w' => e = .returned (.bool true) ∧ Below w.heap.size w w' := by
  obtain ⟨a, cap, rfl, hcap, hmx, hnl, hc⟩ := h
  obtain ⟨a', cap', rfl, hcap', hmx', hnl', hc'⟩ := h'
  have hne : ((ls.length : Int) != (ls.length : Int)) = false := by simp
  clear hnl hnl'
  go_enter Try.func32, Try.ntmps32
  go_wp2
  go_loopw [5] (fun i wr => ∃ k : Nat, k ≤ ls.length ∧ i = .int .i64 k ∧ Below w.heap.size w wr) (fun i _ => ls.length - (intOf i).toNat)
  case atStart => exact ⟨0, Nat.zero_le _, rfl, Below.refl _ _⟩
  case round =>
    obtain ⟨k, hk, rfl, hbel⟩ := hrel
    by_cases hlt : k < ls.length
    · obtain ⟨x, hx⟩ : ∃ x, ls[k]? = some x := ⟨_, List.getElem?_eq_getElem hlt⟩
      have hls : ls ≠ [] := by intro h; rw [h] at hlt; simp at hlt
      obtain ⟨b, off, rfl, hcell⟩ := hc hls
      obtain ⟨b', off', rfl, hcell'⟩ := hc' hls
      have hcx : wr.cell? ⟨b, off + k, none⟩ = some (.string x) := (hbel.cell (World.block_lt_of_cell? w _ (hcell k x hx))).trans (hcell k x hx)
      have hcx' : wr.cell? ⟨b', off' + k, none⟩ = some (.string x) := (hbel.cell (World.block_lt_of_cell? w _ (hcell' k x hx))).trans (hcell' k x hx)
      have hxx : (x.toList == x.toList) = true := by simp
      clear hx hcell hcell' hc hc' hls
      go_wp2
      go_region
      all_goals
        go_wp2
        go_roundw
        case rel => exact ⟨k + 1, by omega, by go_num, hbel.drew⟩
        case measure => simp [intOf]; omega
    · go_wp2
      go_ret
      exact ⟨rfl, hbel⟩
end Go.Proofs.Ytghapfpapjgbjaa
