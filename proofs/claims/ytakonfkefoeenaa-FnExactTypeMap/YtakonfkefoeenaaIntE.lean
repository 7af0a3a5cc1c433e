/- laws.eqInt64S by its contract. -/
import Derived.Test.YtakonfkefoeenaaCRow
import Derived.RegionTactic
import Derived.BigRegion
namespace Go.Proofs.Ytakonfkefoeenaa
open Go.RowKit

def intCells (l : List Int) : List Value := l.map fun x => .int .i64 x
theorem intCells_len (l : List Int) : (intCells l).length = l.length := by simp [intCells]

set_option maxRecDepth 100000 in
set_option maxHeartbeats 800000 in
theorem eqInt64S_any (v u : Value) (l : List Int) (w : World) (h : CRow w v l.length 1 (intCells l)) (h' : CRow w u l.length 1 (intCells l)) (hlen : l.length ≤ 1000000000) :
    Calls Try.prog 11 #[v, u] w fun e w' => e = .returned (.bool true) ∧ Below w.heap.size w w' := by
  obtain ⟨_, a, cap, rfl, hcap, hmx, hc⟩ := h
  obtain ⟨_, a', cap', rfl, hcap', hmx', hc'⟩ := h'
  have hne : ((l.length : Int) != (l.length : Int)) = false := by simp
  go_enter Try.func11, Try.ntmps11
  go_wp2
  go_loopw [5] (fun i wr => ∃ k : Nat, k ≤ l.length ∧ i = .int .i64 k ∧ Below w.heap.size w wr) (fun i _ => l.length - (intOf i).toNat)
  case atStart => exact ⟨0, Nat.zero_le _, rfl, Below.refl _ _⟩
  case round =>
    obtain ⟨k, hk, rfl, hbel⟩ := hrel
    by_cases hlt : k < l.length
    · obtain ⟨x, hx⟩ : ∃ x, l[k]? = some x := ⟨_, List.getElem?_eq_getElem hlt⟩
      have hx' : (intCells l)[k]? = some (.int .i64 x) := by simp [intCells, hx]
      obtain ⟨b, off, rfl, hcell⟩ := hc (by omega)
      obtain ⟨b', off', rfl, hcell'⟩ := hc' (by omega)
      have hcx : wr.cell? ⟨b, off + k, none⟩ = some (.int .i64 x) := (hbel.cell (World.block_lt_of_cell? w _ (hcell k _ hx'))).trans (hcell k _ hx')
      have hcx' : wr.cell? ⟨b', off' + k, none⟩ = some (.int .i64 x) := (hbel.cell (World.block_lt_of_cell? w _ (hcell' k _ hx'))).trans (hcell' k _ hx')
      have hxx : (x != x) = false := by simp
      clear hx hx' hcell hcell' hc hc'
      go_wp2
      go_region
      all_goals
        go_wp2
        go_roundw
        case rel => exact ⟨k + 1, by omega, by go_num, hbel.drew⟩
        case measure => simp [intOf]; omega
    · clear hc hc'
      go_wp2
      go_ret
      exact ⟨rfl, hbel⟩

end Go.Proofs.Ytakonfkefoeenaa
