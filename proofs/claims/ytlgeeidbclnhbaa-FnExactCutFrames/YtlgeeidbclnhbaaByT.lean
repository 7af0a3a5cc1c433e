/- laws.toByteS, eqByteS by their contracts. -/
import Derived.Test.YtlgeeidbclnhbaaByS
namespace Go.Proofs.Ytlgeeidbclnhbaa
open Go.RowKit
set_option linter.unusedVariables false

set_option maxRecDepth 100000 in
set_option maxHeartbeats 800000 in
theorem toByteS_any (v : Value) (l : List UInt8) (w : World) (h : BySl w v l) (hl : l.length ≤ 1048576) :
    Calls Try.prog 5 #[v] w fun e w' => ∃ v', e = .returned v' ∧ BySl w' v' l ∧ Below w.heap.size w w' := by
  obtain ⟨_, a, cap, rfl, hcap, hmx, hc⟩ := h
  have hmk := run_make_row' (P := Try.prog) 22 5 (.int .u8 0) 1 Try.underlying22 Try.infoBy rfl .i64 .i64 l.length (by omega) (by omega) w
  have hrow0 := World.rowIs_made w (.int .u8 0) l.length 5
  have hbel0 : Below w.heap.size w (w.alloc (.cells (madeCells #[.int .u8 0] l.length) 5)) := (Below.refl _ _).alloc (Nat.le_refl _) _
  generalize w.alloc (.cells (madeCells #[.int .u8 0] l.length) 5) = w0 at *
  go_enter Try.func5, Try.ntmps5
  go_wp2
  go_loopw [4] (fun i wr => ∃ k : Nat, k ≤ l.length ∧ i = .int .i64 k ∧ wr.rowIs w.heap.size 5 l.length (fun j => if j < k then .int .u8 (l.getD j 0).toNat else .int .u8 0) ∧ Below w.heap.size w wr)
    (fun i _ => l.length - (intOf i).toNat)
  case atStart => exact ⟨0, Nat.zero_le _, rfl, hrow0.congr (fun j _ => by simp), hbel0⟩
  case round =>
    obtain ⟨k, hk, rfl, hrow, hbel⟩ := hrel
    clear hrow0 hbel0 hmk
    by_cases hlt : k < l.length
    · have hlt' : (k : Int) < (l.length : Int) := by omega
      obtain ⟨t, ht⟩ : ∃ t, l[k]? = some t := ⟨_, List.getElem?_eq_getElem hlt⟩
      obtain ⟨b, off, rfl, hcell⟩ := hc (by omega)
      have hcx0 := hcell k (.int .u8 t.toNat) (by simp [Nm.bys, ht])
      have hcx : wr.cell? ⟨b, off + k, none⟩ = some (.int .u8 t.toNat) := (hbel.cell (World.block_lt_of_cell? w _ hcx0)).trans hcx0
      have hcn : wr.cell? ⟨w.heap.size, k, none⟩ = some (.int .u8 0) := by rw [hrow.cell hlt, if_neg (Nat.lt_irrefl _)]
      have hfn := hrow.frozen k
      have HROW : Hid ((wr.setCell ⟨w.heap.size, k, none⟩ (.int .u8 t.toNat)).rowIs w.heap.size 5 l.length (fun j => if j < k + 1 then .int .u8 (l.getD j 0).toNat else .int .u8 0)) := by
        refine (hrow.set k (.int .u8 t.toNat)).congr (fun j _ => ?_)
        by_cases e : j = k
        · subst e
          rw [if_pos rfl, if_pos (by omega), List.getD_eq_getElem?_getD, ht]; rfl
        · rw [if_neg e]
          by_cases h2 : j < k
          · rw [if_pos h2, if_pos (by omega)]
          · rw [if_neg h2, if_neg (by omega)]
      have HB : Hid (Below w.heap.size w (wr.setCell ⟨w.heap.size, k, none⟩ (.int .u8 t.toNat))) := hbel.setCell (Nat.le_refl _) _
      clear hc hcell hcx0 ht hrow
      go_wp2
      go_roundw
      case rel => exact ⟨k + 1, by omega, by go_num, HROW.out, HB.out⟩
      case measure => simp [intOf]; omega
    · have hlt' : (l.length : Int) ≤ (k : Int) := by omega
      have hlk : k = l.length := by omega
      have HC : Hid (BySl wr (.slice (some ⟨w.heap.size, 0, none⟩) l.length l.length) l) := by
        refine ⟨by rw [Nm.bys_length, Nat.mul_one], some ⟨w.heap.size, 0, none⟩, l.length, rfl, Nat.le_refl _, by unfold maxLen; omega, fun _ => ⟨w.heap.size, 0, rfl, fun i x hx => ?_⟩⟩
        have hi : i < l.length := by
          have := (List.getElem?_eq_some_iff.1 hx).1
          rwa [Nm.bys_length] at this
        rw [Nat.zero_add, hrow.cell hi, if_pos (by omega), ← hx, Nm.bys, List.getElem?_map, List.getD_eq_getElem?_getD, List.getElem?_eq_getElem hi]
        rfl
      clear hc hrow
      go_wp2
      go_ret
      exact ⟨_, rfl, HC.out, hbel⟩

set_option maxRecDepth 100000 in
set_option maxHeartbeats 800000 in
theorem eqByteS_any (v u : Value) (l : List UInt8) (w : World) (h : BySl w v l) (h' : BySl w u l) (hlen : l.length ≤ 1000000000) :
    Calls Try.prog 8 #[v, u] w fun e w' => e = .returned (.bool true) ∧ Below w.heap.size w w' := by
  obtain ⟨_, a, cap, rfl, hcap, hmx, hc⟩ := h
  obtain ⟨_, a', cap', rfl, hcap', hmx', hc'⟩ := h'
  have hne : ((l.length : Int) != (l.length : Int)) = false := by simp
  go_enter Try.func8, Try.ntmps8
  go_wp2
  go_loopw [5] (fun i wr => ∃ k : Nat, k ≤ l.length ∧ i = .int .i64 k ∧ Below w.heap.size w wr) (fun i _ => l.length - (intOf i).toNat)
  case atStart => exact ⟨0, Nat.zero_le _, rfl, Below.refl _ _⟩
  case round =>
    obtain ⟨k, hk, rfl, hbel⟩ := hrel
    by_cases hlt : k < l.length
    · obtain ⟨x, hx⟩ : ∃ x, l[k]? = some x := ⟨_, List.getElem?_eq_getElem hlt⟩
      have hx' : (Nm.bys l)[k]? = some (.int .u8 x.toNat) := by simp [Nm.bys, hx]
      obtain ⟨b, off, rfl, hcell⟩ := hc (by omega)
      obtain ⟨b', off', rfl, hcell'⟩ := hc' (by omega)
      have hcx : wr.cell? ⟨b, off + k, none⟩ = some (.int .u8 x.toNat) := (hbel.cell (World.block_lt_of_cell? w _ (hcell k _ hx'))).trans (hcell k _ hx')
      have hcx' : wr.cell? ⟨b', off' + k, none⟩ = some (.int .u8 x.toNat) := (hbel.cell (World.block_lt_of_cell? w _ (hcell' k _ hx'))).trans (hcell' k _ hx')
      have hxx : ((x.toNat : Int) != (x.toNat : Int)) = false := by simp
      clear hx hx' hcell hcell' hc hc'
      go_wp2
      go_region
      all_goals
        go_wp2
        go_roundw
        case rel => exact ⟨k + 1, by omega, by go_num, hbel.drew⟩
        case measure => simp [intOf]; omega
    · clear hc hc'
      go_wp2
      go_ret
      exact ⟨rfl, hbel⟩
end Go.Proofs.Ytlgeeidbclnhbaa
