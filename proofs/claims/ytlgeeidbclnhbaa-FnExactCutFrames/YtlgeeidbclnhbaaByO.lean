/- laws.toByteS by its contract: a row of the call's own. -/
import Derived.Test.YtlgeeidbclnhbaaByS
namespace Go.Proofs.Ytlgeeidbclnhbaa
open Go.RowKit
set_option linter.unusedVariables false

set_option maxRecDepth 100000 in
set_option maxHeartbeats 800000 in
theorem toByteS_own (v : Value) (l : List UInt8) (w : World) (h : BySl w v l) (hl : l.length ≤ 1048576) :
    Calls Try.prog 5 #[v] w fun e w' => ∃ v', e = .returned v' ∧ w'.ownsRow w.heap.size 5 1 v' l.length (Nm.bys l) ∧ Below w.heap.size w w' := by
  obtain ⟨_, a, cap, rfl, hcap, hmx, hc⟩ := h
  have hmk := run_make_row' (P := Try.prog) 22 5 (.int .u8 0) 1 Try.underlying22 Try.infoBy rfl .i64 .i64 l.length (by omega) (by omega) w
  have hrow0 := World.rowIs_made w (.int .u8 0) l.length 5
  have hbel0 : Below w.heap.size w (w.alloc (.cells (madeCells #[.int .u8 0] l.length) 5)) := (Below.refl _ _).alloc (Nat.le_refl _) _
  generalize w.alloc (.cells (madeCells #[.int .u8 0] l.length) 5) = w0 at *
  go_enter Try.func5, Try.ntmps5
  go_wp2
  go_loopw [4] (fun i wr => ∃ k : Nat, k ≤ l.length ∧ i = .int .i64 k ∧ wr.rowIs w.heap.size 5 l.length (fun j => if j < k then .int .u8 (l.getD j 0).toNat else .int .u8 0) ∧ Below w.heap.size w wr)
    (fun i _ => l.length - (intOf i).toNat)
  case atStart => exact ⟨0, Nat.zero_le _, rfl, hrow0.congr (fun j _ => by simp), hbel0⟩
  case round =>
    obtain ⟨k, hk, rfl, hrow, hbel⟩ := hrel
    clear hrow0 hbel0 hmk
    by_cases hlt : k < l.length
    · have hlt' : (k : Int) < (l.length : Int) := by omega
      obtain ⟨t, ht⟩ : ∃ t, l[k]? = some t := ⟨_, List.getElem?_eq_getElem hlt⟩
      obtain ⟨b, off, rfl, hcell⟩ := hc (by omega)
      have hcx0 := hcell k (.int .u8 t.toNat) (by simp [Nm.bys, ht])
      have hcx : wr.cell? ⟨b, off + k, none⟩ = some (.int .u8 t.toNat) := (hbel.cell (World.block_lt_of_cell? w _ hcx0)).trans hcx0
      have hcn : wr.cell? ⟨w.heap.size, k, none⟩ = some (.int .u8 0) := by rw [hrow.cell hlt, if_neg (Nat.lt_irrefl _)]
      have hfn := hrow.frozen k
      have HROW : Hid ((wr.setCell ⟨w.heap.size, k, none⟩ (.int .u8 t.toNat)).rowIs w.heap.size 5 l.length (fun j => if j < k + 1 then .int .u8 (l.getD j 0).toNat else .int .u8 0)) := by
        refine (hrow.set k (.int .u8 t.toNat)).congr (fun j _ => ?_)
        by_cases e : j = k
        · subst e
          rw [if_pos rfl, if_pos (by omega), List.getD_eq_getElem?_getD, ht]; rfl
        · rw [if_neg e]
          by_cases h2 : j < k
          · rw [if_pos h2, if_pos (by omega)]
          · rw [if_neg h2, if_neg (by omega)]
      have HB : Hid (Below w.heap.size w (wr.setCell ⟨w.heap.size, k, none⟩ (.int .u8 t.toNat))) := hbel.setCell (Nat.le_refl _) _
      clear hc hcell hcx0 ht hrow
      go_wp2
      go_roundw
      case rel => exact ⟨k + 1, by omega, by go_num, HROW.out, HB.out⟩
      case measure => simp [intOf]; omega
    · have hlt' : (l.length : Int) ≤ (k : Int) := by omega
      have hlk : k = l.length := by omega
      have HC : Hid (wr.ownsRow w.heap.size 5 1 (.slice (some ⟨w.heap.size, 0, none⟩) l.length l.length) l.length (Nm.bys l)) := by
        obtain ⟨c, hb, hs, hcs⟩ := hrow
        refine ⟨by rw [Nm.bys_length, Nat.mul_one], .inr ⟨w.heap.size, l.length, c, rfl, Nat.le_refl _, hb, Nat.le_refl _, by unfold maxLen; omega, by omega, ?_⟩⟩
        apply List.ext_getElem?
        intro i
        rw [Nat.mul_one, List.getElem?_take]
        by_cases hi : i < l.length
        · rw [if_pos hi, Array.getElem?_toList, hcs i hi]
          simp only
          rw [if_pos (by omega), Nm.bys, List.getElem?_map, List.getD_eq_getElem?_getD, List.getElem?_eq_getElem hi]
          rfl
        · rw [if_neg hi, List.getElem?_eq_none (by rw [Nm.bys_length]; omega)]
      have hrow := True.intro
      clear hc hrow
      go_wp2
      go_ret
      exact ⟨_, rfl, HC.out, hbel⟩

theorem by_of_own {w : World} {B : Nat} {v : Value} {l : List UInt8} (h : w.ownsRow B 5 1 v l.length (Nm.bys l)) : BySl w v l := CRow.of_owns h
end Go.Proofs.Ytlgeeidbclnhbaa
