/- The program's lexer: where it lies, and its small functions. -/
import Derived.Test.YtjbdfooppokonaaDoorLxM
import Derived.Test.YtjbdfooppokonaaDoorCRow
import Derived.Test.YtjbdfooppokonaaDoorGrT
import Derived.Test.YtjbdfooppokonaaDoorRows
import Derived.WalkSpells
import Derived.WalkLawsBesides
import Derived.RegionTactic
import Derived.BigRegion
import Derived.BigQuiet
import Derived.Deep.QuietTactic
namespace Go.Proofs.YtjbdfooppokonaaDoor
open Go.RowKit
set_option linter.unusedVariables false

/-- A lexer lies in block g: its text, its place, the line's number, where a parenthesis is open. -/
def Lx (w : World) (g : Nat) (s : ByteArray) (p n o : Nat) : Prop := w.heap[g]? = some (.cells #[.string s, .int .i64 p, .int .i64 n, .int .i64 o] 37 (0, 0))
theorem Lx.cells {w : World} {g p n o : Nat} {s : ByteArray} (h : Lx w g s p n o) : w.cell? ⟨g, 0, none⟩ = some (.string s) ∧ w.cell? ⟨g, 1, none⟩ = some (.int .i64 p) ∧ w.cell? ⟨g, 2, none⟩ = some (.int .i64 n) ∧ w.cell? ⟨g, 3, none⟩ = some (.int .i64 o) ∧ (∀ i, w.frozen? ⟨g, i, none⟩ = false) := by
  refine ⟨?_, ?_, ?_, ?_, fun i => frozen_of_row w g i _ _ h⟩ <;> · rw [cell_of_row _ _ _ _ _ _ h]; rfl
theorem Lx.at {w : World} {g p n o q : Nat} {s : ByteArray} (h : Lx w g s p n o) : Lx (w.setCell ⟨g, 1, none⟩ (.int .i64 q)) g s q n o := by
  unfold Lx
  rw [heap_setCell_same w g 1 _ _ _ h]; rfl
theorem Lx.num {w : World} {g p n o q : Nat} {s : ByteArray} (h : Lx w g s p n o) : Lx (w.setCell ⟨g, 2, none⟩ (.int .i64 q)) g s p q o := by
  unfold Lx
  rw [heap_setCell_same w g 2 _ _ _ h]; rfl
theorem Lx.opn {w : World} {g p n o q : Nat} {s : ByteArray} (h : Lx w g s p n o) : Lx (w.setCell ⟨g, 3, none⟩ (.int .i64 q)) g s p n q := by
  unfold Lx
  rw [heap_setCell_same w g 3 _ _ _ h]; rfl

/-- What is wrong, as an error. -/
abbrev codE (c : Nat) : Value := .iface 50 (.int .i64 c)
abbrev linE (q c : Nat) : Value := .iface 57 (.agg #[.int .i64 q, codE c])

set_option maxRecDepth 100000 in
set_option maxHeartbeats 400000 in
theorem ended_any (g p n o : Nat) (s : ByteArray) (w : World) (h : Lx w g s p n o) :
    Calls Tryd.prog 22 #[.pointer (some ⟨g, 0, none⟩)] w fun e w' => e = .returned (.bool (decide (p = s.size))) ∧ w' = w.drew := by
  obtain ⟨c0, c1, c2, c3, hf⟩ := h.cells
  have hd : (((p : Int) == (s.size : Int))) = decide (p = s.size) := by rw [Bool.eq_iff_iff]; simp; omega
  go_enter Tryd.func22, Tryd.ntmps22
  go_wp2
  go_region
  go_wp2
  go_ret
  exact ⟨by first | rfl | (rw [← hd]; rfl), rfl⟩

set_option maxRecDepth 100000 in
set_option maxHeartbeats 400000 in
theorem fault_any (g p n o c : Nat) (s : ByteArray) (w : World) (h : Lx w g s p n o) :
    Calls Tryd.prog 38 #[.pointer (some ⟨g, 0, none⟩), .int .i64 c] w fun e w' => e = .returned (linE n c) ∧ w' = w := by
  obtain ⟨c0, c1, c2, c3, hf⟩ := h.cells
  go_enter Tryd.func38, Tryd.ntmps38
  go_wp2
  go_ret
  exact ⟨rfl, rfl⟩
end Go.Proofs.YtjbdfooppokonaaDoor
