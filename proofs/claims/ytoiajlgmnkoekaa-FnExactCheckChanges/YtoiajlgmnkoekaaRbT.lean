import Derived.Test.YtoiajlgmnkoekaaJCRow
/- A record that lies in a block. -/
namespace Go.Proofs.Ytoiajlgmnkoekaa
open Go.RowKit
set_option linter.unusedVariables false

/-- The five cells of a record that lies in a block. -/
def RB (w : World) (g : Nat) (r : Rr) : Prop := w.cell? ⟨g, 0, none⟩ = some (.string r.own) ∧ w.cell? ⟨g, 1, none⟩ = some (.int .i64 r.ty) ∧ w.cell? ⟨g, 2, none⟩ = some (.int .i64 r.cl) ∧ w.cell? ⟨g, 3, none⟩ = some (.int .i64 r.tt) ∧ w.cell? ⟨g, 4, none⟩ = some (.string r.da)
theorem RB.below {w W : World} {g : Nat} {r : Rr} (h : RB w g r) (hb : Below w.heap.size w W) : RB W g r := by
  obtain ⟨a, b, c, d, e⟩ := h
  have put : ∀ {O : Nat} {z : Value}, w.cell? ⟨g, O, none⟩ = some z → W.cell? ⟨g, O, none⟩ = some z := fun h => (hb.cell (World.block_lt_of_cell? w _ h)).trans h
  exact ⟨put a, put b, put c, put d, put e⟩
theorem RB.new (w : World) (r : Rr) (t : Nat) : RB (w.alloc (.cells #[.string r.own, .int .i64 r.ty, .int .i64 r.cl, .int .i64 r.tt, .string r.da] t)) w.heap.size r := by
  refine ⟨?_, ?_, ?_, ?_, ?_⟩ <;> simp
end Go.Proofs.Ytoiajlgmnkoekaa
