import Derived.Test.YtilcbdhcojgcbaaJHd2
/- impl.Triage by its contract. -/
namespace Go.Proofs.Ytilcbdhcojgcbaa
open Go.RowKit
set_option linter.unusedVariables false

set_option maxRecDepth 100000 in
theorem implTriage_any (v : Value) (l : List UInt8) (w : World) (h : BySl w v l) (hl : l.length ≤ 1048576) :
    Calls Try.prog 6 #[v] w fun e w' => e = .returned (.int .i64 (triN l)) ∧ Below w.heap.size w w' := by
  have ho := openMessage_any v l w h hl
  obtain ⟨av, cv, rfl⟩ : ∃ a c, v = .slice a l.length c := by obtain ⟨_, a, c, e, _⟩ := h; exact ⟨a, c, e⟩
  clear h
  generalize triN l = TR at *
  go_enter Try.func6, Try.ntmps6
  go_wp2_with fail
  refine ho.mono ?_
  rintro e w1 ⟨⟨xs, hx, rfl⟩, b1⟩
  have hp : ∀ W, (Instr.field 47 (.agg (Value.int .i64 TR :: xs).toArray) 0).run Try.prog W = .ok (.int .i64 TR) W := fun W => by
    simp [Instr.field, run_underlying Try.underlying47, asAgg, part, go_sem]
  go_wp2
  go_ret
  exact ⟨rfl, b1⟩
end Go.Proofs.Ytilcbdhcojgcbaa
