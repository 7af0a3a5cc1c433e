/- What DecodeHead answers; cells laid into a block. -/
import Derived.Test.YtakonfkefoeenadHd1
namespace Go.Proofs.Ytakonfkefoeenad
open Go.RowKit
set_option linter.unusedVariables false

theorem setAll_below {w : World} {B b : Nat} (hb : B ≤ b) : ∀ (vs : List Value) (i : Nat) (W : World), Below B w W → Below B w (setAll W b i vs) := by
  intro vs
  induction vs with
  | nil => intro i W h; exact h
  | cons v vs ih => intro i W h; exact ih (i + 1) _ (h.setCell hb _)

theorem gen_world {Pr G : World → Prop} {W : World} (h : Pr W) (k : ∀ W, Pr W → G W) : G W := k W h

/-- What DecodeHead answers. -/
def dhV (l : List UInt8) : Value :=
  if 12 ≤ l.length then .tuple #[.agg (hdA (n16 l 0) (n16 l 2)), .agg (ctA l), .int .i64 0] else .tuple #[.agg hd0, .agg ct0, .int .i64 8]

end Go.Proofs.Ytakonfkefoeenad
