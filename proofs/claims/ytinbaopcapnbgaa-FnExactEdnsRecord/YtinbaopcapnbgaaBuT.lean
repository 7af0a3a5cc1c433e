/- A builder of strings, carried on. -/
import Derived.Test.YtinbaopcapnbgaaOwnS
import Derived.Test.YtinbaopcapnbgaaShelfW
namespace Go.Proofs.Ytinbaopcapnbgaa
open Go.RowKit
set_option linter.unusedVariables false
theorem bu_lt {T e : TypeId} {B b : Nat} {bs : List Value} {w : World} (h : Lib.IsBuilder T e B b bs w) : b < w.heap.size := by
  rcases h with h | h <;> exact h.lt

theorem bu_below {T e : TypeId} {B b : Nat} {bs : List Value} {w W : World} (h : Lib.IsBuilder T e B b bs w) (hb : Below w.heap.size w W) : Lib.IsBuilder T e B b bs W := by
  have hlt := bu_lt h
  rcases h with ⟨hB, v, h1, h2, h3⟩ | ⟨hB, v, h1, h2, h3⟩
  · exact .inl ⟨hB, v, (hb.block b hlt).trans h1, own_below h2 hb, h3⟩
  · exact .inr ⟨hB, v, (hb.block b hlt).trans h1, own_below h2 hb, h3⟩
end Go.Proofs.Ytinbaopcapnbgaa
