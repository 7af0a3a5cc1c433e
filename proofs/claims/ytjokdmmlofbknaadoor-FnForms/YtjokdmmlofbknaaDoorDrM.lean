import Derived.Test.YtjokdmmlofbknaaDoorJFmG
import Derived.Test.YtjokdmmlofbknaaDoorJJoin
import Derived.Maps.AppendAt
/- spec.l02DrawMap by its contract. -/
namespace Go.Proofs.YtjokdmmlofbknaaDoor
open Go.RowKit
set_option linter.unusedVariables false

theorem Tryd.infoI64d : (Tryd.prog.info? 2).map (fun i => (i.zero, i.size, i.bytes)) = some (some (.int .i64 0), 1, 8) := by kernel_rfl
theorem drw_step {w w3 wb : World} {g n cap e m : Nat} {a : Option Addr} {v : Value} {xs : List Value} {o : Obj}
    (hown : w3.ownsRow w.heap.size e 1 v m xs) (hsrc : Src w3 g a n cap) (hg : w.grownBy w3 (some g)) (hlt : g < w.heap.size) (hcode : CodeAt w g a n) (hgrow : (w3.alloc o).grownBy wb v.ownBlock) :
    Src wb g a n cap ∧ w.grownBy wb (some g) := by
  have hrow : ∀ q, v.ownBlock = some q → w.heap.size ≤ q := fun q hq => (hown.lt q hq).1
  exact ⟨src_grown (src_below hsrc ((Below.refl _ _).alloc (Nat.le_refl _) _)) hgrow hrow hlt hcode, grown_own (grown_alloc hg _) hgrow hrow⟩
theorem mapR_size (l : List Int) : (mapR l).1.size ≤ 8704 := by
  rw [mapR]
  split
  · show (outTo (memB l) 256).toArray.size ≤ _
    have := outTo_len (memB l) 256
    simpa using this
  · show (#[] : Array UInt8).size ≤ _
    decide

end Go.Proofs.YtjokdmmlofbknaaDoor
