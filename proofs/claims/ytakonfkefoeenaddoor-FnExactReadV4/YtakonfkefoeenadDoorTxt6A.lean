/- One byte behind a row of bytes of the call's own. -/
import Derived.Test.YtakonfkefoeenadDoorOwnS
import Derived.Test.YtakonfkefoeenadDoorLab
import Derived.Laws.OwnMore
import Derived.Test.YtakonfkefoeenadDoorFoldM
namespace Go.Proofs.YtakonfkefoeenadDoor
open Go.RowKit

theorem Tryd.infoU8x : (Tryd.prog.info? 5).map (fun i => (i.zero, i.size, i.bytes)) = some (some (.int .u8 0), 1, 1) := by kernel_rfl

/-- What one append of a byte onto a row of the call's own leaves. -/
theorem one_step {W wr w1 : World} {v v' : Value} {B n : Nat} {l : List UInt8} {c : UInt8} (hB : B ≤ wr.heap.size)
    (hown : wr.ownsRow B 5 1 v n (Nm.bys l)) (hbel : Below B W wr) (o : Obj)
    (hown' : w1.ownsRow B 5 1 v' (n + 1) (Nm.bys l ++ [.int .u8 (c.toNat : Int)])) (hgrow : (wr.alloc o).grownBy w1 v.ownBlock) :
    ∃ X, Hid (X = l ++ [c]) ∧ w1.ownsRow B 5 1 v' (n + 1) (Nm.bys X) ∧ Below B W w1 ∧ B ≤ w1.heap.size := by
  have hb : Below B W w1 := by
    refine (hbel.alloc hB o).grown hgrow (by simp; omega) ?_
    intro k hk
    exact (hown.lt k hk).1
  refine ⟨l ++ [c], rfl, by rw [Nm.bys_append]; exact hown', hb, ?_⟩
  have := hgrow.size
  simp at this
  omega

end Go.Proofs.YtakonfkefoeenadDoor
