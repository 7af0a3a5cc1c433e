/- spec.l01Three by its contract. -/
import Derived.Test.YtakonfkefoeenaaShowM
import Derived.Test.YtakonfkefoeenaaRows
import Derived.WalkSpells
import Derived.WalkLawsBesides
import Derived.Deep.AppendLies
namespace Go.Proofs.Ytakonfkefoeenaa
open Go.RowKit

theorem conv_new (l : List UInt8) (W : World) :
    (convert 36 9 (.slice (some ⟨W.heap.size, 0, none⟩) l.length l.length)).run Try.prog (W.alloc (.cells (Nm.bys l).toArray 5)) = .ok (.string ⟨l.toArray⟩) (W.alloc (.cells (Nm.bys l).toArray 5)) := by
  refine run_convert_bytes_back _ 36 9 5 ⟨W.heap.size, 0, none⟩ l.length l Try.underlying36 Try.underlying5 Try.underlying9 ?_
  intro j hj
  exact World.news_of_block (heap_alloc_new W _) j _ (by simp [Nm.bys, hj])

theorem three_cells (c : UInt8) : [Value.int .u8 (48 + (c.toNat : Int) / 100), .int .u8 (48 + (c.toNat : Int) / 10 % 10), .int .u8 (48 + (c.toNat : Int) % 10)] = Nm.bys (Nm.threeL c) := by
  have := c.toNat_lt
  simp [Nm.bys, Nm.threeL]; omega

theorem conv_three (c : UInt8) (W : World) :
    (convert 36 9 (.slice (some ⟨W.heap.size, 0, none⟩) 3 3)).run Try.prog (W.alloc (.cells #[.int .u8 (48 + (c.toNat : Int) / 100), .int .u8 (48 + (c.toNat : Int) / 10 % 10), .int .u8 (48 + (c.toNat : Int) % 10)] 5)) =
      .ok (.string ⟨(Nm.threeL c).toArray⟩) (W.alloc (.cells #[.int .u8 (48 + (c.toNat : Int) / 100), .int .u8 (48 + (c.toNat : Int) / 10 % 10), .int .u8 (48 + (c.toNat : Int) % 10)] 5)) := by
  have h := conv_new (Nm.threeL c) W
  rw [← three_cells c] at h
  exact h

set_option maxRecDepth 100000 in
set_option maxHeartbeats 400000 in
theorem l01Three_any (c : UInt8) (w : World) :
    Calls Try.prog 16 #[.int .i64 c.toNat] w fun e w' => e = .returned (.string ⟨(Nm.threeL c).toArray⟩) ∧ Below w.heap.size w w' := by
  have hcv := conv_three c w
  have hcl : (c.toNat : Int) < 256 := by have := c.toNat_lt; omega
  generalize ByteArray.mk (Nm.threeL c).toArray = r at *
  go_enter Try.func16, Try.ntmps16
  go_wp2
  go_ret
  exact ⟨rfl, (Below.refl _ _).alloc (Nat.le_refl _) _⟩

end Go.Proofs.Ytakonfkefoeenaa
