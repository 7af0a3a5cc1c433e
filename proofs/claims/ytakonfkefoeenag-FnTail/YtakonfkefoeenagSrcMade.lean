/- A source that has just been made. -/
import Derived.Test.YtakonfkefoeenagDraw6
namespace Go.Proofs.Ytakonfkefoeenag
open Go.RowKit

theorem code_below {w w1 : World} {a : Option Addr} {n : Nat} (h : CodeIn w a n) (hb : Below w.heap.size w w1) : CodeIn w1 a n := by
  rcases h with h | ⟨b, off, e, hc⟩
  · exact .inl h
  · refine .inr ⟨b, off, e, fun j hj => ?_⟩
    obtain ⟨c, hc1, hc2⟩ := hc j hj
    exact ⟨c, (hb.cell (World.block_lt_of_cell? w _ hc1)).trans hc1, hc2⟩

theorem code_at {w w1 : World} {a : Option Addr} {n : Nat} (h : CodeIn w a n) (hb : Below w.heap.size w w1) : CodeAt w1 w.heap.size a n := by
  rcases h with h | ⟨b, off, e, hc⟩
  · exact .inl h
  · rcases Nat.eq_zero_or_pos n with hn | hn
    · exact .inl hn
    refine .inr ⟨b, off, e, ?_, fun j hj => ?_⟩
    · obtain ⟨c, hc1, _⟩ := hc 0 hn
      have : b < w.heap.size := World.block_lt_of_cell? w _ hc1
      omega
    · obtain ⟨c, hc1, hc2⟩ := hc j hj
      exact ⟨c, (hb.cell (World.block_lt_of_cell? w _ hc1)).trans hc1, hc2⟩

theorem src_made {w : World} {a : Option Addr} {n cap : Nat} (h : CodeIn w a n) (hn : n ≤ 1048576) (st : Int) :
    Src (w.alloc (.cells #[.slice a n cap, .int .i64 0, .int .u64 st] 69 (0, 0))) w.heap.size a n cap :=
  ⟨0, st, heap_alloc_new w _, Int.le_refl _, Int.natCast_nonneg _, hn, code_at h ((Below.refl _ _).alloc (Nat.le_refl _) _)⟩
end Go.Proofs.Ytakonfkefoeenag
