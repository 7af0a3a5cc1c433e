/- spec.DrawNameOK by its contract. -/
import Derived.Test.YthaddbobochjhafDraw6
namespace Go.Proofs.Ythaddbobochjhaf
open Go.RowKit

theorem code_below {w w1 : World} {a : Option Addr} {n : Nat} (h : CodeIn w a n) (hb : Below w.heap.size w w1) : CodeIn w1 a n := by
  rcases h with h | ⟨b, off, e, hc⟩
  · exact .inl h
  · refine .inr ⟨b, off, e, fun j hj => ?_⟩
    obtain ⟨c, hc1, hc2⟩ := hc j hj
    exact ⟨c, (hb.cell (World.block_lt_of_cell? w _ hc1)).trans hc1, hc2⟩

theorem code_at {w w1 : World} {a : Option Addr} {n : Nat} (h : CodeIn w a n) (hb : Below w.heap.size w w1) : CodeAt w1 w.heap.size a n := by
  rcases h with h | ⟨b, off, e, hc⟩
  · exact .inl h
  · rcases Nat.eq_zero_or_pos n with hn | hn
    · exact .inl hn
    refine .inr ⟨b, off, e, ?_, fun j hj => ?_⟩
    · obtain ⟨c, hc1, _⟩ := hc 0 hn
      have : b < w.heap.size := World.block_lt_of_cell? w _ hc1
      omega
    · obtain ⟨c, hc1, hc2⟩ := hc j hj
      exact ⟨c, (hb.cell (World.block_lt_of_cell? w _ hc1)).trans hc1, hc2⟩

theorem src_made {w : World} {a : Option Addr} {n cap : Nat} (h : CodeIn w a n) (hn : n ≤ 1048576) (st : Int) :
    Src (w.alloc (.cells #[.slice a n cap, .int .i64 0, .int .u64 st] 41 (0, 0))) w.heap.size a n cap :=
  ⟨0, st, heap_alloc_new w _, Int.le_refl _, Int.natCast_nonneg _, hn, code_at h ((Below.refl _ _).alloc (Nat.le_refl _) _)⟩

set_option maxRecDepth 100000 in
set_option maxHeartbeats 400000 in
theorem drawNameOK_any (a : Option Addr) (n cap : Nat) (w : World) (h : CodeIn w a n) (hn : n ≤ 1048576) :
    Calls Try.prog 6 #[.slice a n cap] w fun e w' => ∃ s : ByteArray, e = .returned (.string s) ∧ s.size ≤ 2000 ∧ Below w.heap.size w w' := by
  go_enter Try.func6, Try.ntmps6
  go_wp2_with fail
  refine (l01Begin_any a n cap _ h hn).mono ?_
  rintro e w1 ⟨st, rfl, hb1⟩
  have HS := src_made (cap := cap) (code_below h hb1) hn st
  have HB := hb1.alloc hb1.size (.cells #[.slice a n cap, .int .i64 0, .int .u64 st] 41 (0, 0))
  go_wp2_with fail
  refine (l01Raw_any w1.heap.size a n cap _ HS).mono ?_
  rintro e w2 ⟨s, rfl, hs, hsrc, hgr⟩
  go_wp2
  go_ret
  exact ⟨s, rfl, hs, HB.grown hgr HB.size (fun k hk => by simp at hk; have := hb1.size; omega)⟩
end Go.Proofs.Ythaddbobochjhaf
