/- spec.DrawReplaceTail by its contract. -/
import Derived.Test.YtakonfkefoeenagDraw9
namespace Go.Proofs.Ytakonfkefoeenag
open Go.RowKit

set_option maxRecDepth 100000 in
set_option maxHeartbeats 400000 in
theorem drawReplaceTail_any (a : Option Addr) (n cap : Nat) (w : World) (h : CodeIn w a n) (hn : n ≤ 1048576) :
    Calls Try.prog 9 #[.slice a n cap] w fun e w' => ∃ s t u : ByteArray, e = .returned (.tuple #[.string s, .string t, .string u]) ∧ s.size ≤ 2000 ∧ t.size ≤ 2000 ∧ u.size ≤ 2000 ∧ Below w.heap.size w w' := by
  go_enter Try.func9, Try.ntmps9
  go_wp2_with fail
  refine (l01Begin_any a n cap _ h hn).mono ?_
  rintro e w1 ⟨st, rfl, hb1⟩
  have HS := src_made (cap := cap) (code_below h hb1) hn st
  have HB := hb1.alloc hb1.size (.cells #[.slice a n cap, .int .i64 0, .int .u64 st] 69 (0, 0))
  go_wp2_with fail
  refine (l01Raw_any w1.heap.size a n cap _ HS).mono ?_
  rintro e w2 ⟨s, rfl, hs, hs2, hg2⟩
  go_wp2_with fail
  refine (l01Near_any w1.heap.size a n cap s _ hs2 hs).mono ?_
  rintro e w3 ⟨t, rfl, ht, hs3, hg3⟩
  have hG3 := grown_step hg2 hg3
  go_wp2_with fail
  refine (l01Near_any w1.heap.size a n cap t _ hs3 ht).mono ?_
  rintro e w4 ⟨u, rfl, hu, hs4, hg4⟩
  have hG4 := grown_step hG3 hg4
  go_wp2_with fail
  refine (l01Case_any w1.heap.size a n cap s _ hs4 (by unfold maxLen; omega)).mono ?_
  rintro e w5 ⟨v, rfl, hv, hs5, hg5⟩
  have hG5 := grown_step hG4 hg5
  go_wp2_with fail
  refine (l01Raw_any w1.heap.size a n cap _ hs5).mono ?_
  rintro e w6 ⟨x, rfl, hx, hs6, hg6⟩
  have hG6 := grown_step hG5 hg6
  go_wp2
  go_returns
  exact ⟨u, v, x, rfl, hu, by omega, hx, HB.grown hG6 HB.size (fun k hk => by simp at hk; have := hb1.size; omega)⟩
end Go.Proofs.Ytakonfkefoeenag
