/- spec.DrawNameOK by its contract. -/
import Derived.Test.YtakonfkefoeenafSrcMade
namespace Go.Proofs.Ytakonfkefoeenaf
open Go.RowKit

set_option maxRecDepth 100000 in
set_option maxHeartbeats 400000 in
theorem drawNameOK_any (a : Option Addr) (n cap : Nat) (w : World) (h : CodeIn w a n) (hn : n ≤ 1048576) :
    Calls Try.prog 12 #[.slice a n cap] w fun e w' => ∃ s : ByteArray, e = .returned (.string s) ∧ s.size ≤ 2000 ∧ Below w.heap.size w w' := by
  go_enter Try.func12, Try.ntmps12
  go_wp2_with fail
  refine (l01Begin_any a n cap _ h hn).mono ?_
  rintro e w1 ⟨st, rfl, hb1⟩
  have HS := src_made (cap := cap) (code_below h hb1) hn st
  have HB := hb1.alloc hb1.size (.cells #[.slice a n cap, .int .i64 0, .int .u64 st] 47 (0, 0))
  go_wp2_with fail
  refine (l01Raw_any w1.heap.size a n cap _ HS).mono ?_
  rintro e w2 ⟨s, rfl, hs, hsrc, hgr⟩
  go_wp2
  go_ret
  exact ⟨s, rfl, hs, HB.grown hgr HB.size (fun k hk => by simp at hk; have := hb1.size; omega)⟩
end Go.Proofs.Ytakonfkefoeenaf
