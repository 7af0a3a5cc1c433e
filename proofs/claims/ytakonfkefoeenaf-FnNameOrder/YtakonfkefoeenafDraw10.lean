/- spec.DrawSameName and spec.DrawCompareNames by their contracts. -/
import Derived.Test.YtakonfkefoeenafDraw9
namespace Go.Proofs.Ytakonfkefoeenaf
open Go.RowKit

set_option maxRecDepth 100000 in
set_option maxHeartbeats 400000 in
theorem drawSameName_any (a : Option Addr) (n cap : Nat) (w : World) (h : CodeIn w a n) (hn : n ≤ 1048576) :
    Calls Try.prog 45 #[.slice a n cap] w fun e w' => ∃ s t : ByteArray, e = .returned (.tuple #[.string s, .string t]) ∧ s.size ≤ 2000 ∧ t.size ≤ 2000 ∧ Below w.heap.size w w' := by
  go_enter Try.func45, Try.ntmps45
  go_wp2_with fail
  refine (l01Begin_any a n cap _ h hn).mono ?_
  rintro e w1 ⟨st, rfl, hb1⟩
  have HS := src_made (cap := cap) (code_below h hb1) hn st
  have HB := hb1.alloc hb1.size (.cells #[.slice a n cap, .int .i64 0, .int .u64 st] 47 (0, 0))
  go_wp2_with fail
  refine (l01Raw_any w1.heap.size a n cap _ HS).mono ?_
  rintro e w2 ⟨s, rfl, hs, hsrc, hgr⟩
  go_wp2_with fail
  refine (l01Near_any w1.heap.size a n cap s _ hsrc hs).mono ?_
  rintro e w3 ⟨t, rfl, ht, hsrc3, hgr3⟩
  go_wp2
  go_ret2
  exact ⟨s, t, rfl, hs, ht, HB.grown (grown_step hgr hgr3) HB.size (fun k hk => by simp at hk; have := hb1.size; omega)⟩

set_option maxRecDepth 100000 in
set_option maxHeartbeats 400000 in
theorem drawCompareNames_any (a : Option Addr) (n cap : Nat) (w : World) (h : CodeIn w a n) (hn : n ≤ 1048576) :
    Calls Try.prog 21 #[.slice a n cap] w fun e w' => ∃ s t : ByteArray, e = .returned (.tuple #[.string s, .string t]) ∧ s.size ≤ 2000 ∧ t.size ≤ 2000 ∧ Below w.heap.size w w' := by
  go_enter Try.func21, Try.ntmps21
  go_wp2_with fail
  refine (drawSameName_any a n cap _ h hn).mono ?_
  rintro e w1 ⟨s, t, rfl, hs, ht, hb⟩
  go_wp2
  go_ret2
  exact ⟨s, t, rfl, hs, ht, hb⟩
end Go.Proofs.Ytakonfkefoeenaf
