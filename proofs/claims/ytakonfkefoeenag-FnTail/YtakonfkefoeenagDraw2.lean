/- spec.l01Label by its contract. -/
import Derived.Test.YtakonfkefoeenagDraw1
import Derived.Test.YtakonfkefoeenagJoin
namespace Go.Proofs.Ytakonfkefoeenag
open Go.RowKit

set_option maxRecDepth 100000 in
set_option maxHeartbeats 1600000 in
theorem l01Label_any (g : Nat) (a : Option Addr) (n cap : Nat) (w : World) (h : Src w g a n cap) :
    Calls Try.prog 75 #[.pointer (some ⟨g, 0, none⟩)] w fun e w' => ∃ s : ByteArray, e = .returned (.string s) ∧ s.size ≤ 63 ∧ Src w' g a n cap ∧ w.grownBy w' (some g) := by
  have hcv := fun (x : Int) (W : World) => conv_one x W
  have hs1 : ∀ c : UInt8, (ByteArray.mk #[c]).size = 1 := fun _ => rfl
  have hs2 : (ByteArray.mk #[110, 115]).size = 2 := rfl
  go_enter Try.func75, Try.ntmps75
  go_wp2_with fail
  refine (l01Next_any g a n cap 12 _ h (by decide)).mono ?_
  rintro e w1 ⟨r, rfl, hr0, hr1, hsrc, hgr⟩
  have hr2 := hr1 (by decide)
  clear hr1 h
  rcases (by omega : r = 0 ∨ r = 1 ∨ r = 2 ∨ r = 3 ∨ r = 4 ∨ r = 5 ∨ 6 ≤ r) with rfl | rfl | rfl | rfl | rfl | rfl | h6
  · go_wp2
    go_ret
    exact ⟨_, rfl, by decide, hsrc, hgr⟩
  · go_wp2_with (first | (go_at_call 73; refine (l01Next_any g a n cap 4 _ hsrc (by decide)).mono ?_; rintro e w2 ⟨q, rfl, hq0, hq1, hsrc2, hgr2⟩; have hq2 := hq1 (by decide); clear hq1) | (go_at_call 93; refine (l01Bytes_any g a n cap (1 + q) _ hsrc2 (by omega) (by omega)).mono ?_; rintro e w3 ⟨s3, rfl, hs3, hsrc3, hgr3⟩))
    go_ret
    exact ⟨_, rfl, by omega, hsrc3, grown_step (grown_step hgr hgr2) hgr3⟩
  · go_wp2
    go_ret
    exact ⟨_, rfl, by decide, hsrc, hgr⟩
  · go_wp2
    go_ret
    exact ⟨_, rfl, by decide, hsrc, hgr⟩
  · go_wp2
    go_ret
    exact ⟨_, rfl, by decide, hsrc, hgr⟩
  · go_wp2_with (go_at_call 73; refine (l01Next_any g a n cap 3 _ hsrc (by decide)).mono ?_; rintro e w2 ⟨q, rfl, hq0, hq1, hsrc2, hgr2⟩; have hq2 := hq1 (by decide); clear hq1)
    go_ret
    exact ⟨_, rfl, by rw [ByteArray.size_append, hs2, hs1]; decide, src_below hsrc2 ((Below.refl _ _).alloc (Nat.le_refl _) _), grown_alloc (grown_step hgr hgr2) _⟩
  · go_wp2_with (go_at_call 73; refine (l01Next_any g a n cap 4 _ hsrc (by decide)).mono ?_; rintro e w2 ⟨q, rfl, hq0, hq1, hsrc2, hgr2⟩; have hq2 := hq1 (by decide); clear hq1)
    go_ret
    exact ⟨_, rfl, by rw [hs1]; decide, src_below hsrc2 ((Below.refl _ _).alloc (Nat.le_refl _) _), grown_alloc (grown_step hgr hgr2) _⟩
end Go.Proofs.Ytakonfkefoeenag
