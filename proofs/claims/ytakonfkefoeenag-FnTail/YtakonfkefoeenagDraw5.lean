/- spec.l01Raw by its contract. -/
import Derived.Test.YtakonfkefoeenagDraw3
import Derived.Test.YtakonfkefoeenagDraw4
namespace Go.Proofs.Ytakonfkefoeenag
open Go.RowKit

set_option maxRecDepth 100000 in
set_option maxHeartbeats 400000 in
theorem l01Raw_any (g : Nat) (a : Option Addr) (n cap : Nat) (w : World) (h : Src w g a n cap) :
    Calls Try.prog 33 #[.pointer (some ⟨g, 0, none⟩)] w fun e w' => ∃ s : ByteArray, e = .returned (.string s) ∧ s.size ≤ 2000 ∧ Src w' g a n cap ∧ w.grownBy w' (some g) := by
  go_enter Try.func33, Try.ntmps33
  go_wp2_with fail
  refine (l01Name_any g a n cap _ h).mono ?_
  rintro e w1 ⟨s, rfl, hs0, hs1, hsrc, hgr⟩
  go_wp2_with fail
  refine (l01Next_any g a n cap 8 _ hsrc (by decide)).mono ?_
  rintro e w2 ⟨r, rfl, hr0, hr1, hsrc2, hgr2⟩
  have hg := grown_step hgr hgr2
  by_cases hr : r = 0
  · subst hr
    go_wp2_with fail
    refine (l01Spoil_any g a n cap s _ hsrc2 hs0 hs1).mono ?_
    rintro e w3 ⟨s3, rfl, hs3, hsrc3, hgr3⟩
    go_wp2
    go_ret
    exact ⟨_, rfl, hs3, hsrc3, grown_step hg hgr3⟩
  · have hr' : (r == 0) = false := by rw [beq_eq_false_iff_ne]; exact hr
    go_wp2
    go_ret
    exact ⟨_, rfl, by omega, hsrc2, hg⟩
end Go.Proofs.Ytakonfkefoeenag
