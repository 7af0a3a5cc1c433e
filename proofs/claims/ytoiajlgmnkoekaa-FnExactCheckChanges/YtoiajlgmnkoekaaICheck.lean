import Derived.Test.YtoiajlgmnkoekaaCut
/- impl.CheckData by its contract. -/
namespace Go.Proofs.Ytoiajlgmnkoekaa
open Go.RowKit

set_option maxRecDepth 100000 in
set_option maxHeartbeats 400000 in
theorem implCheckData_any (t : Int) (d : ByteArray) (w : World) (hd : d.size ≤ 2000000) :
    Calls Try.prog 44 #[.int .i64 t, .string d] w fun e w' => e = .returned (.int .i64 (cutCode t d)) ∧ Below w.heap.size w w' := by
  have hcall := cutData_any t d w hd
  go_enter Try.func44, Try.ntmps44
  go_wp2_with (go_at_call 52; refine hcall.mono ?_; rintro e w2 ⟨v, rfl, _, _, hbel⟩)
  go_ret
  exact ⟨rfl, hbel⟩
end Go.Proofs.Ytoiajlgmnkoekaa
