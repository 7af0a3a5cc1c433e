/- impl.isDigit by its contract. -/
import Derived.Test.YtakonfkefoeenadDoorReadM
import Derived.Test.YtakonfkefoeenadDoorRows
import Derived.WalkSpells
import Derived.WalkLawsBesides
namespace Go.Proofs.YtakonfkefoeenadDoor
open Go.RowKit

set_option maxRecDepth 100000 in
set_option maxHeartbeats 400000 in
theorem isDigit_any (c : UInt8) (w : World) :
    Calls Tryd.prog 20 #[.int .u8 c.toNat] w fun e w' => e = .returned (.bool (Nm.digB c)) ∧ w' = w := by
  by_cases h1 : 48 ≤ c.toNat
  · have d1 : decide ((48 : Int) ≤ (c.toNat : Int)) = true := by simp; omega
    have HE : Hid (Nm.digB c = decide ((c.toNat : Int) ≤ 57)) := by
      show _ = _
      rw [Nm.digB, decide_eq_true h1, Bool.true_and, Bool.eq_iff_iff]
      simp; omega
    go_enter Tryd.func20, Tryd.ntmps20
    go_wp2
    go_ret
    rw [HE.out]
    exact ⟨rfl, rfl⟩
  · have d1 : decide ((48 : Int) ≤ (c.toNat : Int)) = false := by simp; omega
    have HE : Hid (Nm.digB c = false) := by
      show _ = _
      rw [Nm.digB, decide_eq_false h1]; rfl
    go_enter Tryd.func20, Tryd.ntmps20
    go_wp2
    go_ret
    rw [HE.out]
    exact ⟨rfl, rfl⟩

end Go.Proofs.YtakonfkefoeenadDoor
