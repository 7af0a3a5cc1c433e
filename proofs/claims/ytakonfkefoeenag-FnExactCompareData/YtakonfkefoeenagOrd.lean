/- spec.l01Order by its contract. -/
import Derived.Test.YtakonfkefoeenagCmpM
import Derived.Test.YtakonfkefoeenagRows
import Derived.WalkSpells
import Derived.WalkLawsBesides
namespace Go.Proofs.Ytakonfkefoeenag
open Go.RowKit

set_option maxRecDepth 100000 in
set_option maxHeartbeats 400000 in
theorem l01Order_any (a b : ByteArray) (w : World) :
    Calls Try.prog 46 #[.string a, .string b] w fun e w' => e = .returned (.int .i64 (Nm.ordL a.toList b.toList)) ∧ w' = w := by
  cases h1 : Op.bytesLess a.toList b.toList with
  | true =>
    have HC : Hid (Nm.ordL a.toList b.toList = -1) := by show _ = _; simp [Nm.ordL, h1]
    go_enter Try.func46, Try.ntmps46
    go_wp2
    go_ret
    rw [HC.out]
    exact ⟨rfl, rfl⟩
  | false =>
    cases h2 : (a.toList == b.toList) with
    | true =>
      have HC : Hid (Nm.ordL a.toList b.toList = 0) := by show _ = _; rw [Nm.ordL, if_neg (by simp [h1]), if_pos (beq_iff_eq.1 h2)]
      go_enter Try.func46, Try.ntmps46
      go_wp2
      go_ret
      rw [HC.out]
      exact ⟨rfl, rfl⟩
    | false =>
      have HC : Hid (Nm.ordL a.toList b.toList = 1) := by show _ = _; simp [Nm.ordL, h1, beq_eq_false_iff_ne.1 h2]
      go_enter Try.func46, Try.ntmps46
      go_wp2
      go_ret
      rw [HC.out]
      exact ⟨rfl, rfl⟩

end Go.Proofs.Ytakonfkefoeenag
