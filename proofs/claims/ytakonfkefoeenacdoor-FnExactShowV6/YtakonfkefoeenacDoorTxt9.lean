/- spec.l03HexOf by its contract. -/
import Derived.Test.YtakonfkefoeenacDoorTxtM
import Derived.Test.YtakonfkefoeenacDoorRows
import Derived.WalkSpells
import Derived.WalkLawsBesides
import Derived.Deep.QuietTactic
import Derived.BigQuiet
import Derived.Test.YtakonfkefoeenacDoorHexM
namespace Go.Proofs.YtakonfkefoeenacDoor
open Go.RowKit

set_option maxRecDepth 100000 in
set_option maxHeartbeats 1600000 in
theorem l03HexOf_any : ∀ (n : Nat) (w : World), n < 65536 →
    Calls Tryd.prog 11 #[.int .i64 (n : Int)] w fun e w' => e = .returned (.string (hexS n)) ∧ ∃ m, w' = w.drewN m := by
  intro n
  induction n using Nat.strongRecOn with
  | _ n ih =>
    intro w hn
    by_cases h16 : n < 16
    · have HE : Hid (hexS n = hexLit.extract n (n + 1)) := by show _ = _; rw [hexS, hexL_small h16, hexLit_at n h16]
      have h16' : (n : Int) < 16 := by omega
      have h17 : (n : Int) + 1 ≤ 16 := by omega
      clear ih
      go_enter Tryd.func11, Tryd.ntmps11
      go_wp2
      go_ret
      rw [HE.out]
      exact ⟨rfl, 0, rfl⟩
    · have h16' : (16 : Int) ≤ (n : Int) := by omega
      have hih := fun w => ih (n / 16) (by omega) w (by omega)
      have hdz := hexS_size (n := n / 16) (by omega)
      have HE : Hid (hexS n = hexS (n / 16) ++ hexLit.extract (n % 16) (n % 16 + 1)) := by
        show _ = _
        rw [hexLit_at _ (by omega)]
        apply Nm.ba_ext
        simp [hexS, hexL_step h16]
      have hcast : ((n / 16 : Nat) : Int) = (n : Int) / 16 := by omega
      rw [hcast] at hih
      have hsum : (hexS (n / 16)).size + 1 ≤ 9223372036854775807 := by omega
      have htm : (n : Int).tmod 16 = (n : Int) % 16 := Int.tmod_eq_emod_of_nonneg (by omega)
      have hm0 : 0 ≤ (n : Int) % 16 := by omega
      have hm1 : (n : Int) % 16 < 16 := by omega
      have hm2 : (n : Int) % 16 + 1 ≤ 16 := by omega
      have hm3 : (n : Int) % 16 ≤ (n : Int) % 16 + 1 := by omega
      generalize hexS (n / 16) = D at *
      clear ih hcast
      go_enter Tryd.func11, Tryd.ntmps11
      go_wp2
      go_quiet ((go_at_call 11; exact Calls.quiet_of (hih _)))
      go_wp2
      go_ret
      rw [HE.out]
      exact ⟨rfl, _, rfl⟩
end Go.Proofs.YtakonfkefoeenacDoor
