import Derived.Test.YtechmpdfbpehiaaGreatDoorJV6M
import Derived.Test.YtechmpdfbpehiaaGreatDoorJRrO
import Derived.Test.YtechmpdfbpehiaaGreatDoorJMath
import Derived.Test.YtechmpdfbpehiaaGreatDoorJData1
import Derived.Deep.AppendLies
import Derived.Deep.RegionHeld3
/- impl.longestGap, impl.ShowV6 by their contracts. -/
namespace Go.Proofs.YtechmpdfbpehiaaGreatDoor
open Go.RowKit

set_option maxRecDepth 100000 in
set_option maxHeartbeats 2000000 in
theorem longestGap_any (s : ByteArray) (b off cap : Nat) (w : World) (hcell : ∀ (k : Nat) (x : ByteArray), (grps s 0 8)[k]? = some x → w.cell? ⟨b, off + k, none⟩ = some (.string x)) :
    Calls Tryz.prog 111 #[.slice (some ⟨b, off, none⟩) 8 cap] w fun e w' => e = .returned (.tuple #[.int .i64 (((gapF (zf s) 8).2.1 : Nat) : Int), .int .i64 (((gapF (zf s) 8).2.2 : Nat) : Int)]) ∧ w' = w := by
  obtain ⟨Z, HZ⟩ : ∃ Z, Hid (Z = gapF (zf s) 8) := ⟨_, rfl⟩
  rw [← HZ.out]
  go_enter Tryz.func111, Tryz.ntmps111
  go_wp2
  go_loop [2, 3, 4, 9] (fun f t st i => ∃ (k : Nat) (g : Nat × Nat × Nat), k ≤ 8 ∧ i = .int .i64 (k : Int) ∧ Hid (g = gapF (zf s) k) ∧ st = .int .i64 (g.1 : Int) ∧ f = .int .i64 (g.2.1 : Int) ∧ t = .int .i64 (g.2.2 : Int) ∧ g.1 ≤ k ∧ g.2.1 ≤ g.2.2 ∧ g.2.2 ≤ k)
    (fun _ _ _ i => 8 - (intOf i).toNat)
  case atStart => exact ⟨0, (0, 0, 0), by omega, rfl, rfl, rfl, rfl, rfl, by simp, by simp, by simp⟩
  case round =>
    obtain ⟨k, g, hk, rfl, HG, rfl, rfl, rfl, h1, h2, h3⟩ := hrel
    by_cases hlt : k < 8
    · have hlt' : (k : Int) < 8 := by omega
      have hx : (grps s 0 8)[k]? = some (hexS (grp s k)) := by simp [grps, hlt]
      have hc := hcell k _ hx
      have hze := hex_zero (grp_lt s k)
      have hza := zf_at s k hlt
      have HN : Hid (gapF (zf s) (k + 1) = gapStep (zf s) k g) := by show _ = _; rw [gapF, HG.out]
      have HLE := Nm.hide (gapF_le (zf s) (k + 1))
      obtain ⟨st, f, t⟩ := g
      simp only at h1 h2 h3 ⊢
      generalize hexS (grp s k) = X at *
      cases hz : decide (grp s k = 0) with
      | true =>
        rw [hz] at hze hza
        by_cases hgt : t - f < k + 1 - st
        · have hgt' : (t : Int) - (f : Int) < (k : Int) + 1 - (st : Int) := by omega
          have HE : Hid (gapF (zf s) (k + 1) = (st, st, k + 1)) := by show _ = _; rw [HN.out, gapStep, hza]; simp [hgt]
          rw [HE.out] at HLE
          clear hza hz HN
          go_wp2
          go_round
          case rel => exact ⟨k + 1, (st, st, k + 1), by omega, by go_num, HE.out.symm, rfl, rfl, by go_num, HLE.out.1, HLE.out.2.1, HLE.out.2.2⟩
          case measure => simp [intOf]; omega
        · have hgt' : (k : Int) + 1 - (st : Int) ≤ (t : Int) - (f : Int) := by omega
          have HE : Hid (gapF (zf s) (k + 1) = (st, f, t)) := by show _ = _; rw [HN.out, gapStep, hza]; simp [hgt]
          rw [HE.out] at HLE
          clear hza hz HN
          go_wp2
          go_round
          case rel => exact ⟨k + 1, (st, f, t), by omega, by go_num, HE.out.symm, rfl, rfl, rfl, HLE.out.1, HLE.out.2.1, HLE.out.2.2⟩
          case measure => simp [intOf]; omega
      | false =>
        rw [hz] at hze hza
        have HE : Hid (gapF (zf s) (k + 1) = (k + 1, f, t)) := by show _ = _; rw [HN.out, gapStep, hza]; simp
        have hgt' : (0 : Int) ≤ (t : Int) - (f : Int) := by omega
        rw [HE.out] at HLE
        clear hza hz HN
        go_wp2
        go_round
        case rel => exact ⟨k + 1, (k + 1, f, t), by omega, by go_num, HE.out.symm, by go_num, rfl, rfl, HLE.out.1, HLE.out.2.1, HLE.out.2.2⟩
        case measure => simp [intOf]; omega
    · have hke : k = 8 := by omega
      subst hke
      have HE : Hid (Z = g) := by show _ = _; rw [HZ.out, HG.out]
      go_wp2
      go_ret2
      rw [HE.out]
      exact ⟨rfl, rfl⟩
end Go.Proofs.YtechmpdfbpehiaaGreatDoor
