import Derived.Test.YtoiajlgmnkoekaaJMapM
import Derived.Test.YtoiajlgmnkoekaaRows
import Derived.WalkSpells
import Derived.WalkLawsBesides
/- spec.l01Small by its contract. -/
namespace Go.Proofs.Ytoiajlgmnkoekaa
open Go.RowKit

theorem Try.infoU8s : (Try.prog.info? 5).map (fun i => (i.zero, i.size, i.bytes)) = some (some (.int .u8 0), 1, 1) := by kernel_rfl

theorem conv_nil (c : Nat) (W : World) : (convert 66 9 (.slice (some ⟨c, 0, none⟩) 0 0)).run Try.prog W = .ok (.string ByteArray.empty) W := by
  exact run_convert_bytes_back W 66 9 5 ⟨c, 0, none⟩ 0 [] Try.underlying66 Try.underlying5 Try.underlying9 (by intro j hj; simp at hj)

set_option maxRecDepth 100000 in
set_option maxHeartbeats 800000 in
theorem l01Small_any (s : ByteArray) (w : World) (hs : s.size ≤ 1000000000) :
    Calls Try.prog 56 #[.string s] w fun e w' => e = .returned (.string (Nm.small s)) ∧ Below w.heap.size w w' := by
  obtain ⟨j0, hj, k0, k1, k2⟩ := info_parts Try.infoU8s
  by_cases hz : s.size = 0
  · have hc := fun W => conv_nil w.heap.size W
    have HE : Hid (Nm.small s = ByteArray.empty) := by
      show _ = _
      apply Nm.ba_ext
      rw [Nm.small_data, List.length_eq_zero_iff.1 (show s.data.toList.length = 0 by simpa using hz)]
      rfl
    have hz' : (s.size : Int) ≤ 0 := by omega
    go_enter Try.func56, Try.ntmps56
    go_wp2
    go_loop [3, 4] (fun v i => v = .slice (some ⟨w.heap.size, 0, none⟩) 0 0 ∧ i = .int .i64 0) (fun _ _ => 0)
    case atStart => exact ⟨rfl, rfl⟩
    case round =>
      obtain ⟨rfl, rfl⟩ := hrel
      go_wp2
      go_ret
      rw [HE.out]
      exact ⟨rfl, (Below.refl _ _).alloc (Nat.le_refl _) _⟩
  · go_enter Try.func56, Try.ntmps56
    go_wp2
    go_loopw [3, 4] (fun v i wr => ∃ k : Nat, k ≤ s.size ∧ i = .int .i64 k ∧ wr.ownsRow w.heap.size 5 1 v k (Nm.bys (Nm.smallL (s.data.toList.take k))) ∧ Below w.heap.size w wr)
      (fun _ i _ => s.size - (intOf i).toNat)
    case atStart => exact ⟨0, Nat.zero_le _, rfl, World.ownsRow_made w #[] 0 (Nat.le_refl _) (by decide) rfl, (Below.refl _ _).alloc (Nat.le_refl _) _⟩
    case round =>
      obtain ⟨k, hk, rfl, hown, hbel⟩ := hrel
      have hsz := hbel.size
      by_cases hlt : k < s.size
      · have HS := Nm.hide (Nm.smallL_step (Nm.get_data hlt))
        have hcl : (s[k].toNat : Int) < 256 := by have := s[k].toNat_lt; omega
        by_cases hup : 65 ≤ s[k].toNat ∧ s[k].toNat ≤ 90
        · have HL := Nm.hide (Nm.low_up hup)
          have d1 : decide ((65 : Int) ≤ (s[k].toNat : Int)) = true := by simp; omega
          have d2 : decide ((s[k].toNat : Int) ≤ 90) = true := by simp; omega
          have hb1 : (s[k].toNat : Int) ≤ 90 := by omega
          clear hup
          go_wp2_with (at_builtin; refine wpList_append_own _ rfl (.tmp 24) (.tmp 26) 66 rfl w.heap.size 5 j0 (.int .u8 0) 1 1 Try.underlying66 hj k0 k1 k2 rfl (by decide) _ _ _ rfl (hown.alloc _) ⟨wr.heap.size, 0, none⟩ 1 1 [.int .u8 ((s[k].toNat : Int) + 32)] rfl rfl (cell_one_new _ _ _) (Nm.one_cell _ rfl) (by unfold maxLen; omega) (by omega) (by simp; omega) ?_; intro vb wb hown2 hgrow2 hnl2; clear hnl2; rw [← HL.out] at hown2; have R2 := Nm.bys_step (x := [Nm.low s[k]]) (by simp; omega) (hown.alloc _) (hbel.alloc hsz _) hown2 hgrow2; clear hown2 hgrow2)
          go_roundw
          case rel => exact ⟨k + 1, by omega, by go_num, by rw [HS.out]; exact R2.1, R2.2⟩
          case measure => simp [intOf]; omega
        · have HL := Nm.hide (Nm.low_id hup)
          by_cases hlo : 65 ≤ s[k].toNat
          · have d1 : decide ((65 : Int) ≤ (s[k].toNat : Int)) = true := by simp; omega
            have d2 : decide ((s[k].toNat : Int) ≤ 90) = false := by simp; omega
            clear hup
            go_wp2_with (at_builtin; refine wpList_append_own _ rfl (.tmp 24) (.tmp 26) 66 rfl w.heap.size 5 j0 (.int .u8 0) 1 1 Try.underlying66 hj k0 k1 k2 rfl (by decide) _ _ _ rfl (hown.alloc _) ⟨wr.heap.size, 0, none⟩ 1 1 [.int .u8 (s[k].toNat : Int)] rfl rfl (cell_one_new _ _ _) (Nm.one_cell _ rfl) (by unfold maxLen; omega) (by omega) (by simp; omega) ?_; intro vb wb hown2 hgrow2 hnl2; clear hnl2; have R2 := Nm.bys_step (x := [s[k]]) (by simp; omega) (hown.alloc _) (hbel.alloc hsz _) hown2 hgrow2; clear hown2 hgrow2)
            go_roundw
            case rel => exact ⟨k + 1, by omega, by go_num, by rw [HS.out, HL.out]; exact R2.1, R2.2⟩
            case measure => simp [intOf]; omega
          · have d1 : decide ((65 : Int) ≤ (s[k].toNat : Int)) = false := by simp; omega
            clear hup
            go_wp2_with (at_builtin; refine wpList_append_own _ rfl (.tmp 24) (.tmp 26) 66 rfl w.heap.size 5 j0 (.int .u8 0) 1 1 Try.underlying66 hj k0 k1 k2 rfl (by decide) _ _ _ rfl (hown.alloc _) ⟨wr.heap.size, 0, none⟩ 1 1 [.int .u8 (s[k].toNat : Int)] rfl rfl (cell_one_new _ _ _) (Nm.one_cell _ rfl) (by unfold maxLen; omega) (by omega) (by simp; omega) ?_; intro vb wb hown2 hgrow2 hnl2; clear hnl2; have R2 := Nm.bys_step (x := [s[k]]) (by simp; omega) (hown.alloc _) (hbel.alloc hsz _) hown2 hgrow2; clear hown2 hgrow2)
            go_roundw
            case rel => exact ⟨k + 1, by omega, by go_num, by rw [HS.out, HL.out]; exact R2.1, R2.2⟩
            case measure => simp [intOf]; omega
      · have hkl : k = s.size := by omega
        subst hkl
        obtain ⟨g, cp, rfl, hcv⟩ := Nm.conv_own (P := Try.prog) Try.underlying66 Try.underlying5 Try.underlying9 hown (by omega)
        rw [List.take_of_length_le (by simp)] at hcv
        have he : (⟨(Nm.smallL s.data.toList).toArray⟩ : ByteArray) = Nm.small s := rfl
        rw [he] at hcv
        clear hown hlt he
        go_wp2
        go_ret
        exact ⟨rfl, hbel⟩
end Go.Proofs.Ytoiajlgmnkoekaa
