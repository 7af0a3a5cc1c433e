import Derived.Test.YtjokdmmlofbknaaDoorJTyM
import Derived.Test.YtjokdmmlofbknaaDoorJINbd
import Derived.Laws.MakeOwn
/- impl.ShowText by its contract. -/
namespace Go.Proofs.YtjokdmmlofbknaaDoor
open Go.RowKit

theorem two_bytes (a b : Int) : ∀ u ∈ [Value.int .u8 a, .int .u8 b], u.oneCell' = true := by
  intro u hu
  simp at hu
  rcases hu with rfl | rfl <;> rfl

set_option maxRecDepth 100000 in
set_option maxHeartbeats 4000000 in
theorem implShowText_any (s : ByteArray) (w : World) (hs : s.size ≤ 1000000000) :
    Calls Tryd.prog 14 #[.string s] w fun e w' => e = .returned (.string (showTextS s)) ∧ Below w.heap.size w w' := by
  obtain ⟨i0, hi, hz0, hz1, hz2⟩ := info_parts Tryd.infoU8x
  obtain ⟨wm, hmk, hownm, hgrm⟩ := run_make_own (P := Tryd.prog) w w.heap.size 22 5 i0 (.int .u8 0) 1 Tryd.underlying22 hi hz0 hz1 .i64 .i64 (s.size + 2) (by rw [hz2]; omega) (by unfold maxLen; omega) (Nat.le_refl _)
  have hbelm : Below w.heap.size w wm := (Below.refl _ _).grown hgrm (Nat.le_refl _) (by simp)
  have hszm := hbelm.size
  rw [show ((s.size + 2 : Nat) : Int) = (s.size : Int) + 2 by omega] at hmk
  clear hgrm
  go_enter Tryd.func14, Tryd.ntmps14
  go_wp2_with (at_builtin; refine wpList_append_own _ rfl (.tmp 10) (.tmp 11) 22 rfl w.heap.size 5 i0 (.int .u8 0) 1 1 Tryd.underlying22 hi hz0 hz1 hz2 rfl (by decide) _ _ _ rfl (World.ownsRow.alloc hownm _) ⟨wm.heap.size, 0, none⟩ 1 1 [.int .u8 (UInt8.toNat 34 : Int)] rfl rfl (cell_new1 _ _ _) (Nm.one_cell _ rfl) (by unfold maxLen; omega) (by omega) (by simp; omega) ?_)
  intro v' w1 hown' hgrow _
  have R1 := one_step (c := 34) (n := 0) (l := []) hszm hownm hbelm _ hown' hgrow
  clear hown' hgrow
  obtain ⟨X1, HX1, o1, b1, z1⟩ := R1
  clear hownm hbelm hmk
  rw [List.nil_append] at HX1
  have hX1 : X1 = [34] := HX1.out
  subst hX1
  go_wp2
  go_loopw [3, 15] (fun v i wr => ∃ (k n : Nat) (l : List UInt8), k ≤ s.size ∧ i = .int .i64 k ∧ n ≤ 4 * k + 1 ∧ Hid (l.length = n) ∧ Hid (l = 34 :: qL (s.data.toList.take k)) ∧ wr.ownsRow w.heap.size 5 1 v n (Nm.bys l) ∧ Below w.heap.size w wr)
    (fun _ i _ => s.size - (intOf i).toNat)
  case atStart => exact ⟨0, 1, [34], Nat.zero_le _, rfl, by omega, rfl, by show _ = _; simp [qL], o1, b1⟩
  case round =>
    obtain ⟨k, n, l, hk, rfl, hn, HL, HQ, hown, hbel⟩ := hrel
    clear o1 b1 z1
    have hsz := hbel.size
    by_cases hlt : k < s.size
    · have hlt' : (k : Int) < (s.size : Int) := by omega
      have hq := qL_step (Nm.get_data hlt)
      have hc : (s[k].toNat : Int) < 256 := by have := s[k].toNat_lt; omega
      by_cases he : s[k].toNat = 34 ∨ s[k].toNat = 92
      · have hw : ¬ (s[k].toNat < 32 ∨ 126 < s[k].toNat) := by omega
        rw [qB_esc hw he] at hq
        have HN : Hid (l ++ [92, s[k]] = 34 :: qL (s.data.toList.take (k + 1))) := by
          show _ = _
          rw [hq, HQ.out]; simp
        have HL2 : Hid ((l ++ [92, s[k]]).length = n + 2) := by show _ = _; simp [HL.out]
        clear hq HQ HL hw
        by_cases h34 : s[k].toNat = 34
        · have q1 : ((s[k].toNat : Int) == 34) = true := by rw [beq_iff_eq]; omega
          clear he h34
          go_wp2_with (at_builtin; refine wpList_append_own _ rfl (.tmp 32) (.tmp 34) 22 rfl w.heap.size 5 i0 (.int .u8 0) 1 1 Tryd.underlying22 hi hz0 hz1 hz2 rfl (by decide) _ _ _ rfl (hown.alloc _) ⟨wr.heap.size, 0, none⟩ 2 2 [.int .u8 92, .int .u8 (s[k].toNat : Int)] rfl rfl (World.news_of_block (heap_alloc_new _ _)) (two_bytes _ _) (by unfold maxLen; omega) (by omega) (by simp; omega) ?_; intro vb wb hown2 hgrow2 hnl2; clear hnl2; have R2 := Nm.bys_step (x := [92, s[k]]) (by simp; omega) (hown.alloc _) (hbel.alloc hsz _) hown2 hgrow2; clear hown2 hgrow2)
          go_roundw
          case rel => exact ⟨k + 1, n + 2, _, by omega, by go_num, by omega, HL2, HN, R2.1, R2.2⟩
          case measure => simp [intOf]; omega
        · have q1 : ((s[k].toNat : Int) == 34) = false := by rw [beq_eq_false_iff_ne]; omega
          have q2 : ((s[k].toNat : Int) == 92) = true := by rw [beq_iff_eq]; omega
          clear he h34
          go_wp2_with (at_builtin; refine wpList_append_own _ rfl (.tmp 32) (.tmp 34) 22 rfl w.heap.size 5 i0 (.int .u8 0) 1 1 Tryd.underlying22 hi hz0 hz1 hz2 rfl (by decide) _ _ _ rfl (hown.alloc _) ⟨wr.heap.size, 0, none⟩ 2 2 [.int .u8 92, .int .u8 (s[k].toNat : Int)] rfl rfl (World.news_of_block (heap_alloc_new _ _)) (two_bytes _ _) (by unfold maxLen; omega) (by omega) (by simp; omega) ?_; intro vb wb hown2 hgrow2 hnl2; clear hnl2; have R2 := Nm.bys_step (x := [92, s[k]]) (by simp; omega) (hown.alloc _) (hbel.alloc hsz _) hown2 hgrow2; clear hown2 hgrow2)
          go_roundw
          case rel => exact ⟨k + 1, n + 2, _, by omega, by go_num, by omega, HL2, HN, R2.1, R2.2⟩
          case measure => simp [intOf]; omega
      · have q1 : ((s[k].toNat : Int) == 34) = false := by rw [beq_eq_false_iff_ne]; omega
        have q2 : ((s[k].toNat : Int) == 92) = false := by rw [beq_eq_false_iff_ne]; omega
        by_cases hw : s[k].toNat < 32 ∨ 126 < s[k].toNat
        · rw [qB_num hw] at hq
          have HN : Hid (l ++ (92 :: Nm.threeL s[k]) = 34 :: qL (s.data.toList.take (k + 1))) := by
            show _ = _
            rw [hq, HQ.out]; simp
          have HL2 : Hid ((l ++ (92 :: Nm.threeL s[k])).length = n + 4) := by show _ = _; simp [HL.out, Nm.threeL]
          clear hq HQ HL he
          by_cases hw0 : s[k].toNat < 32
          · have hw0' : (s[k].toNat : Int) < 32 := by omega
            clear hw
            go_wp2_with (go_at_call 36; refine (showNumber_any _ n w.heap.size l s[k] _ hown hsz (by omega)).mono ?_; rintro e w3 ⟨v3, rfl, o3, b3⟩)
            go_roundw
            case rel => exact ⟨k + 1, n + 4, _, by omega, by go_num, by omega, HL2, HN, o3, hbel.trans b3⟩
            case measure => simp [intOf]; omega
          · have hw0' : (32 : Int) ≤ (s[k].toNat : Int) := by omega
            have hw1' : (126 : Int) < (s[k].toNat : Int) := by omega
            clear hw
            go_wp2_with (go_at_call 36; refine (showNumber_any _ n w.heap.size l s[k] _ hown hsz (by omega)).mono ?_; rintro e w3 ⟨v3, rfl, o3, b3⟩)
            go_roundw
            case rel => exact ⟨k + 1, n + 4, _, by omega, by go_num, by omega, HL2, HN, o3, hbel.trans b3⟩
            case measure => simp [intOf]; omega
        · rw [qB_own hw he] at hq
          have HN : Hid (l ++ [s[k]] = 34 :: qL (s.data.toList.take (k + 1))) := by
            show _ = _
            rw [hq, HQ.out]; simp
          have HL2 : Hid ((l ++ [s[k]]).length = n + 1) := by show _ = _; simp [HL.out]
          have hw0' : (32 : Int) ≤ (s[k].toNat : Int) := by omega
          have hw1' : (s[k].toNat : Int) ≤ 126 := by omega
          clear hq HQ HL hw he
          go_wp2_with (at_builtin; refine wpList_append_own _ rfl (.tmp 21) (.tmp 23) 22 rfl w.heap.size 5 i0 (.int .u8 0) 1 1 Tryd.underlying22 hi hz0 hz1 hz2 rfl (by decide) _ _ _ rfl (World.ownsRow.alloc hown _) ⟨World.heap wr |>.size, 0, none⟩ 1 1 [.int .u8 (UInt8.toNat s[k] : Int)] rfl rfl (cell_new1 _ _ _) (Nm.one_cell _ rfl) (by unfold maxLen; omega) (by omega) (by simp; omega) ?_)
          intro v' w4 hown' hgrow _
          have R4 := one_step (c := s[k]) hsz hown hbel _ hown' hgrow
          clear hown' hgrow
          obtain ⟨X4, HX4, o4, b4, z4⟩ := R4
          clear hown hbel
          go_wp2
          go_roundw
          case rel => exact ⟨k + 1, n + 1, _, by omega, by go_num, by omega, by show _ = _; rw [HX4.out]; exact HL2.out, by show _ = _; rw [HX4.out]; exact HN.out, o4, b4⟩
          case measure => simp [intOf]; omega
    · have hlt' : (s.size : Int) ≤ (k : Int) := by omega
      have hks : k = s.size := by omega
      have hfin : (⟨(l ++ [34]).toArray⟩ : ByteArray) = showTextS s := by
        rw [HQ.out, hks, List.take_of_length_le (by simp)]; rfl
      have HF := Nm.hide hfin
      clear HQ hfin
      go_wp2_with (at_builtin; refine wpList_append_own _ rfl (.tmp 47) (.tmp 48) 22 rfl w.heap.size 5 i0 (.int .u8 0) 1 1 Tryd.underlying22 hi hz0 hz1 hz2 rfl (by decide) _ _ _ rfl (World.ownsRow.alloc hown _) ⟨World.heap wr |>.size, 0, none⟩ 1 1 [.int .u8 (UInt8.toNat (34 : UInt8) : Int)] rfl rfl (cell_new1 _ _ _) (Nm.one_cell _ rfl) (by unfold maxLen; omega) (by omega) (by simp; omega) ?_)
      intro v' w6 hown' hgrow _
      have R := one_step (c := (34 : UInt8)) hsz hown hbel _ hown' hgrow
      clear hown' hgrow
      obtain ⟨X6, HX6, R⟩ := R
      rw [← HX6.out] at HF
      obtain ⟨g, cp, hv, hcv⟩ := Nm.conv_own (P := Tryd.prog) (src := 22) (dst := 9) Tryd.underlying22 Tryd.underlying5 Tryd.underlying9 R.1 (by omega)
      subst hv
      rw [HF.out] at hcv
      go_wp2
      go_ret
      exact ⟨rfl, R.2.1⟩
end Go.Proofs.YtjokdmmlofbknaaDoor
