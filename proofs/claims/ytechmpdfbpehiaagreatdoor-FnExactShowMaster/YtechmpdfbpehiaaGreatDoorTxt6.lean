import Derived.Test.YtechmpdfbpehiaaGreatDoorJShow
/- spec.ShowText by its contract. -/
namespace Go.Proofs.YtechmpdfbpehiaaGreatDoor
open Go.RowKit

/-- A byte as it stands in a quoted text. -/
def qB (c : UInt8) : List UInt8 := if c.toNat < 32 ∨ 126 < c.toNat then 92 :: Nm.threeL c else if c.toNat = 34 ∨ c.toNat = 92 then [92, c] else [c]
def qL (l : List UInt8) : List UInt8 := l.flatMap qB
def showTextS (s : ByteArray) : ByteArray := ⟨(34 :: qL s.data.toList ++ [34]).toArray⟩

theorem qL_step {l : List UInt8} {k : Nat} {c : UInt8} (h : l[k]? = some c) : qL (l.take (k + 1)) = qL (l.take k) ++ qB c := by
  rw [Nm.take_step h]; simp [qL]
theorem qB_num {c : UInt8} (h : c.toNat < 32 ∨ 126 < c.toNat) : qB c = 92 :: Nm.threeL c := by rw [qB, if_pos h]
theorem qB_esc {c : UInt8} (h : ¬ (c.toNat < 32 ∨ 126 < c.toNat)) (h1 : c.toNat = 34 ∨ c.toNat = 92) : qB c = [92, c] := by rw [qB, if_neg h, if_pos h1]
theorem qB_own {c : UInt8} (h : ¬ (c.toNat < 32 ∨ 126 < c.toNat)) (h1 : ¬ (c.toNat = 34 ∨ c.toNat = 92)) : qB c = [c] := by rw [qB, if_neg h, if_neg h1]
theorem qB_len (c : UInt8) : (qB c).length ≤ 4 := by
  unfold qB Nm.threeL
  split
  · simp
  · split <;> simp
theorem qL_len (l : List UInt8) : (qL l).length ≤ 4 * l.length := by
  induction l with
  | nil => simp [qL]
  | cons c r ih =>
    have := qB_len c
    simp only [qL, List.flatMap_cons, List.length_append, List.length_cons] at *
    omega

theorem three_T {T : ByteArray} {c : UInt8} (h : T.data.toList = Nm.threeL c) (p0 : 0 < T.size) (p1 : 1 < T.size) (p2 : 2 < T.size) : Nm.threeL c = [T[0], T[1], T[2]] := by
  rw [← h]
  have h3 : T.size = 3 := by
    have := congrArg List.length h
    simpa [Nm.threeL] using this
  refine List.ext_getElem (by simp [h3]) ?_
  intro i h1 h2
  have hi : i < 3 := by simpa using h2
  rcases i with _ | _ | _ | i
  · rfl
  · rfl
  · rfl
  · omega

set_option maxRecDepth 100000 in
set_option maxHeartbeats 4000000 in
theorem specShowText_any (s : ByteArray) (w : World) (hs : s.size ≤ 1000000000) :
    Calls Tryz.prog 52 #[.string s] w fun e w' => e = .returned (.string (showTextS s)) ∧ Below w.heap.size w w' := by
  obtain ⟨i0, hi, hz0, hz1, hz2⟩ := info_parts Tryz.infoU8x
  have hown0 := World.ownsRow_lit (base := w.heap.size) (e := 5) (size := 1) w #[.int .u8 34] 1 (Nat.le_refl _) (by decide) rfl
  go_enter Tryz.func52, Tryz.ntmps52
  go_wp2
  go_loopw [3, 4] (fun v i wr => ∃ (k n : Nat) (l : List UInt8), k ≤ s.size ∧ i = .int .i64 k ∧ n ≤ 4 * k + 1 ∧ Hid (l.length = n) ∧ Hid (l = 34 :: qL (s.data.toList.take k)) ∧ wr.ownsRow w.heap.size 5 1 v n (Nm.bys l) ∧ Below w.heap.size w wr)
    (fun _ i _ => s.size - (intOf i).toNat)
  case atStart => exact ⟨0, 1, [34], Nat.zero_le _, rfl, by omega, rfl, by show _ = _; simp [qL], hown0, (Below.refl _ _).alloc (Nat.le_refl _) _⟩
  case round =>
    obtain ⟨k, n, l, hk, rfl, hn, HL, HQ, hown, hbel⟩ := hrel
    clear hown0
    have hsz := hbel.size
    by_cases hlt : k < s.size
    · have hlt' : (k : Int) < (s.size : Int) := by omega
      have hq := qL_step (Nm.get_data hlt)
      have hc : (s[k].toNat : Int) < 256 := by have := s[k].toNat_lt; omega
      by_cases hw : s[k].toNat < 32 ∨ 126 < s[k].toNat
      · rw [qB_num hw] at hq
        obtain ⟨T, hT, hth⟩ : ∃ T : ByteArray, T.data.toList = Nm.threeL s[k] ∧ ∀ W : World, Calls Tryz.prog 28 #[.int .i64 s[k].toNat] W fun e w' => e = .returned (.string T) ∧ Below W.heap.size W w' := ⟨_, rfl, fun W => l01Three_any s[k] W⟩
        have hT3 : T.size = 3 := by
          have := congrArg List.length hT
          simpa [Nm.threeL] using this
        have p0 : 0 < T.size := by omega
        have p1 : 1 < T.size := by omega
        have p2 : 2 < T.size := by omega
        have i0' : (0 : Int) < (T.size : Int) := by omega
        have i1' : (1 : Int) < (T.size : Int) := by omega
        have i2' : (2 : Int) < (T.size : Int) := by omega
        have hnext : l ++ ([92] : List UInt8) ++ [T[0]] ++ [T[1]] ++ [T[2]] = 34 :: qL (s.data.toList.take (k + 1)) := by
          rw [hq, HQ.out, three_T hT p0 p1 p2]; simp
        have HN := Nm.hide hnext
        have HL2 : Hid ((l ++ ([92] : List UInt8) ++ [T[0]] ++ [T[1]] ++ [T[2]]).length = n + 1 + 1 + 1 + 1) := by show _ = _; simp [HL.out]
        have t0 : (T[0].toNat : Int) < 256 := by have := T[0].toNat_lt; omega
        have t1 : (T[1].toNat : Int) < 256 := by have := T[1].toNat_lt; omega
        have t2 : (T[2].toNat : Int) < 256 := by have := T[2].toNat_lt; omega
        clear hnext hq hT hT3 HQ HL
        by_cases hw0 : s[k].toNat < 32
        · have hw0' : (s[k].toNat : Int) < 32 := by omega
          clear hw
          go_wp2_with (first | (go_at_call 28; refine (hth _).mono ?_; rintro e w2 ⟨rfl, hb2⟩; have hown2 := own_below hown hb2; have hbel2 := Nm.below_two hbel hb2; have hsz2 := hbel2.size; clear hb2) | (at_builtin; refine wpList_append_own _ rfl (.tmp 26) (.tmp 27) 44 rfl w.heap.size 5 i0 (.int .u8 0) 1 1 Tryz.underlying44 hi hz0 hz1 hz2 rfl (by decide) _ _ _ rfl (hown2.alloc _) ⟨w2.heap.size, 0, none⟩ 1 1 [.int .u8 (UInt8.toNat (92 : UInt8) : Int)] rfl rfl (cell_new1 _ _ _) (Nm.one_cell _ rfl) (by unfold maxLen; omega) (by omega) (by simp; omega) ?_))
          intro v' w3 hown' hgrow _
          have R3 := one_step (c := (92 : UInt8)) hsz2 hown2 hbel2 _ hown' hgrow
          clear hown' hgrow hown2 hbel2 hown hbel
          obtain ⟨X3, HX3, o3, b3, z3⟩ := R3
          go_wp2_with (at_builtin; refine wpList_append_own _ rfl (.tmp 29) (.tmp 32) 44 rfl w.heap.size 5 i0 (.int .u8 0) 1 1 Tryz.underlying44 hi hz0 hz1 hz2 rfl (by decide) _ _ _ rfl (World.ownsRow.alloc o3 _) ⟨World.heap w3 |>.size, 0, none⟩ 1 1 [.int .u8 (UInt8.toNat T[0] : Int)] rfl rfl (cell_new1 _ _ _) (Nm.one_cell _ rfl) (by unfold maxLen; omega) (by omega) (by simp; omega) ?_)
          intro v' w4 hown' hgrow _
          have R4 := one_step (c := T[0]) z3 o3 b3 _ hown' hgrow
          clear hown' hgrow
          obtain ⟨X4, HX4, o4, b4, z4⟩ := R4
          clear o3 b3
          go_wp2_with (at_builtin; refine wpList_append_own _ rfl (.tmp 34) (.tmp 37) 44 rfl w.heap.size 5 i0 (.int .u8 0) 1 1 Tryz.underlying44 hi hz0 hz1 hz2 rfl (by decide) _ _ _ rfl (World.ownsRow.alloc o4 _) ⟨World.heap w4 |>.size, 0, none⟩ 1 1 [.int .u8 (UInt8.toNat T[1] : Int)] rfl rfl (cell_new1 _ _ _) (Nm.one_cell _ rfl) (by unfold maxLen; omega) (by omega) (by simp; omega) ?_)
          intro v' w5 hown' hgrow _
          have R5 := one_step (c := T[1]) z4 o4 b4 _ hown' hgrow
          clear hown' hgrow
          obtain ⟨X5, HX5, o5, b5, z5⟩ := R5
          clear o4 b4
          go_wp2_with (at_builtin; refine wpList_append_own _ rfl (.tmp 39) (.tmp 42) 44 rfl w.heap.size 5 i0 (.int .u8 0) 1 1 Tryz.underlying44 hi hz0 hz1 hz2 rfl (by decide) _ _ _ rfl (World.ownsRow.alloc o5 _) ⟨World.heap w5 |>.size, 0, none⟩ 1 1 [.int .u8 (UInt8.toNat T[2] : Int)] rfl rfl (cell_new1 _ _ _) (Nm.one_cell _ rfl) (by unfold maxLen; omega) (by omega) (by simp; omega) ?_)
          intro v' w6 hown' hgrow _
          have R6 := one_step (c := T[2]) z5 o5 b5 _ hown' hgrow
          clear hown' hgrow
          obtain ⟨X6, HX6, o6, b6, z6⟩ := R6
          clear o5 b5
          go_wp2
          go_roundw
          case rel => exact ⟨k + 1, n + 1 + 1 + 1 + 1, _, by omega, by go_num, by omega, by show _ = _; rw [HX6.out, HX5.out, HX4.out, HX3.out]; exact HL2.out, by show _ = _; rw [HX6.out, HX5.out, HX4.out, HX3.out]; exact HN.out, o6, b6⟩
          case measure => simp [intOf]; omega
        · have hw0' : (32 : Int) ≤ (s[k].toNat : Int) := by omega
          have hw1' : (126 : Int) < (s[k].toNat : Int) := by omega
          clear hw
          go_wp2_with (first | (go_at_call 28; refine (hth _).mono ?_; rintro e w2 ⟨rfl, hb2⟩; have hown2 := own_below hown hb2; have hbel2 := Nm.below_two hbel hb2; have hsz2 := hbel2.size; clear hb2) | (at_builtin; refine wpList_append_own _ rfl (.tmp 26) (.tmp 27) 44 rfl w.heap.size 5 i0 (.int .u8 0) 1 1 Tryz.underlying44 hi hz0 hz1 hz2 rfl (by decide) _ _ _ rfl (hown2.alloc _) ⟨w2.heap.size, 0, none⟩ 1 1 [.int .u8 (UInt8.toNat (92 : UInt8) : Int)] rfl rfl (cell_new1 _ _ _) (Nm.one_cell _ rfl) (by unfold maxLen; omega) (by omega) (by simp; omega) ?_))
          intro v' w3 hown' hgrow _
          have R3 := one_step (c := (92 : UInt8)) hsz2 hown2 hbel2 _ hown' hgrow
          clear hown' hgrow hown2 hbel2 hown hbel
          obtain ⟨X3, HX3, o3, b3, z3⟩ := R3
          go_wp2_with (at_builtin; refine wpList_append_own _ rfl (.tmp 29) (.tmp 32) 44 rfl w.heap.size 5 i0 (.int .u8 0) 1 1 Tryz.underlying44 hi hz0 hz1 hz2 rfl (by decide) _ _ _ rfl (World.ownsRow.alloc o3 _) ⟨World.heap w3 |>.size, 0, none⟩ 1 1 [.int .u8 (UInt8.toNat T[0] : Int)] rfl rfl (cell_new1 _ _ _) (Nm.one_cell _ rfl) (by unfold maxLen; omega) (by omega) (by simp; omega) ?_)
          intro v' w4 hown' hgrow _
          have R4 := one_step (c := T[0]) z3 o3 b3 _ hown' hgrow
          clear hown' hgrow
          obtain ⟨X4, HX4, o4, b4, z4⟩ := R4
          clear o3 b3
          go_wp2_with (at_builtin; refine wpList_append_own _ rfl (.tmp 34) (.tmp 37) 44 rfl w.heap.size 5 i0 (.int .u8 0) 1 1 Tryz.underlying44 hi hz0 hz1 hz2 rfl (by decide) _ _ _ rfl (World.ownsRow.alloc o4 _) ⟨World.heap w4 |>.size, 0, none⟩ 1 1 [.int .u8 (UInt8.toNat T[1] : Int)] rfl rfl (cell_new1 _ _ _) (Nm.one_cell _ rfl) (by unfold maxLen; omega) (by omega) (by simp; omega) ?_)
          intro v' w5 hown' hgrow _
          have R5 := one_step (c := T[1]) z4 o4 b4 _ hown' hgrow
          clear hown' hgrow
          obtain ⟨X5, HX5, o5, b5, z5⟩ := R5
          clear o4 b4
          go_wp2_with (at_builtin; refine wpList_append_own _ rfl (.tmp 39) (.tmp 42) 44 rfl w.heap.size 5 i0 (.int .u8 0) 1 1 Tryz.underlying44 hi hz0 hz1 hz2 rfl (by decide) _ _ _ rfl (World.ownsRow.alloc o5 _) ⟨World.heap w5 |>.size, 0, none⟩ 1 1 [.int .u8 (UInt8.toNat T[2] : Int)] rfl rfl (cell_new1 _ _ _) (Nm.one_cell _ rfl) (by unfold maxLen; omega) (by omega) (by simp; omega) ?_)
          intro v' w6 hown' hgrow _
          have R6 := one_step (c := T[2]) z5 o5 b5 _ hown' hgrow
          clear hown' hgrow
          obtain ⟨X6, HX6, o6, b6, z6⟩ := R6
          clear o5 b5
          go_wp2
          go_roundw
          case rel => exact ⟨k + 1, n + 1 + 1 + 1 + 1, _, by omega, by go_num, by omega, by show _ = _; rw [HX6.out, HX5.out, HX4.out, HX3.out]; exact HL2.out, by show _ = _; rw [HX6.out, HX5.out, HX4.out, HX3.out]; exact HN.out, o6, b6⟩
          case measure => simp [intOf]; omega
      · have hw0' : (32 : Int) ≤ (s[k].toNat : Int) := by omega
        have hw1' : (s[k].toNat : Int) ≤ 126 := by omega
        by_cases he : s[k].toNat = 34 ∨ s[k].toNat = 92
        · rw [qB_esc hw he] at hq
          have HN : Hid (l ++ ([92] : List UInt8) ++ [s[k]] = 34 :: qL (s.data.toList.take (k + 1))) := by
            show _ = _
            rw [hq, HQ.out]; simp
          have HL2 : Hid ((l ++ ([92] : List UInt8) ++ [s[k]]).length = n + 1 + 1) := by show _ = _; simp [HL.out]
          clear hq HQ HL hw
          by_cases h34 : s[k].toNat = 34
          · have q1 : ((s[k].toNat : Int) == 34) = true := by rw [beq_iff_eq]; omega
            clear he h34
            go_wp2_with (at_builtin; refine wpList_append_own _ rfl (.tmp 50) (.tmp 51) 44 rfl w.heap.size 5 i0 (.int .u8 0) 1 1 Tryz.underlying44 hi hz0 hz1 hz2 rfl (by decide) _ _ _ rfl (World.ownsRow.alloc hown _) ⟨World.heap wr |>.size, 0, none⟩ 1 1 [.int .u8 (UInt8.toNat (92 : UInt8) : Int)] rfl rfl (cell_new1 _ _ _) (Nm.one_cell _ rfl) (by unfold maxLen; omega) (by omega) (by simp; omega) ?_)
            intro v' w3 hown' hgrow _
            have R3 := one_step (c := (92 : UInt8)) hsz hown hbel _ hown' hgrow
            clear hown' hgrow
            obtain ⟨X3, HX3, o3, b3, z3⟩ := R3
            clear hown hbel
            go_wp2_with (at_builtin; refine wpList_append_own _ rfl (.tmp 53) (.tmp 55) 44 rfl w.heap.size 5 i0 (.int .u8 0) 1 1 Tryz.underlying44 hi hz0 hz1 hz2 rfl (by decide) _ _ _ rfl (World.ownsRow.alloc o3 _) ⟨World.heap w3 |>.size, 0, none⟩ 1 1 [.int .u8 (UInt8.toNat s[k] : Int)] rfl rfl (cell_new1 _ _ _) (Nm.one_cell _ rfl) (by unfold maxLen; omega) (by omega) (by simp; omega) ?_)
            intro v' w4 hown' hgrow _
            have R4 := one_step (c := s[k]) z3 o3 b3 _ hown' hgrow
            clear hown' hgrow
            obtain ⟨X4, HX4, o4, b4, z4⟩ := R4
            clear o3 b3
            go_wp2
            go_roundw
            case rel => exact ⟨k + 1, n + 1 + 1, _, by omega, by go_num, by omega, by show _ = _; rw [HX4.out, HX3.out]; exact HL2.out, by show _ = _; rw [HX4.out, HX3.out]; exact HN.out, o4, b4⟩
            case measure => simp [intOf]; omega
          · have q1 : ((s[k].toNat : Int) == 34) = false := by rw [beq_eq_false_iff_ne]; omega
            have q2 : ((s[k].toNat : Int) == 92) = true := by rw [beq_iff_eq]; omega
            clear he h34
            go_wp2_with (at_builtin; refine wpList_append_own _ rfl (.tmp 50) (.tmp 51) 44 rfl w.heap.size 5 i0 (.int .u8 0) 1 1 Tryz.underlying44 hi hz0 hz1 hz2 rfl (by decide) _ _ _ rfl (World.ownsRow.alloc hown _) ⟨World.heap wr |>.size, 0, none⟩ 1 1 [.int .u8 (UInt8.toNat (92 : UInt8) : Int)] rfl rfl (cell_new1 _ _ _) (Nm.one_cell _ rfl) (by unfold maxLen; omega) (by omega) (by simp; omega) ?_)
            intro v' w3 hown' hgrow _
            have R3 := one_step (c := (92 : UInt8)) hsz hown hbel _ hown' hgrow
            clear hown' hgrow
            obtain ⟨X3, HX3, o3, b3, z3⟩ := R3
            clear hown hbel
            go_wp2_with (at_builtin; refine wpList_append_own _ rfl (.tmp 53) (.tmp 55) 44 rfl w.heap.size 5 i0 (.int .u8 0) 1 1 Tryz.underlying44 hi hz0 hz1 hz2 rfl (by decide) _ _ _ rfl (World.ownsRow.alloc o3 _) ⟨World.heap w3 |>.size, 0, none⟩ 1 1 [.int .u8 (UInt8.toNat s[k] : Int)] rfl rfl (cell_new1 _ _ _) (Nm.one_cell _ rfl) (by unfold maxLen; omega) (by omega) (by simp; omega) ?_)
            intro v' w4 hown' hgrow _
            have R4 := one_step (c := s[k]) z3 o3 b3 _ hown' hgrow
            clear hown' hgrow
            obtain ⟨X4, HX4, o4, b4, z4⟩ := R4
            clear o3 b3
            go_wp2
            go_roundw
            case rel => exact ⟨k + 1, n + 1 + 1, _, by omega, by go_num, by omega, by show _ = _; rw [HX4.out, HX3.out]; exact HL2.out, by show _ = _; rw [HX4.out, HX3.out]; exact HN.out, o4, b4⟩
            case measure => simp [intOf]; omega
        · rw [qB_own hw he] at hq
          have HN : Hid (l ++ [s[k]] = 34 :: qL (s.data.toList.take (k + 1))) := by
            show _ = _
            rw [hq, HQ.out]; simp
          have HL2 : Hid ((l ++ [s[k]]).length = n + 1) := by show _ = _; simp [HL.out]
          have q1 : ((s[k].toNat : Int) == 34) = false := by rw [beq_eq_false_iff_ne]; omega
          have q2 : ((s[k].toNat : Int) == 92) = false := by rw [beq_eq_false_iff_ne]; omega
          clear hq HQ HL hw he
          go_wp2_with (at_builtin; refine wpList_append_own _ rfl (.tmp 53) (.tmp 55) 44 rfl w.heap.size 5 i0 (.int .u8 0) 1 1 Tryz.underlying44 hi hz0 hz1 hz2 rfl (by decide) _ _ _ rfl (World.ownsRow.alloc hown _) ⟨World.heap wr |>.size, 0, none⟩ 1 1 [.int .u8 (UInt8.toNat s[k] : Int)] rfl rfl (cell_new1 _ _ _) (Nm.one_cell _ rfl) (by unfold maxLen; omega) (by omega) (by simp; omega) ?_)
          intro v' w4 hown' hgrow _
          have R4 := one_step (c := s[k]) hsz hown hbel _ hown' hgrow
          clear hown' hgrow
          obtain ⟨X4, HX4, o4, b4, z4⟩ := R4
          clear hown hbel
          go_wp2
          go_roundw
          case rel => exact ⟨k + 1, n + 1, _, by omega, by go_num, by omega, by show _ = _; rw [HX4.out]; exact HL2.out, by show _ = _; rw [HX4.out]; exact HN.out, o4, b4⟩
          case measure => simp [intOf]; omega
    · have hlt' : (s.size : Int) ≤ (k : Int) := by omega
      have hks : k = s.size := by omega
      have hfin : (⟨(l ++ [34]).toArray⟩ : ByteArray) = showTextS s := by
        rw [HQ.out, hks, List.take_of_length_le (by simp)]; rfl
      have HF := Nm.hide hfin
      clear HQ hfin
      go_wp2_with (at_builtin; refine wpList_append_own _ rfl (.tmp 57) (.tmp 58) 44 rfl w.heap.size 5 i0 (.int .u8 0) 1 1 Tryz.underlying44 hi hz0 hz1 hz2 rfl (by decide) _ _ _ rfl (World.ownsRow.alloc hown _) ⟨World.heap wr |>.size, 0, none⟩ 1 1 [.int .u8 (UInt8.toNat (34 : UInt8) : Int)] rfl rfl (cell_new1 _ _ _) (Nm.one_cell _ rfl) (by unfold maxLen; omega) (by omega) (by simp; omega) ?_)
      intro v' w6 hown' hgrow _
      have R := one_step (c := (34 : UInt8)) hsz hown hbel _ hown' hgrow
      clear hown' hgrow
      obtain ⟨X6, HX6, R⟩ := R
      rw [← HX6.out] at HF
      obtain ⟨g, cp, hv, hcv⟩ := Nm.conv_own (P := Tryz.prog) (src := 44) (dst := 9) Tryz.underlying44 Tryz.underlying5 Tryz.underlying9 R.1 (by omega)
      subst hv
      rw [HF.out] at hcv
      go_wp2
      go_ret
      exact ⟨rfl, R.2.1⟩
end Go.Proofs.YtechmpdfbpehiaaGreatDoor
