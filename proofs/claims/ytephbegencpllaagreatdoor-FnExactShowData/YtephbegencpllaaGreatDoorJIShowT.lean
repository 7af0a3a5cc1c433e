import Derived.Test.YtephbegencpllaaGreatDoorTxt6
import Derived.Test.YtephbegencpllaaGreatDoorJMath
import Derived.Laws.MakeOwn
import Derived.Test.YtephbegencpllaaGreatDoorJShow
import Derived.Test.YtephbegencpllaaGreatDoorJFoldM
/- impl.ShowText by its contract. -/
namespace Go.Proofs.YtephbegencpllaaGreatDoor
open Go.RowKit

theorem two_bytes (a b : Int) : ∀ u ∈ [Value.int .u8 a, .int .u8 b], u.oneCell' = true := by
  intro u hu
  simp at hu
  rcases hu with rfl | rfl <;> rfl

set_option maxRecDepth 100000 in
set_option maxHeartbeats 4000000 in
theorem implShowText_any (s : ByteArray) (w : World) (hs : s.size ≤ 1000000000) :
    Calls Tryz.prog 61 #[.string s] w fun e w' => e = .returned (.string (showTextS s)) ∧ Below w.heap.size w w' := by
  obtain ⟨i0, hi, hz0, hz1, hz2⟩ := info_parts Tryz.infoU8x
  obtain ⟨wm, hmk, hownm, hgrm⟩ := run_make_own (P := Tryz.prog) w w.heap.size 48 5 i0 (.int .u8 0) 1 Tryz.underlying48 hi hz0 hz1 .i64 .i64 (s.size + 2) (by rw [hz2]; omega) (by unfold maxLen; omega) (Nat.le_refl _)
  have hbelm : Below w.heap.size w wm := (Below.refl _ _).grown hgrm (Nat.le_refl _) (by simp)
  have hszm := hbelm.size
  rw [show ((s.size + 2 : Nat) : Int) = (s.size : Int) + 2 by omega] at hmk
  clear hgrm
  go_enter Tryz.func61, Tryz.ntmps61
  go_wp2_with (at_builtin; refine wpList_append_own _ rfl (.tmp 10) (.tmp 11) 48 rfl w.heap.size 5 i0 (.int .u8 0) 1 1 Tryz.underlying48 hi hz0 hz1 hz2 rfl (by decide) _ _ _ rfl (World.ownsRow.alloc hownm _) ⟨wm.heap.size, 0, none⟩ 1 1 [.int .u8 (UInt8.toNat 34 : Int)] rfl rfl (cell_new1 _ _ _) (Nm.one_cell _ rfl) (by unfold maxLen; omega) (by omega) (by simp; omega) ?_)
  intro v' w1 hown' hgrow _
  have R1 := one_step (c := 34) (n := 0) (l := []) hszm hownm hbelm _ hown' hgrow
  clear hown' hgrow
  obtain ⟨X1, HX1, o1, b1, z1⟩ := R1
  clear hownm hbelm hmk
  rw [List.nil_append] at HX1
  have hX1 : X1 = [34] := HX1.out
  subst hX1
  go_wp2
  go_loopw [3, 15] (fun v i wr => ∃ (k n : Nat) (l : List UInt8), k ≤ s.size ∧ i = .int .i64 k ∧ n ≤ 4 * k + 1 ∧ Hid (l.length = n) ∧ Hid (l = 34 :: qL (s.data.toList.take k)) ∧ wr.ownsRow w.heap.size 5 1 v n (Nm.bys l) ∧ Below w.heap.size w wr)
    (fun _ i _ => s.size - (intOf i).toNat)
  case atStart => exact ⟨0, 1, [34], Nat.zero_le _, rfl, by omega, rfl, by show _ = _; simp [qL], o1, b1⟩
  case round =>
    obtain ⟨k, n, l, hk, rfl, hn, HL, HQ, hown, hbel⟩ := hrel
    clear o1 b1 z1
    have hsz := hbel.size
    by_cases hlt : k < s.size
    · have hlt' : (k : Int) < (s.size : Int) := by omega
      have hq := qL_step (Nm.get_data hlt)
      have hc : (s[k].toNat : Int) < 256 := by have := s[k].toNat_lt; omega
      by_cases he : s[k].toNat = 34 ∨ s[k].toNat = 92
      · have hw : ¬ (s[k].toNat < 32 ∨ 126 < s[k].toNat) := by omega
        rw [qB_esc hw he] at hq
        have HN : Hid (l ++ [92, s[k]] = 34 :: qL (s.data.toList.take (k + 1))) := by
          show _ = _
          rw [hq, HQ.out]; simp
        have HL2 : Hid ((l ++ [92, s[k]]).length = n + 2) := by show _ = _; simp [HL.out]
        clear hq HQ HL hw
        by_cases h34 : s[k].toNat = 34
        · have q1 : ((s[k].toNat : Int) == 34) = true := by rw [beq_iff_eq]; omega
          clear he h34
          go_wp2_with (at_builtin; refine wpList_append_own _ rfl (.tmp 32) (.tmp 34) 48 rfl w.heap.size 5 i0 (.int .u8 0) 1 1 Tryz.underlying48 hi hz0 hz1 hz2 rfl (by decide) _ _ _ rfl (hown.alloc _) ⟨wr.heap.size, 0, none⟩ 2 2 [.int .u8 92, .int .u8 (s[k].toNat : Int)] rfl rfl (World.news_of_block (heap_alloc_new _ _)) (two_bytes _ _) (by unfold maxLen; omega) (by omega) (by simp; omega) ?_; intro vb wb hown2 hgrow2 hnl2; clear hnl2; have R2 := Nm.bys_step (x := [92, s[k]]) (by simp; omega) (hown.alloc _) (hbel.alloc hsz _) hown2 hgrow2; clear hown2 hgrow2)
          go_roundw
          case rel => exact ⟨k + 1, n + 2, _, by omega, by go_num, by omega, HL2, HN, R2.1, R2.2⟩
          case measure => simp [intOf]; omega
        · have q1 : ((s[k].toNat : Int) == 34) = false := by rw [beq_eq_false_iff_ne]; omega
          have q2 : ((s[k].toNat : Int) == 92) = true := by rw [beq_iff_eq]; omega
          clear he h34
          go_wp2_with (at_builtin; refine wpList_append_own _ rfl (.tmp 32) (.tmp 34) 48 rfl w.heap.size 5 i0 (.int .u8 0) 1 1 Tryz.underlying48 hi hz0 hz1 hz2 rfl (by decide) _ _ _ rfl (hown.alloc _) ⟨wr.heap.size, 0, none⟩ 2 2 [.int .u8 92, .int .u8 (s[k].toNat : Int)] rfl rfl (World.news_of_block (heap_alloc_new _ _)) (two_bytes _ _) (by unfold maxLen; omega) (by omega) (by simp; omega) ?_; intro vb wb hown2 hgrow2 hnl2; clear hnl2; have R2 := Nm.bys_step (x := [92, s[k]]) (by simp; omega) (hown.alloc _) (hbel.alloc hsz _) hown2 hgrow2; clear hown2 hgrow2)
          go_roundw
          case rel => exact ⟨k + 1, n + 2, _, by omega, by go_num, by omega, HL2, HN, R2.1, R2.2⟩
          case measure => simp [intOf]; omega
      · have q1 : ((s[k].toNat : Int) == 34) = false := by rw [beq_eq_false_iff_ne]; omega
        have q2 : ((s[k].toNat : Int) == 92) = false := by rw [beq_eq_false_iff_ne]; omega
        by_cases hw : s[k].toNat < 32 ∨ 126 < s[k].toNat
        · rw [qB_num hw] at hq
          have HN : Hid (l ++ (92 :: Nm.threeL s[k]) = 34 :: qL (s.data.toList.take (k + 1))) := by
            show _ = _
            rw [hq, HQ.out]; simp
          have HL2 : Hid ((l ++ (92 :: Nm.threeL s[k])).length = n + 4) := by show _ = _; simp [HL.out, Nm.threeL]
          clear hq HQ HL he
          by_cases hw0 : s[k].toNat < 32
          · have hw0' : (s[k].toNat : Int) < 32 := by omega
            clear hw
            go_wp2_with (go_at_call 104; refine (showNumber_any _ n w.heap.size l s[k] _ hown hsz (by omega)).mono ?_; rintro e w3 ⟨v3, rfl, o3, b3⟩)
            go_roundw
            case rel => exact ⟨k + 1, n + 4, _, by omega, by go_num, by omega, HL2, HN, o3, hbel.trans b3⟩
            case measure => simp [intOf]; omega
          · have hw0' : (32 : Int) ≤ (s[k].toNat : Int) := by omega
            have hw1' : (126 : Int) < (s[k].toNat : Int) := by omega
            clear hw
            go_wp2_with (go_at_call 104; refine (showNumber_any _ n w.heap.size l s[k] _ hown hsz (by omega)).mono ?_; rintro e w3 ⟨v3, rfl, o3, b3⟩)
            go_roundw
            case rel => exact ⟨k + 1, n + 4, _, by omega, by go_num, by omega, HL2, HN, o3, hbel.trans b3⟩
            case measure => simp [intOf]; omega
        · rw [qB_own hw he] at hq
          have HN : Hid (l ++ [s[k]] = 34 :: qL (s.data.toList.take (k + 1))) := by
            show _ = _
            rw [hq, HQ.out]; simp
          have HL2 : Hid ((l ++ [s[k]]).length = n + 1) := by show _ = _; simp [HL.out]
          have hw0' : (32 : Int) ≤ (s[k].toNat : Int) := by omega
          have hw1' : (s[k].toNat : Int) ≤ 126 := by omega
          clear hq HQ HL hw he
          go_wp2_with (at_builtin; refine wpList_append_own _ rfl (.tmp 21) (.tmp 23) 48 rfl w.heap.size 5 i0 (.int .u8 0) 1 1 Tryz.underlying48 hi hz0 hz1 hz2 rfl (by decide) _ _ _ rfl (World.ownsRow.alloc hown _) ⟨World.heap wr |>.size, 0, none⟩ 1 1 [.int .u8 (UInt8.toNat s[k] : Int)] rfl rfl (cell_new1 _ _ _) (Nm.one_cell _ rfl) (by unfold maxLen; omega) (by omega) (by simp; omega) ?_)
          intro v' w4 hown' hgrow _
          have R4 := one_step (c := s[k]) hsz hown hbel _ hown' hgrow
          clear hown' hgrow
          obtain ⟨X4, HX4, o4, b4, z4⟩ := R4
          clear hown hbel
          go_wp2
          go_roundw
          case rel => exact ⟨k + 1, n + 1, _, by omega, by go_num, by omega, by show _ = _; rw [HX4.out]; exact HL2.out, by show _ = _; rw [HX4.out]; exact HN.out, o4, b4⟩
          case measure => simp [intOf]; omega
    · have hlt' : (s.size : Int) ≤ (k : Int) := by omega
      have hks : k = s.size := by omega
      have hfin : (⟨(l ++ [34]).toArray⟩ : ByteArray) = showTextS s := by
        rw [HQ.out, hks, List.take_of_length_le (by simp)]; rfl
      have HF := Nm.hide hfin
      clear HQ hfin
      go_wp2_with (at_builtin; refine wpList_append_own _ rfl (.tmp 47) (.tmp 48) 48 rfl w.heap.size 5 i0 (.int .u8 0) 1 1 Tryz.underlying48 hi hz0 hz1 hz2 rfl (by decide) _ _ _ rfl (World.ownsRow.alloc hown _) ⟨World.heap wr |>.size, 0, none⟩ 1 1 [.int .u8 (UInt8.toNat (34 : UInt8) : Int)] rfl rfl (cell_new1 _ _ _) (Nm.one_cell _ rfl) (by unfold maxLen; omega) (by omega) (by simp; omega) ?_)
      intro v' w6 hown' hgrow _
      have R := one_step (c := (34 : UInt8)) hsz hown hbel _ hown' hgrow
      clear hown' hgrow
      obtain ⟨X6, HX6, R⟩ := R
      rw [← HX6.out] at HF
      obtain ⟨g, cp, hv, hcv⟩ := Nm.conv_own (P := Tryz.prog) (src := 48) (dst := 9) Tryz.underlying48 Tryz.underlying5 Tryz.underlying9 R.1 (by omega)
      subst hv
      rw [HF.out] at hcv
      go_wp2
      go_ret
      exact ⟨rfl, R.2.1⟩
end Go.Proofs.YtephbegencpllaaGreatDoor
/- The writers of words that hold no number of their own: a name, a text, a tag, the rest; by their contracts. -/
namespace Go.Proofs.YtephbegencpllaaGreatDoor
open Go.RowKit

/-- A word and how many bytes it told. -/
def wrV (t : ByteArray) (n : Nat) : Value := .tuple #[.string t, .int .i64 (n : Int)]

set_option maxRecDepth 100000 in
set_option maxHeartbeats 800000 in
theorem nameWrite_any (d : ByteArray) (k : Nat) (w : World) (hk : Dt.sz .nm d = some k) (hd : d.size ≤ 1000000) :
    Calls Tryz.prog 54 #[.string d] w fun e w' => e = .returned (wrV (Nm.showS (d.extract 0 k)).1 k) ∧ Below w.heap.size w w' := by
  have hle := Dt.sz_le hk
  have h1 := nameSize_any d w
  rw [hk] at h1
  simp only [szV, Option.getD_some, Option.isSome_some] at h1
  have h2 := implShowName_any (d.extract 0 k) w (by have : (d.extract 0 k).size ≤ 1000000 := by simp; omega
                                                    unfold maxLen; omega)
  have hle' : (k : Int) ≤ (d.size : Int) := by omega
  unfold wrV
  generalize (Nm.showS (d.extract 0 k)).1 = T at *
  generalize (Nm.showS (d.extract 0 k)).2 = C at *
  clear hk
  go_enter Tryz.func54, Tryz.ntmps54
  go_wp2_with (first | (go_at_call 55; refine h1.mono ?_; rintro e w1 ⟨rfl, hw⟩; obtain rfl : w = w1 := hw.symm; clear hw) | (go_at_call 56; refine h2.mono ?_; rintro e w2 ⟨rfl, hb2⟩))
  go_ret2
  exact ⟨rfl, hb2⟩

set_option maxRecDepth 100000 in
set_option maxHeartbeats 800000 in
theorem textWrite_any (d : ByteArray) (k : Nat) (w : World) (h0 : 0 < d.size) (hk : k = 1 + d[0].toNat) (hle : k ≤ d.size) (hd : d.size ≤ 1000000) :
    Calls Tryz.prog 60 #[.string d] w fun e w' => e = .returned (wrV (showTextS (d.extract 1 k)) k) ∧ Below w.heap.size w w' := by
  have h2 := implShowText_any (d.extract 1 k) w (by simp; omega)
  have hk' : (k : Int) = 1 + (d[0].toNat : Int) := by omega
  have hc : (d[0].toNat : Int) < 256 := by have := d[0].toNat_lt; omega
  have hle' : 1 + (d[0].toNat : Int) ≤ (d.size : Int) := by omega
  have h1k : (1 : Int) ≤ 1 + (d[0].toNat : Int) := by omega
  have h0' : (0 : Int) < (d.size : Int) := by omega
  subst hk
  unfold wrV
  generalize showTextS (d.extract 1 (1 + d[0].toNat)) = T at *
  go_enter Tryz.func60, Tryz.ntmps60
  go_wp2_with (go_at_call 61; refine h2.mono ?_; rintro e w2 ⟨rfl, hb2⟩)
  go_ret2
  rw [hk']
  exact ⟨rfl, hb2⟩

set_option maxRecDepth 100000 in
set_option maxHeartbeats 800000 in
theorem restWrite_any (d : ByteArray) (w : World) (hd : d.size ≤ 1000000) :
    Calls Tryz.prog 85 #[.string d] w fun e w' => e = .returned (wrV (showTextS d) d.size) ∧ Below w.heap.size w w' := by
  have h2 := implShowText_any d w (by omega)
  unfold wrV
  generalize showTextS d = T at *
  go_enter Tryz.func85, Tryz.ntmps85
  go_wp2_with (go_at_call 61; refine h2.mono ?_; rintro e w2 ⟨rfl, hb2⟩)
  go_ret2
  exact ⟨rfl, hb2⟩

set_option maxRecDepth 100000 in
set_option maxHeartbeats 800000 in
theorem tagWrite_any (d : ByteArray) (k : Nat) (w : World) (h0 : 0 < d.size) (hk : k = 1 + d[0].toNat) (hle : k ≤ d.size) :
    Calls Tryz.prog 83 #[.string d] w fun e w' => e = .returned (wrV (d.extract 1 k) k) ∧ w' = w := by
  have hk' : (k : Int) = 1 + (d[0].toNat : Int) := by omega
  have hc : (d[0].toNat : Int) < 256 := by have := d[0].toNat_lt; omega
  have hle' : 1 + (d[0].toNat : Int) ≤ (d.size : Int) := by omega
  have h1k : (1 : Int) ≤ 1 + (d[0].toNat : Int) := by omega
  have h0' : (0 : Int) < (d.size : Int) := by omega
  subst hk
  unfold wrV
  go_enter Tryz.func83, Tryz.ntmps83
  go_wp2
  go_ret2
  rw [hk']
  exact ⟨rfl, rfl⟩
end Go.Proofs.YtephbegencpllaaGreatDoor
/- A name's text, as plain mathematics. -/
namespace Go.Proofs.YtephbegencpllaaGreatDoor.Nm
open Go.RowKit

def digB (c : UInt8) : Bool := decide (48 ≤ c.toNat) && decide (c.toNat ≤ 57)

def num3 (c d e : UInt8) : Nat := (c.toNat - 48) * 100 + (d.toNat - 48) * 10 + (e.toNat - 48)

def esc3 (c : UInt8) : List UInt8 → Option (UInt8 × Nat)
  | d :: e :: _ => if digB d = true ∧ digB e = true then (if num3 c d e ≤ 255 then some (UInt8.ofNat (num3 c d e), 3) else none) else none
  | _ => none

/-- What stands behind a backslash: the byte, and how many bytes it takes. -/
def escF : List UInt8 → Option (UInt8 × Nat)
  | [] => none
  | c :: r => if digB c = true then esc3 c r else some (c, 1)

theorem esc_nil : escF [] = none := rfl
theorem esc_byte {c : UInt8} (r : List UInt8) (h : digB c = false) : escF (c :: r) = some (c, 1) := by
  rw [escF, if_neg (by simp [h])]
theorem esc_short {c : UInt8} {r : List UInt8} (h : digB c = true) (hr : r.length < 2) : escF (c :: r) = none := by
  rw [escF, if_pos h]
  match r, hr with
  | [], _ => rfl
  | [_], _ => rfl
theorem esc_three {c d e : UInt8} {r : List UInt8} (h : digB c = true) : escF (c :: d :: e :: r) = if digB d = true ∧ digB e = true then (if num3 c d e ≤ 255 then some (UInt8.ofNat (num3 c d e), 3) else none) else none := by
  rw [escF, if_pos h, esc3]

theorem esc_len {l : List UInt8} {b : UInt8} {n : Nat} (h : escF l = some (b, n)) : 1 ≤ n ∧ n ≤ l.length ∧ n ≤ 3 := by
  cases l with
  | nil => simp [escF] at h
  | cons c r =>
    cases hd : digB c with
    | false =>
      rw [esc_byte r hd] at h
      simp at h
      simp only [List.length_cons]
      omega
    | true =>
      match r with
      | [] => rw [esc_short hd (by simp)] at h; simp at h
      | [_] => rw [esc_short hd (by simp)] at h; simp at h
      | d :: e :: r =>
        rw [esc_three hd] at h
        split at h
        · split at h
          · simp at h
            simp only [List.length_cons]
            omega
          · simp at h
        · simp at h

def fitsB (n : Nat) : Bool := decide (1 ≤ n) && decide (n ≤ 63)

def scanF : Nat → Bool → List UInt8 → List UInt8 → List ByteArray → List ByteArray × Bool × Int
  | 0, _, _, _, _ => ([], false, 0)
  | _ + 1, st, [], now, done =>
    if st = true then (done, true, 0)
    else if fitsB now.length = true then (done ++ [⟨now.toArray⟩], false, 0) else ([], false, 2)
  | f + 1, _, c :: r, now, done =>
    if c = 46 then
      (if fitsB now.length = true then scanF f true r [] (done ++ [⟨now.toArray⟩]) else ([], false, 2))
    else if c = 92 then
      (match escF r with
      | none => ([], false, 4)
      | some (b, n) => scanF f false (r.drop n) (now ++ [b]) done)
    else scanF f false r (now ++ [c]) done

def scanS (s : ByteArray) : List ByteArray × Bool × Int := scanF (s.size + 1) false s.data.toList [] []

def ScAt (s : ByteArray) (st : Bool) (k : Nat) (now : List UInt8) (done : List ByteArray) : Prop :=
  k ≤ s.size ∧ ∃ f, s.size - k < f ∧ scanS s = scanF f st (s.data.toList.drop k) now done

theorem sc_start (s : ByteArray) : ScAt s false 0 [] [] := ⟨Nat.zero_le _, s.size + 1, by omega, by rw [List.drop_zero]; rfl⟩

theorem sc_start' (s : ByteArray) (h : 0 < s.size) : ScAt s true 0 [] [] := by
  refine ⟨Nat.zero_le _, s.size + 1, by omega, ?_⟩
  rw [List.drop_zero, scanS]
  cases hd : s.data.toList with
  | nil =>
    have : s.data.toList.length = 0 := by rw [hd]; rfl
    simp at this
    have h2 : s.size = 0 := by simp [this]
    omega
  | cons c r => simp only [scanF]

theorem drop_at {s : ByteArray} {k : Nat} (h : k < s.size) : s.data.toList.drop k = s[k] :: s.data.toList.drop (k + 1) := by
  have hl : k < s.data.toList.length := by simpa using h
  rw [List.drop_eq_getElem_cons hl]
  rfl

theorem drop_end {s : ByteArray} : s.data.toList.drop s.size = [] := List.drop_of_length_le (by simp)

section
variable {s : ByteArray} {st : Bool} {k : Nat} {now : List UInt8} {done : List ByteArray}

theorem sc_dot (h : ScAt s st k now done) (hk : k < s.size) (hc : s[k] = 46) (hf : fitsB now.length = true) : ScAt s true (k + 1) [] (done ++ [⟨now.toArray⟩]) := by
  obtain ⟨_, f, hf2, e⟩ := h
  obtain ⟨g, rfl⟩ : ∃ g, f = g + 1 := ⟨f - 1, by omega⟩
  refine ⟨by omega, g, by omega, ?_⟩
  rw [e, drop_at hk, scanF, if_pos hc, if_pos hf]

theorem sc_dot_bad (h : ScAt s st k now done) (hk : k < s.size) (hc : s[k] = 46) (hf : fitsB now.length = false) : scanS s = ([], false, 2) := by
  obtain ⟨_, f, hf2, e⟩ := h
  obtain ⟨g, rfl⟩ : ∃ g, f = g + 1 := ⟨f - 1, by omega⟩
  rw [e, drop_at hk, scanF, if_pos hc, if_neg (by simp [hf])]

theorem sc_esc_bad (h : ScAt s st k now done) (hk : k < s.size) (hc : s[k] = 92) (he : escF (s.data.toList.drop (k + 1)) = none) : scanS s = ([], false, 4) := by
  obtain ⟨_, f, hf2, e⟩ := h
  obtain ⟨g, rfl⟩ : ∃ g, f = g + 1 := ⟨f - 1, by omega⟩
  rw [e, drop_at hk, scanF, if_neg (by rw [hc]; decide), if_pos hc, he]

theorem sc_esc (h : ScAt s st k now done) (hk : k < s.size) (hc : s[k] = 92) {b : UInt8} {n : Nat} (he : escF (s.data.toList.drop (k + 1)) = some (b, n)) : ScAt s false (k + 1 + n) (now ++ [b]) done := by
  obtain ⟨_, f, hf2, e⟩ := h
  obtain ⟨g, rfl⟩ : ∃ g, f = g + 1 := ⟨f - 1, by omega⟩
  have hl := esc_len he
  simp only [List.length_drop, Array.length_toList, ByteArray.size_data] at hl
  refine ⟨by omega, g, by omega, ?_⟩
  rw [e, drop_at hk, scanF, if_neg (by rw [hc]; decide), if_pos hc, he]
  simp only [List.drop_drop]

theorem sc_plain (h : ScAt s st k now done) (hk : k < s.size) (hc : s[k] ≠ 46) (hc2 : s[k] ≠ 92) : ScAt s false (k + 1) (now ++ [s[k]]) done := by
  obtain ⟨_, f, hf2, e⟩ := h
  obtain ⟨g, rfl⟩ : ∃ g, f = g + 1 := ⟨f - 1, by omega⟩
  refine ⟨by omega, g, by omega, ?_⟩
  rw [e, drop_at hk, scanF, if_neg hc, if_neg hc2]

theorem sc_abs (h : ScAt s true k now done) (hk : k = s.size) : scanS s = (done, true, 0) := by
  obtain ⟨_, f, hf2, e⟩ := h
  obtain ⟨g, rfl⟩ : ∃ g, f = g + 1 := ⟨f - 1, by omega⟩
  rw [e, hk, drop_end, scanF, if_pos rfl]

theorem sc_rel (h : ScAt s false k now done) (hk : k = s.size) (hf : fitsB now.length = true) : scanS s = (done ++ [⟨now.toArray⟩], false, 0) := by
  obtain ⟨_, f, hf2, e⟩ := h
  obtain ⟨g, rfl⟩ : ∃ g, f = g + 1 := ⟨f - 1, by omega⟩
  rw [e, hk, drop_end, scanF, if_neg (by simp), if_pos hf]

theorem sc_rel_bad (h : ScAt s false k now done) (hk : k = s.size) (hf : fitsB now.length = false) : scanS s = ([], false, 2) := by
  obtain ⟨_, f, hf2, e⟩ := h
  obtain ⟨g, rfl⟩ : ∃ g, f = g + 1 := ⟨f - 1, by omega⟩
  rw [e, hk, drop_end, scanF, if_neg (by simp), if_neg (by simp [hf])]
end

theorem fits_yes {n : Nat} (h1 : 1 ≤ n) (h2 : n ≤ 63) : fitsB n = true := by simp [fitsB, h1, h2]
theorem fits_no {n : Nat} (h : ¬ (1 ≤ n ∧ n ≤ 63)) : fitsB n = false := by
  simp [fitsB]; omega

end Go.Proofs.YtephbegencpllaaGreatDoor.Nm
