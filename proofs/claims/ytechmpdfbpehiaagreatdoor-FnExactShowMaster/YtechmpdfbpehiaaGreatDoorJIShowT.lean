import Derived.Test.YtechmpdfbpehiaaGreatDoorTxt6
import Derived.Test.YtechmpdfbpehiaaGreatDoorJMath
import Derived.Laws.MakeOwn
import Derived.Test.YtechmpdfbpehiaaGreatDoorJShow
import Derived.Test.YtechmpdfbpehiaaGreatDoorJNameSz
import Derived.Test.YtechmpdfbpehiaaGreatDoorRows
import Derived.Lib.AppendIntMem
import Derived.Lib.ItoaMem
import Derived.WalkSpells
import Derived.WalkLawsBesides
import Derived.Shelf.Strings.Builder1
import Derived.Shelf.Strings.Builder2
import Derived.Shelf.Strings.OnBuilder
import Derived.Shelf.Small.Strs
import Derived.Shelf.Strconv.Itoa0
import Derived.Shelf.Strconv.Itoa1
import Derived.Shelf.LaysM
import Derived.Shelf.Strconv.Itoa2
import Derived.Shelf.Strconv.Itoa3
import Derived.Shelf.Strconv.Itoa4
import Derived.Shelf.Strings.Search1
import Derived.Shelf.Strings.Search2
import Derived.Shelf.Strings.Search3
import Derived.Shelf.Strings.Cut
import Derived.Shelf.Strings.Count
import Derived.Shelf.Strings.Shaped
import Derived.Shelf.Strings.Split
import Derived.Shelf.Strings.SplitShaped
import Derived.Shelf.Bits.Mul64
import Derived.Shelf.Unicode.DecodeSlow
import Derived.Shelf.Unicode.DecodeAny
import Derived.Ground.Names2Prog
import Derived.Shelf.Slices.SearchI
import Derived.Test.YtechmpdfbpehiaaGreatDoorProg
/- impl.ShowText by its contract. -/
namespace Go.Proofs.YtechmpdfbpehiaaGreatDoor
open Go.RowKit

theorem two_bytes (a b : Int) : ∀ u ∈ [Value.int .u8 a, .int .u8 b], u.oneCell' = true := by
  intro u hu
  simp at hu
  rcases hu with rfl | rfl <;> rfl

set_option maxRecDepth 100000 in
set_option maxHeartbeats 4000000 in
theorem implShowText_any (s : ByteArray) (w : World) (hs : s.size ≤ 1000000000) :
    Calls Tryz.prog 96 #[.string s] w fun e w' => e = .returned (.string (showTextS s)) ∧ Below w.heap.size w w' := by
  obtain ⟨i0, hi, hz0, hz1, hz2⟩ := info_parts Tryz.infoU8x
  obtain ⟨wm, hmk, hownm, hgrm⟩ := run_make_own (P := Tryz.prog) w w.heap.size 44 5 i0 (.int .u8 0) 1 Tryz.underlying44 hi hz0 hz1 .i64 .i64 (s.size + 2) (by rw [hz2]; omega) (by unfold maxLen; omega) (Nat.le_refl _)
  have hbelm : Below w.heap.size w wm := (Below.refl _ _).grown hgrm (Nat.le_refl _) (by simp)
  have hszm := hbelm.size
  rw [show ((s.size + 2 : Nat) : Int) = (s.size : Int) + 2 by omega] at hmk
  clear hgrm
  go_enter Tryz.func96, Tryz.ntmps96
  go_wp2_with (at_builtin; refine wpList_append_own _ rfl (.tmp 10) (.tmp 11) 44 rfl w.heap.size 5 i0 (.int .u8 0) 1 1 Tryz.underlying44 hi hz0 hz1 hz2 rfl (by decide) _ _ _ rfl (World.ownsRow.alloc hownm _) ⟨wm.heap.size, 0, none⟩ 1 1 [.int .u8 (UInt8.toNat 34 : Int)] rfl rfl (cell_new1 _ _ _) (Nm.one_cell _ rfl) (by unfold maxLen; omega) (by omega) (by simp; omega) ?_)
  intro v' w1 hown' hgrow _
  have R1 := one_step (c := 34) (n := 0) (l := []) hszm hownm hbelm _ hown' hgrow
  clear hown' hgrow
  obtain ⟨X1, HX1, o1, b1, z1⟩ := R1
  clear hownm hbelm hmk
  rw [List.nil_append] at HX1
  have hX1 : X1 = [34] := HX1.out
  subst hX1
  go_wp2
  go_loopw [3, 15] (fun v i wr => ∃ (k n : Nat) (l : List UInt8), k ≤ s.size ∧ i = .int .i64 k ∧ n ≤ 4 * k + 1 ∧ Hid (l.length = n) ∧ Hid (l = 34 :: qL (s.data.toList.take k)) ∧ wr.ownsRow w.heap.size 5 1 v n (Nm.bys l) ∧ Below w.heap.size w wr)
    (fun _ i _ => s.size - (intOf i).toNat)
  case atStart => exact ⟨0, 1, [34], Nat.zero_le _, rfl, by omega, rfl, by show _ = _; simp [qL], o1, b1⟩
  case round =>
    obtain ⟨k, n, l, hk, rfl, hn, HL, HQ, hown, hbel⟩ := hrel
    clear o1 b1 z1
    have hsz := hbel.size
    by_cases hlt : k < s.size
    · have hlt' : (k : Int) < (s.size : Int) := by omega
      have hq := qL_step (Nm.get_data hlt)
      have hc : (s[k].toNat : Int) < 256 := by have := s[k].toNat_lt; omega
      by_cases he : s[k].toNat = 34 ∨ s[k].toNat = 92
      · have hw : ¬ (s[k].toNat < 32 ∨ 126 < s[k].toNat) := by omega
        rw [qB_esc hw he] at hq
        have HN : Hid (l ++ [92, s[k]] = 34 :: qL (s.data.toList.take (k + 1))) := by
          show _ = _
          rw [hq, HQ.out]; simp
        have HL2 : Hid ((l ++ [92, s[k]]).length = n + 2) := by show _ = _; simp [HL.out]
        clear hq HQ HL hw
        by_cases h34 : s[k].toNat = 34
        · have q1 : ((s[k].toNat : Int) == 34) = true := by rw [beq_iff_eq]; omega
          clear he h34
          go_wp2_with (at_builtin; refine wpList_append_own _ rfl (.tmp 32) (.tmp 34) 44 rfl w.heap.size 5 i0 (.int .u8 0) 1 1 Tryz.underlying44 hi hz0 hz1 hz2 rfl (by decide) _ _ _ rfl (hown.alloc _) ⟨wr.heap.size, 0, none⟩ 2 2 [.int .u8 92, .int .u8 (s[k].toNat : Int)] rfl rfl (World.news_of_block (heap_alloc_new _ _)) (two_bytes _ _) (by unfold maxLen; omega) (by omega) (by simp; omega) ?_; intro vb wb hown2 hgrow2 hnl2; clear hnl2; have R2 := Nm.bys_step (x := [92, s[k]]) (by simp; omega) (hown.alloc _) (hbel.alloc hsz _) hown2 hgrow2; clear hown2 hgrow2)
          go_roundw
          case rel => exact ⟨k + 1, n + 2, _, by omega, by go_num, by omega, HL2, HN, R2.1, R2.2⟩
          case measure => simp [intOf]; omega
        · have q1 : ((s[k].toNat : Int) == 34) = false := by rw [beq_eq_false_iff_ne]; omega
          have q2 : ((s[k].toNat : Int) == 92) = true := by rw [beq_iff_eq]; omega
          clear he h34
          go_wp2_with (at_builtin; refine wpList_append_own _ rfl (.tmp 32) (.tmp 34) 44 rfl w.heap.size 5 i0 (.int .u8 0) 1 1 Tryz.underlying44 hi hz0 hz1 hz2 rfl (by decide) _ _ _ rfl (hown.alloc _) ⟨wr.heap.size, 0, none⟩ 2 2 [.int .u8 92, .int .u8 (s[k].toNat : Int)] rfl rfl (World.news_of_block (heap_alloc_new _ _)) (two_bytes _ _) (by unfold maxLen; omega) (by omega) (by simp; omega) ?_; intro vb wb hown2 hgrow2 hnl2; clear hnl2; have R2 := Nm.bys_step (x := [92, s[k]]) (by simp; omega) (hown.alloc _) (hbel.alloc hsz _) hown2 hgrow2; clear hown2 hgrow2)
          go_roundw
          case rel => exact ⟨k + 1, n + 2, _, by omega, by go_num, by omega, HL2, HN, R2.1, R2.2⟩
          case measure => simp [intOf]; omega
      · have q1 : ((s[k].toNat : Int) == 34) = false := by rw [beq_eq_false_iff_ne]; omega
        have q2 : ((s[k].toNat : Int) == 92) = false := by rw [beq_eq_false_iff_ne]; omega
        by_cases hw : s[k].toNat < 32 ∨ 126 < s[k].toNat
        · rw [qB_num hw] at hq
          have HN : Hid (l ++ (92 :: Nm.threeL s[k]) = 34 :: qL (s.data.toList.take (k + 1))) := by
            show _ = _
            rw [hq, HQ.out]; simp
          have HL2 : Hid ((l ++ (92 :: Nm.threeL s[k])).length = n + 4) := by show _ = _; simp [HL.out, Nm.threeL]
          clear hq HQ HL he
          by_cases hw0 : s[k].toNat < 32
          · have hw0' : (s[k].toNat : Int) < 32 := by omega
            clear hw
            go_wp2_with (go_at_call 67; refine (showNumber_any _ n w.heap.size l s[k] _ hown hsz (by omega)).mono ?_; rintro e w3 ⟨v3, rfl, o3, b3⟩)
            go_roundw
            case rel => exact ⟨k + 1, n + 4, _, by omega, by go_num, by omega, HL2, HN, o3, hbel.trans b3⟩
            case measure => simp [intOf]; omega
          · have hw0' : (32 : Int) ≤ (s[k].toNat : Int) := by omega
            have hw1' : (126 : Int) < (s[k].toNat : Int) := by omega
            clear hw
            go_wp2_with (go_at_call 67; refine (showNumber_any _ n w.heap.size l s[k] _ hown hsz (by omega)).mono ?_; rintro e w3 ⟨v3, rfl, o3, b3⟩)
            go_roundw
            case rel => exact ⟨k + 1, n + 4, _, by omega, by go_num, by omega, HL2, HN, o3, hbel.trans b3⟩
            case measure => simp [intOf]; omega
        · rw [qB_own hw he] at hq
          have HN : Hid (l ++ [s[k]] = 34 :: qL (s.data.toList.take (k + 1))) := by
            show _ = _
            rw [hq, HQ.out]; simp
          have HL2 : Hid ((l ++ [s[k]]).length = n + 1) := by show _ = _; simp [HL.out]
          have hw0' : (32 : Int) ≤ (s[k].toNat : Int) := by omega
          have hw1' : (s[k].toNat : Int) ≤ 126 := by omega
          clear hq HQ HL hw he
          go_wp2_with (at_builtin; refine wpList_append_own _ rfl (.tmp 21) (.tmp 23) 44 rfl w.heap.size 5 i0 (.int .u8 0) 1 1 Tryz.underlying44 hi hz0 hz1 hz2 rfl (by decide) _ _ _ rfl (World.ownsRow.alloc hown _) ⟨World.heap wr |>.size, 0, none⟩ 1 1 [.int .u8 (UInt8.toNat s[k] : Int)] rfl rfl (cell_new1 _ _ _) (Nm.one_cell _ rfl) (by unfold maxLen; omega) (by omega) (by simp; omega) ?_)
          intro v' w4 hown' hgrow _
          have R4 := one_step (c := s[k]) hsz hown hbel _ hown' hgrow
          clear hown' hgrow
          obtain ⟨X4, HX4, o4, b4, z4⟩ := R4
          clear hown hbel
          go_wp2
          go_roundw
          case rel => exact ⟨k + 1, n + 1, _, by omega, by go_num, by omega, by show _ = _; rw [HX4.out]; exact HL2.out, by show _ = _; rw [HX4.out]; exact HN.out, o4, b4⟩
          case measure => simp [intOf]; omega
    · have hlt' : (s.size : Int) ≤ (k : Int) := by omega
      have hks : k = s.size := by omega
      have hfin : (⟨(l ++ [34]).toArray⟩ : ByteArray) = showTextS s := by
        rw [HQ.out, hks, List.take_of_length_le (by simp)]; rfl
      have HF := Nm.hide hfin
      clear HQ hfin
      go_wp2_with (at_builtin; refine wpList_append_own _ rfl (.tmp 47) (.tmp 48) 44 rfl w.heap.size 5 i0 (.int .u8 0) 1 1 Tryz.underlying44 hi hz0 hz1 hz2 rfl (by decide) _ _ _ rfl (World.ownsRow.alloc hown _) ⟨World.heap wr |>.size, 0, none⟩ 1 1 [.int .u8 (UInt8.toNat (34 : UInt8) : Int)] rfl rfl (cell_new1 _ _ _) (Nm.one_cell _ rfl) (by unfold maxLen; omega) (by omega) (by simp; omega) ?_)
      intro v' w6 hown' hgrow _
      have R := one_step (c := (34 : UInt8)) hsz hown hbel _ hown' hgrow
      clear hown' hgrow
      obtain ⟨X6, HX6, R⟩ := R
      rw [← HX6.out] at HF
      obtain ⟨g, cp, hv, hcv⟩ := Nm.conv_own (P := Tryz.prog) (src := 44) (dst := 9) Tryz.underlying44 Tryz.underlying5 Tryz.underlying9 R.1 (by omega)
      subst hv
      rw [HF.out] at hcv
      go_wp2
      go_ret
      exact ⟨rfl, R.2.1⟩
end Go.Proofs.YtechmpdfbpehiaaGreatDoor
/- The writers of words that hold no number of their own: a name, a text, a tag, the rest; by their contracts. -/
namespace Go.Proofs.YtechmpdfbpehiaaGreatDoor
open Go.RowKit

/-- A word and how many bytes it told. -/
def wrV (t : ByteArray) (n : Nat) : Value := .tuple #[.string t, .int .i64 (n : Int)]

set_option maxRecDepth 100000 in
set_option maxHeartbeats 800000 in
theorem nameWrite_any (d : ByteArray) (k : Nat) (w : World) (hk : Dt.sz .nm d = some k) (hd : d.size ≤ 1000000) :
    Calls Tryz.prog 91 #[.string d] w fun e w' => e = .returned (wrV (Nm.showS (d.extract 0 k)).1 k) ∧ Below w.heap.size w w' := by
  have hle := Dt.sz_le hk
  have h1 := nameSize_any d w
  rw [hk] at h1
  simp only [szV, Option.getD_some, Option.isSome_some] at h1
  have h2 := implShowName_any (d.extract 0 k) w (by have : (d.extract 0 k).size ≤ 1000000 := by simp; omega
                                                    unfold maxLen; omega)
  have hle' : (k : Int) ≤ (d.size : Int) := by omega
  unfold wrV
  generalize (Nm.showS (d.extract 0 k)).1 = T at *
  generalize (Nm.showS (d.extract 0 k)).2 = C at *
  clear hk
  go_enter Tryz.func91, Tryz.ntmps91
  go_wp2_with (first | (go_at_call 53; refine h1.mono ?_; rintro e w1 ⟨rfl, hw⟩; obtain rfl : w = w1 := hw.symm; clear hw) | (go_at_call 42; refine h2.mono ?_; rintro e w2 ⟨rfl, hb2⟩))
  go_ret2
  exact ⟨rfl, hb2⟩

set_option maxRecDepth 100000 in
set_option maxHeartbeats 800000 in
theorem textWrite_any (d : ByteArray) (k : Nat) (w : World) (h0 : 0 < d.size) (hk : k = 1 + d[0].toNat) (hle : k ≤ d.size) (hd : d.size ≤ 1000000) :
    Calls Tryz.prog 95 #[.string d] w fun e w' => e = .returned (wrV (showTextS (d.extract 1 k)) k) ∧ Below w.heap.size w w' := by
  have h2 := implShowText_any (d.extract 1 k) w (by simp; omega)
  have hk' : (k : Int) = 1 + (d[0].toNat : Int) := by omega
  have hc : (d[0].toNat : Int) < 256 := by have := d[0].toNat_lt; omega
  have hle' : 1 + (d[0].toNat : Int) ≤ (d.size : Int) := by omega
  have h1k : (1 : Int) ≤ 1 + (d[0].toNat : Int) := by omega
  have h0' : (0 : Int) < (d.size : Int) := by omega
  subst hk
  unfold wrV
  generalize showTextS (d.extract 1 (1 + d[0].toNat)) = T at *
  go_enter Tryz.func95, Tryz.ntmps95
  go_wp2_with (go_at_call 96; refine h2.mono ?_; rintro e w2 ⟨rfl, hb2⟩)
  go_ret2
  rw [hk']
  exact ⟨rfl, hb2⟩

set_option maxRecDepth 100000 in
set_option maxHeartbeats 800000 in
theorem restWrite_any (d : ByteArray) (w : World) (hd : d.size ≤ 1000000) :
    Calls Tryz.prog 119 #[.string d] w fun e w' => e = .returned (wrV (showTextS d) d.size) ∧ Below w.heap.size w w' := by
  have h2 := implShowText_any d w (by omega)
  unfold wrV
  generalize showTextS d = T at *
  go_enter Tryz.func119, Tryz.ntmps119
  go_wp2_with (go_at_call 96; refine h2.mono ?_; rintro e w2 ⟨rfl, hb2⟩)
  go_ret2
  exact ⟨rfl, hb2⟩

set_option maxRecDepth 100000 in
set_option maxHeartbeats 800000 in
theorem tagWrite_any (d : ByteArray) (k : Nat) (w : World) (h0 : 0 < d.size) (hk : k = 1 + d[0].toNat) (hle : k ≤ d.size) :
    Calls Tryz.prog 117 #[.string d] w fun e w' => e = .returned (wrV (d.extract 1 k) k) ∧ w' = w := by
  have hk' : (k : Int) = 1 + (d[0].toNat : Int) := by omega
  have hc : (d[0].toNat : Int) < 256 := by have := d[0].toNat_lt; omega
  have hle' : 1 + (d[0].toNat : Int) ≤ (d.size : Int) := by omega
  have h1k : (1 : Int) ≤ 1 + (d[0].toNat : Int) := by omega
  have h0' : (0 : Int) < (d.size : Int) := by omega
  subst hk
  unfold wrV
  go_enter Tryz.func117, Tryz.ntmps117
  go_wp2
  go_ret2
  rw [hk']
  exact ⟨rfl, rfl⟩
end Go.Proofs.YtechmpdfbpehiaaGreatDoor
/- A name's text, as plain mathematics. -/
namespace Go.Proofs.YtechmpdfbpehiaaGreatDoor.Nm
open Go.RowKit

def digB (c : UInt8) : Bool := decide (48 ≤ c.toNat) && decide (c.toNat ≤ 57)

def num3 (c d e : UInt8) : Nat := (c.toNat - 48) * 100 + (d.toNat - 48) * 10 + (e.toNat - 48)

def esc3 (c : UInt8) : List UInt8 → Option (UInt8 × Nat)
  | d :: e :: _ => if digB d = true ∧ digB e = true then (if num3 c d e ≤ 255 then some (UInt8.ofNat (num3 c d e), 3) else none) else none
  | _ => none

/-- What stands behind a backslash: the byte, and how many bytes it takes. -/
def escF : List UInt8 → Option (UInt8 × Nat)
  | [] => none
  | c :: r => if digB c = true then esc3 c r else some (c, 1)

theorem esc_nil : escF [] = none := rfl
theorem esc_byte {c : UInt8} (r : List UInt8) (h : digB c = false) : escF (c :: r) = some (c, 1) := by
  rw [escF, if_neg (by simp [h])]
theorem esc_short {c : UInt8} {r : List UInt8} (h : digB c = true) (hr : r.length < 2) : escF (c :: r) = none := by
  rw [escF, if_pos h]
  match r, hr with
  | [], _ => rfl
  | [_], _ => rfl
theorem esc_three {c d e : UInt8} {r : List UInt8} (h : digB c = true) : escF (c :: d :: e :: r) = if digB d = true ∧ digB e = true then (if num3 c d e ≤ 255 then some (UInt8.ofNat (num3 c d e), 3) else none) else none := by
  rw [escF, if_pos h, esc3]

theorem esc_len {l : List UInt8} {b : UInt8} {n : Nat} (h : escF l = some (b, n)) : 1 ≤ n ∧ n ≤ l.length ∧ n ≤ 3 := by
  cases l with
  | nil => simp [escF] at h
  | cons c r =>
    cases hd : digB c with
    | false =>
      rw [esc_byte r hd] at h
      simp at h
      simp only [List.length_cons]
      omega
    | true =>
      match r with
      | [] => rw [esc_short hd (by simp)] at h; simp at h
      | [_] => rw [esc_short hd (by simp)] at h; simp at h
      | d :: e :: r =>
        rw [esc_three hd] at h
        split at h
        · split at h
          · simp at h
            simp only [List.length_cons]
            omega
          · simp at h
        · simp at h

def fitsB (n : Nat) : Bool := decide (1 ≤ n) && decide (n ≤ 63)

def scanF : Nat → Bool → List UInt8 → List UInt8 → List ByteArray → List ByteArray × Bool × Int
  | 0, _, _, _, _ => ([], false, 0)
  | _ + 1, st, [], now, done =>
    if st = true then (done, true, 0)
    else if fitsB now.length = true then (done ++ [⟨now.toArray⟩], false, 0) else ([], false, 2)
  | f + 1, _, c :: r, now, done =>
    if c = 46 then
      (if fitsB now.length = true then scanF f true r [] (done ++ [⟨now.toArray⟩]) else ([], false, 2))
    else if c = 92 then
      (match escF r with
      | none => ([], false, 4)
      | some (b, n) => scanF f false (r.drop n) (now ++ [b]) done)
    else scanF f false r (now ++ [c]) done

def scanS (s : ByteArray) : List ByteArray × Bool × Int := scanF (s.size + 1) false s.data.toList [] []

def ScAt (s : ByteArray) (st : Bool) (k : Nat) (now : List UInt8) (done : List ByteArray) : Prop :=
  k ≤ s.size ∧ ∃ f, s.size - k < f ∧ scanS s = scanF f st (s.data.toList.drop k) now done

theorem sc_start (s : ByteArray) : ScAt s false 0 [] [] := ⟨Nat.zero_le _, s.size + 1, by omega, by rw [List.drop_zero]; rfl⟩

theorem sc_start' (s : ByteArray) (h : 0 < s.size) : ScAt s true 0 [] [] := by
  refine ⟨Nat.zero_le _, s.size + 1, by omega, ?_⟩
  rw [List.drop_zero, scanS]
  cases hd : s.data.toList with
  | nil =>
    have : s.data.toList.length = 0 := by rw [hd]; rfl
    simp at this
    have h2 : s.size = 0 := by simp [this]
    omega
  | cons c r => simp only [scanF]

theorem drop_at {s : ByteArray} {k : Nat} (h : k < s.size) : s.data.toList.drop k = s[k] :: s.data.toList.drop (k + 1) := by
  have hl : k < s.data.toList.length := by simpa using h
  rw [List.drop_eq_getElem_cons hl]
  rfl

theorem drop_end {s : ByteArray} : s.data.toList.drop s.size = [] := List.drop_of_length_le (by simp)

section
variable {s : ByteArray} {st : Bool} {k : Nat} {now : List UInt8} {done : List ByteArray}

theorem sc_dot (h : ScAt s st k now done) (hk : k < s.size) (hc : s[k] = 46) (hf : fitsB now.length = true) : ScAt s true (k + 1) [] (done ++ [⟨now.toArray⟩]) := by
  obtain ⟨_, f, hf2, e⟩ := h
  obtain ⟨g, rfl⟩ : ∃ g, f = g + 1 := ⟨f - 1, by omega⟩
  refine ⟨by omega, g, by omega, ?_⟩
  rw [e, drop_at hk, scanF, if_pos hc, if_pos hf]

theorem sc_dot_bad (h : ScAt s st k now done) (hk : k < s.size) (hc : s[k] = 46) (hf : fitsB now.length = false) : scanS s = ([], false, 2) := by
  obtain ⟨_, f, hf2, e⟩ := h
  obtain ⟨g, rfl⟩ : ∃ g, f = g + 1 := ⟨f - 1, by omega⟩
  rw [e, drop_at hk, scanF, if_pos hc, if_neg (by simp [hf])]

theorem sc_esc_bad (h : ScAt s st k now done) (hk : k < s.size) (hc : s[k] = 92) (he : escF (s.data.toList.drop (k + 1)) = none) : scanS s = ([], false, 4) := by
  obtain ⟨_, f, hf2, e⟩ := h
  obtain ⟨g, rfl⟩ : ∃ g, f = g + 1 := ⟨f - 1, by omega⟩
  rw [e, drop_at hk, scanF, if_neg (by rw [hc]; decide), if_pos hc, he]

theorem sc_esc (h : ScAt s st k now done) (hk : k < s.size) (hc : s[k] = 92) {b : UInt8} {n : Nat} (he : escF (s.data.toList.drop (k + 1)) = some (b, n)) : ScAt s false (k + 1 + n) (now ++ [b]) done := by
  obtain ⟨_, f, hf2, e⟩ := h
  obtain ⟨g, rfl⟩ : ∃ g, f = g + 1 := ⟨f - 1, by omega⟩
  have hl := esc_len he
  simp only [List.length_drop, Array.length_toList, ByteArray.size_data] at hl
  refine ⟨by omega, g, by omega, ?_⟩
  rw [e, drop_at hk, scanF, if_neg (by rw [hc]; decide), if_pos hc, he]
  simp only [List.drop_drop]

theorem sc_plain (h : ScAt s st k now done) (hk : k < s.size) (hc : s[k] ≠ 46) (hc2 : s[k] ≠ 92) : ScAt s false (k + 1) (now ++ [s[k]]) done := by
  obtain ⟨_, f, hf2, e⟩ := h
  obtain ⟨g, rfl⟩ : ∃ g, f = g + 1 := ⟨f - 1, by omega⟩
  refine ⟨by omega, g, by omega, ?_⟩
  rw [e, drop_at hk, scanF, if_neg hc, if_neg hc2]

theorem sc_abs (h : ScAt s true k now done) (hk : k = s.size) : scanS s = (done, true, 0) := by
  obtain ⟨_, f, hf2, e⟩ := h
  obtain ⟨g, rfl⟩ : ∃ g, f = g + 1 := ⟨f - 1, by omega⟩
  rw [e, hk, drop_end, scanF, if_pos rfl]

theorem sc_rel (h : ScAt s false k now done) (hk : k = s.size) (hf : fitsB now.length = true) : scanS s = (done ++ [⟨now.toArray⟩], false, 0) := by
  obtain ⟨_, f, hf2, e⟩ := h
  obtain ⟨g, rfl⟩ : ∃ g, f = g + 1 := ⟨f - 1, by omega⟩
  rw [e, hk, drop_end, scanF, if_neg (by simp), if_pos hf]

theorem sc_rel_bad (h : ScAt s false k now done) (hk : k = s.size) (hf : fitsB now.length = false) : scanS s = ([], false, 2) := by
  obtain ⟨_, f, hf2, e⟩ := h
  obtain ⟨g, rfl⟩ : ∃ g, f = g + 1 := ⟨f - 1, by omega⟩
  rw [e, hk, drop_end, scanF, if_neg (by simp), if_neg (by simp [hf])]
end

theorem fits_yes {n : Nat} (h1 : 1 ≤ n) (h2 : n ≤ 63) : fitsB n = true := by simp [fitsB, h1, h2]
theorem fits_no {n : Nat} (h : ¬ (1 ≤ n ∧ n ≤ 63)) : fitsB n = false := by
  simp [fitsB]; omega

end Go.Proofs.YtechmpdfbpehiaaGreatDoor.Nm
/- Numbers as text: mathematics. -/
namespace Go.Proofs.YtechmpdfbpehiaaGreatDoor
open Go.RowKit

def decF : Nat → Nat → List UInt8
  | 0, _ => []
  | f + 1, n => if n < 10 then [UInt8.ofNat (48 + n)] else decF f (n / 10) ++ [UInt8.ofNat (48 + n % 10)]
theorem decF_enough : ∀ (f g n : Nat), n < f → n < g → decF f n = decF g n := by
  intro f
  induction f with
  | zero => intro g n h; omega
  | succ f ih =>
    intro g n hf hg
    cases g with
    | zero => omega
    | succ g =>
      rw [decF, decF]
      by_cases h : n < 10
      · rw [if_pos h, if_pos h]
      · rw [if_neg h, if_neg h, ih g (n / 10) (by omega) (by omega)]

/-- A number in decimal digits. -/
def decL (n : Nat) : List UInt8 := decF (n + 1) n
def decS (n : Nat) : ByteArray := ⟨(decL n).toArray⟩
theorem decL_small {n : Nat} (h : n < 10) : decL n = [UInt8.ofNat (48 + n)] := by rw [decL, decF, if_pos h]
theorem decL_step {n : Nat} (h : ¬ n < 10) : decL n = decL (n / 10) ++ [UInt8.ofNat (48 + n % 10)] := by
  rw [decL, decF, if_neg h, decF_enough _ (n / 10 + 1) _ (by omega) (by omega)]; rfl
theorem decF_len : ∀ (f n : Nat), (decF f n).length ≤ f := by
  intro f
  induction f with
  | zero => intro n; simp [decF]
  | succ f ih =>
    intro n
    rw [decF]
    split
    · simp
    · have := ih (n / 10); simp; omega
theorem decL_len20 {n : Nat} (h : n < 10000000000000000000) : (decL n).length ≤ 20 := by
  have key : ∀ (k n : Nat), n < 10 ^ (k + 1) → (decL n).length ≤ k + 1 := by
    intro k
    induction k with
    | zero => intro n hn; rw [decL_small (by simpa using hn)]; simp
    | succ k ih =>
      intro n hn
      by_cases h10 : n < 10
      · rw [decL_small h10]; simp
      · rw [decL_step h10]
        have := ih (n / 10) (by rw [Nat.pow_succ] at hn; omega)
        simp; omega
  exact key 19 n (by have : (10 : Nat) ^ (19 + 1) = 100000000000000000000 := by decide
                     omega)

/-- The number of a text of digits. -/
def numD (l : List UInt8) : Nat := l.foldl (fun n c => n * 10 + (c.toNat - 48)) 0
theorem numD_snoc (l : List UInt8) (c : UInt8) : numD (l ++ [c]) = numD l * 10 + (c.toNat - 48) := by simp [numD]
def numO (s : ByteArray) (most : Nat) : Option Nat :=
  if 1 ≤ s.size ∧ s.size ≤ most ∧ s.data.toList.all Nm.digB = true then some (numD s.data.toList) else none

theorem numO_len {s : ByteArray} {most : Nat} (h : ¬ (1 ≤ s.size ∧ s.size ≤ most)) : numO s most = none := by
  rw [numO, if_neg (fun h' => h ⟨h'.1, h'.2.1⟩)]
theorem numO_bad {s : ByteArray} {most k : Nat} (hk : k < s.size) (h : Nm.digB s[k] = false) : numO s most = none := by
  rw [numO, if_neg]
  rintro ⟨_, _, h3⟩
  have := List.all_eq_true.1 h3 s[k] (List.mem_of_getElem? (Nm.get_data hk))
  rw [h] at this; cases this
theorem numO_good {s : ByteArray} {most : Nat} (h1 : 1 ≤ s.size) (h2 : s.size ≤ most) (h : ∀ j, (hj : j < s.size) → Nm.digB s[j] = true) : numO s most = some (numD s.data.toList) := by
  rw [numO, if_pos]
  refine ⟨h1, h2, ?_⟩
  rw [List.all_eq_true]
  intro c hc
  obtain ⟨i, hi⟩ := List.getElem?_of_mem hc
  have hl : i < s.size := by
    have := (List.getElem?_eq_some_iff.1 hi).1
    simpa using this
  rw [Nm.get_data hl] at hi
  simp at hi
  rw [← hi]
  exact h _ hl
theorem numD_lt : ∀ (l : List UInt8), (∀ c ∈ l, Nm.digB c = true) → numD l < 10 ^ l.length := by
  have key : ∀ (l : List UInt8) (a : Nat), (∀ c ∈ l, Nm.digB c = true) → l.foldl (fun n c => n * 10 + (c.toNat - 48)) a < (a + 1) * 10 ^ l.length := by
    intro l
    induction l with
    | nil => intro a _; simp
    | cons c l ih =>
      intro a h
      have hc : c.toNat ≤ 57 := by
        have := h c (List.mem_cons_self)
        simp [Nm.digB] at this; omega
      rw [List.foldl_cons, List.length_cons, Nat.pow_succ]
      refine Nat.lt_of_lt_of_le (ih _ (fun x hx => h x (List.mem_cons_of_mem _ hx))) ?_
      have h1 : a * 10 + (c.toNat - 48) + 1 ≤ (a + 1) * 10 := by omega
      have h2 := Nat.mul_le_mul_right (10 ^ l.length) h1
      have h3 : (a + 1) * 10 * 10 ^ l.length = (a + 1) * (10 ^ l.length * 10) := by rw [Nat.mul_assoc, Nat.mul_comm 10]
      omega
  intro l h
  have := key l 0 h
  rw [Nat.zero_add, Nat.one_mul] at this
  exact this

/-- A text cut at every byte of one value. -/
def cutL (c : UInt8) : List UInt8 → List UInt8 → List (List UInt8)
  | [], cur => [cur]
  | x :: r, cur => if x = c then cur :: cutL c r [] else cutL c r (cur ++ [x])
end Go.Proofs.YtechmpdfbpehiaaGreatDoor
/- The table that strconv reads; decimal digits, the library's way and mine. -/
namespace Go.Proofs.YtechmpdfbpehiaaGreatDoor
open Go.RowKit

theorem dec_lib : ∀ n : Nat, Lib.decDigits n = decL n := by
  intro n
  induction n using Nat.strongRecOn with
  | _ n ih =>
    rw [Lib.decDigits]
    by_cases h : n < 10
    · rw [dif_pos h, decL_small h]
    · rw [dif_neg h, decL_step h, ih (n / 10) (by omega)]

/-- The table that strconv reads. -/
abbrev PowTab (w : World) : Prop := Lib.TabIs Tryz.prog w "internal/strconv.uint64pow10" .u64 Lib.pow10Tab

theorem PowTab.below {w w' : World} (h : PowTab w) (hb : Below w.heap.size w w') : PowTab w' := (Lib.tabBelow_of_tabIs h) w' hb
end Go.Proofs.YtechmpdfbpehiaaGreatDoor
/- Contracts of the library at this dump. -/
namespace Go.Proofs
open Go.Shelf
def Tryz.laysM246_ren : Go.Shelf.Ren := ⟨fun | 246 => 62 | 283 => 84 | 284 => 85 | 285 => 86 | 286 => 87 | 129 => 126 | 317 => 125 | 318 => 127 | 319 => 128 | 320 => 129 | 337 => 149 | 338 => 150 | n => n, fun | 2 => 2 | 3 => 3 | 9 => 9 | 4 => 4 | 171 => 112 | 0 => 0 | 53 => 113 | 37 => 44 | 5 => 5 | 173 => 116 | 212 => 150 | 51 => 151 | 20 => 20 | 213 => 152 | 46 => 71 | 232 => 186 | 233 => 187 | n => n, fun | 17 => 1 | 18 => 3 | 19 => 4 | n => n⟩
theorem Tryz.laysM246 : Go.Proofs.LaysM.n246 Tryz.prog Tryz.laysM246_ren := {
  mixed := by kernel_rfl
  f129 := Tryz.func126.trans (congrArg some (by kernel_rfl))
  f246 := Tryz.func62.trans (congrArg some (by kernel_rfl))
  f283 := Tryz.func84.trans (congrArg some (by kernel_rfl))
  f284 := Tryz.func85.trans (congrArg some (by kernel_rfl))
  f285 := Tryz.func86.trans (congrArg some (by kernel_rfl))
  f286 := Tryz.func87.trans (congrArg some (by kernel_rfl))
  f317 := Tryz.func125.trans (congrArg some (by kernel_rfl))
  f318 := Tryz.func127.trans (congrArg some (by kernel_rfl))
  f319 := Tryz.func128.trans (congrArg some (by kernel_rfl))
  f320 := Tryz.func129.trans (congrArg some (by kernel_rfl))
  f337 := Tryz.func149.trans (congrArg some (by kernel_rfl))
  f338 := Tryz.func150.trans (congrArg some (by kernel_rfl))
  t0 := Tryz.underlying0
  a0 := Tryz.isAgg0
  z0 := Tryz.sizeOf0
  v0 := Tryz.zeroValue0
  t2 := Tryz.underlying2
  a2 := Tryz.isAgg2
  z2 := Tryz.sizeOf2
  v2 := Tryz.zeroValue2
  t3 := Tryz.underlying3
  a3 := Tryz.isAgg3
  z3 := Tryz.sizeOf3
  v3 := Tryz.zeroValue3
  t4 := Tryz.underlying4
  a4 := Tryz.isAgg4
  z4 := Tryz.sizeOf4
  v4 := Tryz.zeroValue4
  t5 := Tryz.underlying5
  a5 := Tryz.isAgg5
  z5 := Tryz.sizeOf5
  v5 := Tryz.zeroValue5
  t9 := Tryz.underlying9
  a9 := Tryz.isAgg9
  z9 := Tryz.sizeOf9
  v9 := Tryz.zeroValue9
  t20 := Tryz.underlying20
  a20 := Tryz.isAgg20
  z20 := Tryz.sizeOf20
  v20 := Tryz.zeroValue20
  t37 := Tryz.underlying44
  a37 := Tryz.isAgg44
  z37 := Tryz.sizeOf44
  v37 := Tryz.zeroValue44
  t46 := Tryz.underlying71
  a46 := Tryz.isAgg71
  z46 := Tryz.sizeOf71
  v46 := Tryz.zeroValue71
  t51 := Tryz.underlying151
  a51 := Tryz.isAgg151
  z51 := Tryz.sizeOf151
  v51 := Tryz.zeroValue151
  t53 := Tryz.underlying113
  a53 := Tryz.isAgg113
  z53 := Tryz.sizeOf113
  v53 := Tryz.zeroValue113
  t171 := Tryz.underlying112
  a171 := Tryz.isAgg112
  z171 := Tryz.sizeOf112
  v171 := Tryz.zeroValue112
  t173 := Tryz.underlying116
  a173 := Tryz.isAgg116
  z173 := Tryz.sizeOf116
  v173 := Tryz.zeroValue116
  t212 := Tryz.underlying150
  a212 := Tryz.isAgg150
  z212 := Tryz.sizeOf150
  v212 := Tryz.zeroValue150
  t213 := Tryz.underlying152
  a213 := Tryz.isAgg152
  z213 := Tryz.sizeOf152
  t232 := Tryz.underlying186
  a232 := Tryz.isAgg186
  z232 := Tryz.sizeOf186
  v232 := Tryz.zeroValue186
  t233 := Tryz.underlying187
  a233 := Tryz.isAgg187
  z233 := Tryz.sizeOf187
  v233 := Tryz.zeroValue187
  g17 := by kernel_rfl
  g18 := by kernel_rfl
  g19 := by kernel_rfl
  i0 := by kernel_rfl
  i2 := by kernel_rfl
  i3 := by kernel_rfl
  i4 := by kernel_rfl
  i5 := by kernel_rfl
  i9 := by kernel_rfl
  i20 := by kernel_rfl
  i37 := by kernel_rfl
  i46 := by kernel_rfl
  i51 := by kernel_rfl
  i53 := by kernel_rfl
  i171 := by kernel_rfl
  i173 := by kernel_rfl
  i212 := by kernel_rfl
  i232 := by kernel_rfl
  i233 := by kernel_rfl
  m17 := by kernel_rfl
  m18 := by kernel_rfl
  m19 := by kernel_rfl }
open Go.RowKit Go.Sort Go.Lib in
theorem Tryz.internal_strconv_FormatInt_10 (n : Int) (h0 : -9223372036854775808 ≤ n) (h1 : n ≤ 9223372036854775807) (w : World) (htab : Lib.TabIs Tryz.prog w "internal/strconv.uint64pow10" .u64 Lib.pow10Tab) :
    Calls Tryz.prog 62 #[.int .i64 n, .int .i64 10] w fun e w' => e = .returned (.string ⟨(Lib.itoa n).toArray⟩) ∧ ∃ k os, w' = grow (w.drewN k) os := Any.internal_strconv_FormatInt_10 Tryz.laysM246 n h0 h1 w htab
end Go.Proofs
/- strconv.FormatInt at base 10 by its contract. -/
namespace Go.Proofs.YtechmpdfbpehiaaGreatDoor
open Go.RowKit

set_option maxRecDepth 100000 in
set_option maxHeartbeats 400000 in
theorem formatInt10_any (n : Nat) (w : World) (hn : n < 9223372036854775808) (htab : PowTab w) :
    Calls Tryz.prog 45 #[.int .i64 (n : Int), .int .i64 10] w fun e w' => e = .returned (.string (decS n)) ∧ Below w.heap.size w w' := by
  have hc := Tryz.internal_strconv_FormatInt_10 (n : Int) (by omega) (by omega) w htab
  have he : (⟨(Lib.itoa (n : Int)).toArray⟩ : ByteArray) = decS n := by rw [Lib.itoa_nonneg, dec_lib]; rfl
  rw [he] at hc
  clear he
  generalize decS n = D at *
  go_enter Tryz.func45, Tryz.ntmps45
  go_wp2_with (go_at_call 62; refine hc.mono ?_; rintro e w1 ⟨rfl, k, os, hw⟩; have hb : Below w.heap.size w w1 := (by rw [hw]; exact Lib.below_grow _ w (Nat.le_refl _) k os); clear hw)
  go_ret
  exact ⟨rfl, hb⟩
end Go.Proofs.YtechmpdfbpehiaaGreatDoor
