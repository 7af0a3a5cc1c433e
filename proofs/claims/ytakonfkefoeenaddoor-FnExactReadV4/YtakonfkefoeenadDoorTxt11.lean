/- spec.l03Cut by its contract. -/
import Derived.Test.YtakonfkefoeenadDoorOwnS
import Derived.Test.YtakonfkefoeenadDoorCutBM
import Derived.Test.YtakonfkefoeenadDoorLab
namespace Go.Proofs.YtakonfkefoeenadDoor
open Go.RowKit

set_option maxRecDepth 100000 in
set_option maxHeartbeats 1600000 in
theorem l03Cut_any (s : ByteArray) (c : UInt8) (w : World) (hs : s.size ≤ 2000000) :
    Calls Tryd.prog 9 #[.string s, .int .u8 c.toNat] w fun e w' => ∃ v, e = .returned v ∧
      w'.ownsRow w.heap.size 9 1 v (cutB s c).length ((cutB s c).map Value.string) ∧ Below w.heap.size w w' := by
  obtain ⟨i0, hi, hz0, hz1, hz2⟩ := info_parts Tryd.infoStr
  obtain ⟨Z, HZ⟩ : ∃ Z, Hid (Z = cutB s c) := ⟨_, rfl⟩
  rw [← HZ.out]
  have hst := cut_start s c
  go_enter Tryd.func9, Tryd.ntmps9
  go_wp2
  go_loopw [5, 6, 7] (fun v x y wr => ∃ (ls : List ByteArray) (i a : Nat), i ≤ s.size ∧ a ≤ i ∧ ls.length ≤ i ∧ x = .int .i64 a ∧ y = .int .i64 i ∧ Hid (CutAt s c ls i a) ∧ wr.ownsRow w.heap.size 9 1 v ls.length (ls.map Value.string) ∧ Below w.heap.size w wr)
    (fun _ _ y _ => s.size - (intOf y).toNat)
  case atStart => exact ⟨[], 0, 0, Nat.zero_le _, Nat.le_refl _, Nat.le_refl _, rfl, rfl, hst, World.ownsRow_made w #[] 0 (Nat.le_refl _) (by decide) rfl, (Below.refl _ _).alloc (Nat.le_refl _) _⟩
  case round =>
    obtain ⟨ls, i, a, hk, ha, hl, rfl, rfl, HA, hown, hbel⟩ := hrel
    clear hst
    have hsz := hbel.size
    by_cases hlt : i < s.size
    · have hlt' : (i : Int) < (s.size : Int) := by omega
      have ha' : (a : Int) ≤ (i : Int) := by omega
      by_cases e : s[i].toNat = c.toNat
      · have q : ((s[i].toNat : Int) == (c.toNat : Int)) = true := by rw [beq_iff_eq]; omega
        have HN := Nm.hide (cut_here HA.out hlt e)
        clear e HA
        go_wp2_with (at_builtin; refine wpList_append_own _ rfl (.tmp 20) (.tmp 25) 27 rfl w.heap.size 9 i0 (.string ByteArray.empty) 1 16 Tryd.underlying27 hi hz0 hz1 hz2 rfl (by decide) _ _ _ rfl (hown.alloc _) ⟨wr.heap.size, 0, none⟩ 1 1 [.string (s.extract a i)] rfl rfl ?c1 ?c2 ?c3 ?c4 ?c5 ?_)
        case c1 =>
          intro j u hj
          match j, hj with
          | 0, hj => simp at hj; subst hj; simp [Addr.add]
        case c2 => exact Nm.one_cell _ rfl
        case c3 => unfold maxLen; omega
        case c4 => omega
        case c5 => simp; omega
        · intro v' w1 hown' hgrow _
          have R := own_step hsz hown hbel _ hown' hgrow
          clear hown' hgrow hown hbel
          go_wp2
          go_roundw
          case rel => exact ⟨_, i + 1, i + 1, by omega, by omega, by simp; omega, by go_num, by go_num, HN, R.1, R.2⟩
          case measure => simp [intOf]; omega
      · have q : ((s[i].toNat : Int) == (c.toNat : Int)) = false := by rw [beq_eq_false_iff_ne]; omega
        have HN := Nm.hide (cut_on HA.out hlt e)
        clear e HA
        go_wp2
        go_roundw
        case rel => exact ⟨ls, i + 1, a, by omega, by omega, by omega, rfl, by go_num, HN, hown, hbel⟩
        case measure => simp [intOf]; omega
    · have hlt' : (s.size : Int) ≤ (i : Int) := by omega
      have hae : (a : Int) ≤ (s.size : Int) := by omega
      have HN : Hid (Z = ls ++ [s.extract a s.size]) := by show _ = _; rw [HZ.out, cut_end HA.out (by omega)]
      clear HA
      go_wp2_with (at_builtin; refine wpList_append_own _ rfl (.tmp 29) (.tmp 33) 27 rfl w.heap.size 9 i0 (.string ByteArray.empty) 1 16 Tryd.underlying27 hi hz0 hz1 hz2 rfl (by decide) _ _ _ rfl (hown.alloc _) ⟨wr.heap.size, 0, none⟩ 1 1 [.string (s.extract a s.size)] rfl rfl ?c1 ?c2 ?c3 ?c4 ?c5 ?_)
      case c1 =>
        intro j u hj
        match j, hj with
        | 0, hj => simp at hj; subst hj; simp [Addr.add]
      case c2 => exact Nm.one_cell _ rfl
      case c3 => unfold maxLen; omega
      case c4 => omega
      case c5 => simp; omega
      · intro v' w1 hown' hgrow _
        have R := own_step hsz hown hbel _ hown' hgrow
        clear hown' hgrow hown hbel
        go_wp2
        go_ret
        rw [HN.out]
        exact ⟨_, rfl, R.1, R.2⟩
end Go.Proofs.YtakonfkefoeenadDoor
