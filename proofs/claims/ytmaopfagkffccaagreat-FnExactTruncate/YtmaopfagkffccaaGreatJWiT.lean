import Derived.Test.YtmaopfagkffccaaGreatJMath
import Derived.Test.YtmaopfagkffccaaGreatJParts
import Derived.RegionTactic
/- Numbers within bounds, by the contracts of the two tests. -/
namespace Go.Proofs.YtmaopfagkffccaaGreat
open Go.RowKit
set_option linter.unusedVariables false

set_option maxRecDepth 100000 in
set_option maxHeartbeats 400000 in
theorem l04In_any (n m : Int) (w : World) : Calls Tryz.prog 32 #[.int .i64 n, .int .i64 m] w fun e w' => e = .returned (.bool (decide (0 ≤ n) && decide (n ≤ m))) ∧ w' = w := by
  by_cases h0 : 0 ≤ n
  · by_cases h1 : n ≤ m
    · have e : (decide (0 ≤ n) && decide (n ≤ m)) = true := by simp [h0, h1]
      rw [e]
      clear e
      go_enter Tryz.func32, Tryz.ntmps32
      go_wp2
      go_ret
      exact ⟨rfl, rfl⟩
    · have h1' : m < n := by omega
      have e : (decide (0 ≤ n) && decide (n ≤ m)) = false := by simp [h0, h1]
      rw [e]
      clear e
      go_enter Tryz.func32, Tryz.ntmps32
      go_wp2
      go_ret
      exact ⟨rfl, rfl⟩
  · have h0' : n < 0 := by omega
    have e : (decide (0 ≤ n) && decide (n ≤ m)) = false := by simp [h0]
    rw [e]
    clear e
    go_enter Tryz.func32, Tryz.ntmps32
    go_wp2
    go_ret
    exact ⟨rfl, rfl⟩
end Go.Proofs.YtmaopfagkffccaaGreat
/- spec.l01Split by its contract. -/
namespace Go.Proofs.YtmaopfagkffccaaGreat
open Go.RowKit

set_option maxRecDepth 100000 in
set_option maxHeartbeats 800000 in
theorem l01Split_any (s : ByteArray) (w : World) (hs : s.size ≤ maxLen) :
    Calls Tryz.prog 55 #[.string s] w fun e w' => ∃ v, e = .returned (.tuple #[v, .bool (Nm.split s).isSome]) ∧
      w'.ownsRow w.heap.size 9 1 v ((Nm.split s).getD []).length (((Nm.split s).getD []).map Value.string) ∧ Below w.heap.size w w' := by
  unfold maxLen at hs
  obtain ⟨i0, hi, hz0, hz1, hz2⟩ := info_parts Tryz.infoStr
  by_cases hlong : 255 < s.size
  · have H : Hid (Nm.split s = none) := Nm.split_long s hlong
    have hl : (255 : Int) < (s.size : Int) := by omega
    go_enter Tryz.func55, Tryz.ntmps55
    go_wp2
    go_ret2
    rw [H.out]
    exact ⟨_, rfl, World.ownsRow_nil _ _ _ _, (Below.refl _ _).alloc (Nat.le_refl _) _⟩
  by_cases hshort : s.size = 0
  · have H : Hid (Nm.split s = none) := Nm.at_empty (Nm.at_start s (by omega)) hshort
    have hl : (s.size : Int) < 1 := by omega
    go_enter Tryz.func55, Tryz.ntmps55
    go_wp2
    go_ret2
    rw [H.out]
    exact ⟨_, rfl, World.ownsRow_nil _ _ _ _, (Below.refl _ _).alloc (Nat.le_refl _) _⟩
  · have hl : (s.size : Int) ≤ 255 := by omega
    have hl1 : (1 : Int) ≤ (s.size : Int) := by omega
    have hst := Nm.at_start s (by omega)
    go_enter Tryz.func55, Tryz.ntmps55
    go_wp2
    go_loopw [4, 5] (fun v x wr => ∃ (ls : List ByteArray) (r : ByteArray), x = .string r ∧ Nm.At s ls r ∧ ls.length + r.size ≤ 255 ∧ wr.ownsRow w.heap.size 9 1 v ls.length (ls.map Value.string) ∧ Below w.heap.size w wr)
      (fun _ x _ => match x with | .string r => r.size | _ => 0)
    case atStart => exact ⟨[], s, rfl, hst, by simp; omega, World.ownsRow_made w #[] 0 (Nat.le_refl _) (by decide) rfl, (Below.refl _ _).alloc (Nat.le_refl _) _⟩
    case round =>
      obtain ⟨ls, r, rfl, hat, hb, hown, hbel⟩ := hrel
      clear hst
      by_cases h0 : r.size = 0
      · have HN : Hid (Nm.split s = none) := Nm.at_empty hat h0
        have e2 := Nm.tl_empty h0
        go_wp2
        go_ret2
        rw [HN.out]
        exact ⟨_, rfl, World.ownsRow_nil _ _ _ _, hbel⟩
      · have hp : 0 < r.size := by omega
        have hn : (r[0].toNat : Int) < 256 := by have := r[0].toNat_lt; omega
        have e2 := Nm.tl_not_empty hp
        by_cases h2 : r[0].toNat = 0
        · have e3 : ((r[0].toNat : Int) == 0) = true := by simp [h2]
          by_cases h1 : r.size = 1
          · have HN : Hid (Nm.split s = some ls) := Nm.at_end hat hp h2 h1
            have e4 : ((r.size : Int) != 1) = false := by simp [h1]
            clear h1 h2
            go_wp2
            go_ret2
            rw [HN.out]
            exact ⟨_, rfl, hown, hbel⟩
          · have HN : Hid (Nm.split s = none) := Nm.at_zero hat hp h2 h1
            have e4 : ((r.size : Int) != 1) = true := by rw [bne_iff_ne]; omega
            clear h1 h2
            go_wp2
            go_ret2
            rw [HN.out]
            exact ⟨_, rfl, World.ownsRow_nil _ _ _ _, hbel⟩
        · have e3 : ((r[0].toNat : Int) == 0) = false := by rw [beq_eq_false_iff_ne]; omega
          have e3' : (0 : Int) < (r[0].toNat : Int) := by omega
          by_cases h3 : 63 < r[0].toNat
          · have HN : Hid (Nm.split s = none) := Nm.at_bad hat hp h2 (.inl h3)
            have e4 : (63 : Int) < (r[0].toNat : Int) := by omega
            clear h2 h0 h3
            go_wp2
            go_ret2
            rw [HN.out]
            exact ⟨_, rfl, World.ownsRow_nil _ _ _ _, hbel⟩
          · have e4 : (r[0].toNat : Int) ≤ 63 := by omega
            by_cases h4 : r.size < r[0].toNat + 1
            · have HN : Hid (Nm.split s = none) := Nm.at_bad hat hp h2 (.inr h4)
              have e5 : (r.size : Int) < (r[0].toNat : Int) + 1 := by omega
              clear h2 h0 h3 h4
              go_wp2
              go_ret2
              rw [HN.out]
              exact ⟨_, rfl, World.ownsRow_nil _ _ _ _, hbel⟩
            · have e5 : (r[0].toNat : Int) + 1 ≤ (r.size : Int) := by omega
              have HN : Hid (Nm.At s (ls ++ [r.extract 1 (r[0].toNat + 1)]) (r.extract (r[0].toNat + 1) r.size)) := Nm.at_step hat hp h2 (by omega) (by omega)
              have hsz := hbel.size
              clear h2 h0 h3 h4
              go_wp2_with (at_builtin; refine wpList_append_own _ rfl (.tmp 37) (.tmp 42) 93 rfl w.heap.size 9 i0 (.string ByteArray.empty) 1 16 Tryz.underlying93 hi hz0 hz1 hz2 rfl (by decide) _ _ _ rfl (hown.alloc _) ⟨wr.heap.size, 0, none⟩ 1 1 [.string (r.extract 1 (r[0].toNat + 1))] rfl rfl ?c1 ?c2 ?c3 ?c4 ?c5 ?_)
              case c1 =>
                intro j u hj
                match j, hj with
                | 0, hj => simp at hj; subst hj; simp [Addr.add]
              case c2 => exact Nm.one_cell _ rfl
              case c3 => unfold maxLen; omega
              case c4 => omega
              case c5 => simp; omega
              · intro v' w1 hown' hgrow _
                have R := own_step hsz hown hbel _ hown' hgrow
                clear hown' hgrow hown hbel
                go_wp2
                go_roundw
                case rel => exact ⟨_, _, rfl, HN.out, by simp; omega, R.1, R.2⟩
                case measure => simp; omega
end Go.Proofs.YtmaopfagkffccaaGreat
