/- spec.l02Put at width 2 by its contract. -/
import Derived.Test.YtakonfkefoeenafDoorV6R
import Derived.Test.YtakonfkefoeenafDoorFreeB
import Derived.Test.YtakonfkefoeenafDoorOwnS
namespace Go.Proofs.YtakonfkefoeenafDoor
open Go.RowKit

theorem put2_cells {n : Nat} (h : n < 65536) : Nm.bys (put2 n) = [.int .u8 ((n : Int) / 256), .int .u8 ((n : Int) % 256)] := by
  simp [Nm.bys, put2]
  omega

theorem put2_step {W wr w1 : World} {v v' : Value} {B e n : Nat} {l : List Value} {x : Value} (hB : B ≤ wr.heap.size)
    (hown : wr.ownsRow B e 1 v n l) (hbel : Below B W wr) (o : Obj) (hgrow : (wr.alloc o).grownBy w1 v.ownBlock)
    (hown' : w1.ownsRow B e 1 v' (n + 1) (l ++ [x])) :
    w1.ownsRow B e 1 v' (n + 1) (l ++ [x]) ∧ Below B W w1 := by
  refine ⟨hown', ?_⟩
  refine (hbel.alloc hB o).grown hgrow (by simp; omega) ?_
  intro k hk
  exact (hown.lt k hk).1

set_option maxRecDepth 100000 in
set_option maxHeartbeats 800000 in
theorem l02Put2_any (n : Nat) (w : World) (hn : n < 65536) :
    Calls Tryd.prog 12 #[.int .i64 (n : Int), .int .i64 2] w fun e w' => e = .returned (.string ⟨(put2 n).toArray⟩) ∧ Below w.heap.size w w' := by
  obtain ⟨i0, hi, hz0, hz1, hz2⟩ := info_parts Tryd.infoB
  have hcs := put2_cells hn
  have hn' : (n : Int) < 65536 := by omega
  go_enter Tryd.func12, Tryd.ntmps12
  go_wp2
  go_loopw [5, 6] (fun v i wr => ∃ j : Nat, j ≤ 2 ∧ i = .int .i64 (1 - (j : Int)) ∧ wr.ownsRow w.heap.size 5 1 v j ([Value.int .u8 ((n : Int) / 256), .int .u8 ((n : Int) % 256)].take j) ∧ Below w.heap.size w wr)
    (fun _ i _ => (intOf i + 1).toNat)
  case atStart => exact ⟨0, by omega, rfl, World.ownsRow_made w #[] 0 (Nat.le_refl _) (by decide) rfl, (Below.refl _ _).alloc (Nat.le_refl _) _⟩
  case round =>
    obtain ⟨j, hj, rfl, hown, hbel⟩ := hrel
    have hsz := hbel.size
    obtain rfl | rfl | rfl : j = 0 ∨ j = 1 ∨ j = 2 := by omega
    · simp only [List.take_zero, Int.sub_zero, Int.cast_ofNat_Int] at hown ⊢
      go_wp2_with (at_builtin; refine wpList_append_own _ rfl (.tmp 14) (.tmp 21) 29 rfl w.heap.size 5 i0 (.int .u8 0) 1 1 Tryd.underlying29 hi hz0 hz1 hz2 rfl (by decide) _ _ _ rfl (hown.alloc _) ⟨wr.heap.size, 0, none⟩ 1 1 [.int .u8 ((n : Int) / 256)] rfl rfl (cell_new1 _ _ _) (Nm.one_cell _ rfl) (by unfold maxLen; omega) (by omega) (by simp; omega) ?_)
      intro v' w1 hown' hgrow _
      have R := put2_step hsz hown hbel _ hgrow hown'
      clear hown' hgrow hown hbel
      go_wp2
      go_roundw
      case rel => exact ⟨1, by omega, by go_num, R.1, R.2⟩
      case measure => simp [intOf]
    · simp only [List.take_succ_cons, List.take_zero] at hown ⊢
      go_wp2_with (at_builtin; refine wpList_append_own _ rfl (.tmp 14) (.tmp 21) 29 rfl w.heap.size 5 i0 (.int .u8 0) 1 1 Tryd.underlying29 hi hz0 hz1 hz2 rfl (by decide) _ _ _ rfl (hown.alloc _) ⟨wr.heap.size, 0, none⟩ 1 1 [.int .u8 ((n : Int) % 256)] rfl rfl (cell_new1 _ _ _) (Nm.one_cell _ rfl) (by unfold maxLen; omega) (by omega) (by simp; omega) ?_)
      intro v' w1 hown' hgrow _
      have R := put2_step hsz hown hbel _ hgrow hown'
      clear hown' hgrow hown hbel
      go_wp2
      go_roundw
      case rel => exact ⟨2, by omega, by go_num, R.1, R.2⟩
      case measure => simp [intOf]
    · simp only [List.take_succ_cons, List.take_zero] at hown ⊢
      rw [← hcs] at hown
      have HC := Nm.conv_own (P := Tryd.prog) (src := 29) (dst := 9) Tryd.underlying29 Tryd.underlying5 Tryd.underlying9 hown (by omega)
      obtain ⟨g, cap, rfl, hcv⟩ := HC
      clear hown
      go_wp2
      go_ret
      exact ⟨rfl, hbel⟩
end Go.Proofs.YtakonfkefoeenafDoor
