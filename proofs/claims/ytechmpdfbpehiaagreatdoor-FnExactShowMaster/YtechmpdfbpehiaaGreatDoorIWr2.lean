import Derived.Test.YtechmpdfbpehiaaGreatDoorJIShowT
import Derived.Test.YtechmpdfbpehiaaGreatDoorJNumM
import Derived.Deep.RegionWith
/- The writers of a number and of an address, by their contracts. -/
namespace Go.Proofs.YtechmpdfbpehiaaGreatDoor
open Go.RowKit

set_option maxRecDepth 100000 in
set_option maxHeartbeats 2000000 in
theorem numWrite_any (d : ByteArray) (k g : Nat) (w : World) (hT : PowTab w) (hg : w.cell? ⟨g, 0, none⟩ = some (.int .i64 (k : Int))) (hk : k ≤ 6) (hle : k ≤ d.size) :
    Calls Tryz.prog 99 #[.string d, .pointer (some ⟨g, 0, none⟩)] w fun e w' => e = .returned (wrV (decS (numL (d.extract 0 k).data.toList)) k) ∧ Below w.heap.size w w' := by
  have hr := fun W => readBig_any (d.extract 0 k) W (by simp; omega)
  have hsm := numL_small (l := (d.extract 0 k).data.toList) (by simp; omega)
  have hlt := World.block_lt_of_cell? w _ hg
  have hle' : (k : Int) ≤ (d.size : Int) := by omega
  have hfm : ∀ W, Below w.heap.size w W → Calls Tryz.prog 45 #[.int .i64 ((numL (d.extract 0 k).data.toList : Nat) : Int), .int .i64 10] W fun e w' => e = .returned (.string (decS (numL (d.extract 0 k).data.toList))) ∧ Below w.heap.size w w' ∧ w'.cell? ⟨g, 0, none⟩ = some (.int .i64 (k : Int)) := by
    intro W hW
    refine (formatInt10_any _ W (by omega) (hT.below hW)).mono ?_
    rintro e w' ⟨rfl, hb⟩
    have hb' := Nm.below_two hW hb
    exact ⟨rfl, hb', (hb'.cell hlt).trans hg⟩
  unfold wrV
  generalize decS (numL (d.extract 0 k).data.toList) = T at *
  generalize numL (d.extract 0 k).data.toList = N at *
  clear hT hsm
  go_enter Tryz.func99, Tryz.ntmps99
  go_wp2_with fail
  go_region_with (first | (go_at_call 100; refine (hr _).mono ?_; rintro e w1 ⟨rfl, hw⟩; subst hw) | (go_at_call 45; refine (hfm _ (by first | exact (Below.refl _ _).drew | exact Below.refl _ _)).mono ?_; rintro e w2 ⟨rfl, hb2, hc2⟩))
  all_goals (go_wp2_with fail; go_ret2; exact ⟨rfl, hb2⟩)
end Go.Proofs.YtechmpdfbpehiaaGreatDoor
