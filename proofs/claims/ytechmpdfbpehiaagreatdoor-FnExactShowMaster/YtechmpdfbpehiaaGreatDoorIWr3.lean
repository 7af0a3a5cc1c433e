import Derived.Test.YtechmpdfbpehiaaGreatDoorJIShowT
import Derived.Deep.RegionWith
/- The writers of an address, by their contracts. -/
namespace Go.Proofs.YtechmpdfbpehiaaGreatDoor
open Go.RowKit

set_option maxRecDepth 100000 in
set_option maxHeartbeats 2000000 in
theorem addrWriteV4_any (d : ByteArray) (k gs gk : Nat) (w : World) (T : ByteArray) (C : Int) (hs : w.cell? ⟨gs, 0, none⟩ = some (.func (.func 75) #[] #[])) (hg : w.cell? ⟨gk, 0, none⟩ = some (.int .i64 (k : Int))) (hle : k ≤ d.size)
    (hF : ∀ W, Below w.heap.size w W → Calls Tryz.prog 75 #[.string (d.extract 0 k)] W fun e w' => e = .returned (.tuple #[.string T, .int .i64 C]) ∧ Below w.heap.size w w') :
    Calls Tryz.prog 107 #[.string d, .pointer (some ⟨gs, 0, none⟩), .pointer (some ⟨gk, 0, none⟩)] w fun e w' => e = .returned (wrV T k) ∧ Below w.heap.size w w' := by
  have hlt := World.block_lt_of_cell? w _ hg
  have hle' : (k : Int) ≤ (d.size : Int) := by omega
  have hfm : ∀ W, Below w.heap.size w W → Calls Tryz.prog 75 #[.string (d.extract 0 k)] W fun e w' => e = .returned (.tuple #[.string T, .int .i64 C]) ∧ Below w.heap.size w w' ∧ w'.cell? ⟨gk, 0, none⟩ = some (.int .i64 (k : Int)) := by
    intro W hW
    refine (hF W hW).mono ?_
    rintro e w' ⟨rfl, hb⟩
    exact ⟨rfl, hb, (hb.cell hlt).trans hg⟩
  clear hF
  unfold wrV
  go_enter Tryz.func107, Tryz.ntmps107
  go_wp2_with fail
  go_region_with (go_at_call 75; refine (hfm _ (by first | exact (Below.refl _ _).drew | exact Below.refl _ _)).mono ?_; rintro e w2 ⟨rfl, hb2, hc2⟩)
  all_goals (go_wp2_with fail; go_region; all_goals (go_wp2_with fail; go_ret2; exact ⟨rfl, by first | exact hb2.drew | exact hb2⟩))

set_option maxRecDepth 100000 in
set_option maxHeartbeats 2000000 in
theorem addrWriteV6_any (d : ByteArray) (k gs gk : Nat) (w : World) (T : ByteArray) (C : Int) (hs : w.cell? ⟨gs, 0, none⟩ = some (.func (.func 77) #[] #[])) (hg : w.cell? ⟨gk, 0, none⟩ = some (.int .i64 (k : Int))) (hle : k ≤ d.size)
    (hF : ∀ W, Below w.heap.size w W → Calls Tryz.prog 77 #[.string (d.extract 0 k)] W fun e w' => e = .returned (.tuple #[.string T, .int .i64 C]) ∧ Below w.heap.size w w') :
    Calls Tryz.prog 107 #[.string d, .pointer (some ⟨gs, 0, none⟩), .pointer (some ⟨gk, 0, none⟩)] w fun e w' => e = .returned (wrV T k) ∧ Below w.heap.size w w' := by
  have hlt := World.block_lt_of_cell? w _ hg
  have hle' : (k : Int) ≤ (d.size : Int) := by omega
  have hfm : ∀ W, Below w.heap.size w W → Calls Tryz.prog 77 #[.string (d.extract 0 k)] W fun e w' => e = .returned (.tuple #[.string T, .int .i64 C]) ∧ Below w.heap.size w w' ∧ w'.cell? ⟨gk, 0, none⟩ = some (.int .i64 (k : Int)) := by
    intro W hW
    refine (hF W hW).mono ?_
    rintro e w' ⟨rfl, hb⟩
    exact ⟨rfl, hb, (hb.cell hlt).trans hg⟩
  clear hF
  unfold wrV
  go_enter Tryz.func107, Tryz.ntmps107
  go_wp2_with fail
  go_region_with (go_at_call 77; refine (hfm _ (by first | exact (Below.refl _ _).drew | exact Below.refl _ _)).mono ?_; rintro e w2 ⟨rfl, hb2, hc2⟩)
  all_goals (go_wp2_with fail; go_region; all_goals (go_wp2_with fail; go_ret2; exact ⟨rfl, by first | exact hb2.drew | exact hb2⟩))
end Go.Proofs.YtechmpdfbpehiaaGreatDoor
