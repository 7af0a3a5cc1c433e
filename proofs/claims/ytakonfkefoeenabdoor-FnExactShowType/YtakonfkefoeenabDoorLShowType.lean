/- The law of ShowType: its walk. -/
import Derived.Test.YtakonfkefoeenabDoorIShowTy
namespace Go.Proofs.YtakonfkefoeenabDoor
open Go.RowKit
set_option linter.unusedVariables false

theorem powTab_of {W : World} (hL : laidMet Tryd.prog Rows.fnExactShowTypeRow.laid W) : PowTab W :=
  tab_of_laid (g := 1) (t := 37) (e := 30) (n := 20) hL (by exact List.Mem.tail _ (List.Mem.tail _ (List.Mem.head _))) (by kernel_rfl) (by kernel_rfl) Tryd.underlying37 Tryd.underlying30 (by kernel_rfl) (by kernel_rfl)
theorem mnem_of {W : World} (hL : laidMet Tryd.prog Rows.fnExactShowTypeRow.laid W) : MnemAt W :=
  pairs_of_laid (g := 0) (t := 25) (e := 24) (ts := 9) (ti := 2) (n := 19) (zs := mnemTab) hL (by exact List.Mem.tail _ (List.Mem.tail _ (List.Mem.tail _ (List.Mem.head _)))) (by kernel_rfl) (by kernel_rfl) Tryd.underlying25 Tryd.underlying24 rfl rfl rfl rfl Tryd.underlying9 Tryd.underlying2 (by kernel_rfl) (by kernel_rfl) (by kernel_rfl) (by kernel_rfl)

set_option maxRecDepth 100000 in
set_option maxHeartbeats 400000 in
theorem fnExactShowType_walk (a0 : Int) (w0 : (Lit.int .i64 a0).wf = true) (w : World) (hL : laidMet Tryd.prog Rows.fnExactShowTypeRow.laid w) :
    Calls Tryd.prog 3 #[.int .i64 a0] w fun e w' => e = .returned (.bool true) ∧ Below w.heap.size w w' := by
  have hM := mnem_of hL
  have hT := powTab_of hL
  have Hs := specShowType_any a0 w
  have him := fun W (hb : Below w.heap.size w W) => implShowType_any a0 W (hM.below hb) (hT.below hb)
  have hs : ((showTypeS a0).toList == (showTypeS a0).toList) = true := by simp
  have hs2 : ((showTypeS a0).toList != (showTypeS a0).toList) = false := by simp
  generalize showTypeS a0 = r at *
  clear hL hM hT
  go_enter Tryd.func3, Tryd.ntmps3
  go_wp2_with fail
  refine Hs.mono ?_
  rintro e w1 ⟨rfl, hb1⟩
  go_wp2_with fail
  refine (him _ hb1).mono ?_
  rintro e w2 ⟨rfl, hb2⟩
  go_wp2
  go_ret
  exact ⟨rfl, Nm.below_two hb1 hb2⟩
end Go.Proofs.YtakonfkefoeenabDoor
