/- The law of ReadType: its walk. -/
import Derived.Test.YtakonfkefoeenadDoorTyS
import Derived.Test.YtakonfkefoeenadDoorTyI
namespace Go.Proofs.YtakonfkefoeenadDoor
open Go.RowKit
set_option linter.unusedVariables false

theorem mnem_of2 {W : World} (hL : laidMet Tryd.prog Rows.fnExactReadTypeRow.laid W) : MnemAt W :=
  pairs_of_laid (g := 0) (t := 36) (e := 35) (ts := 9) (ti := 2) (n := 19) (zs := mnemTab) hL (by exact List.Mem.head _) (by kernel_rfl) (by kernel_rfl) Tryd.underlying36 Tryd.underlying35 rfl rfl rfl rfl Tryd.underlying9 Tryd.underlying2 (by kernel_rfl) (by kernel_rfl) (by kernel_rfl) (by kernel_rfl)

set_option maxRecDepth 100000 in
set_option maxHeartbeats 400000 in
theorem fnExactReadType_walk (a0 : ByteArray) (w0 : a0.size ≤ maxLen) (w : World) (hL : laidMet Tryd.prog Rows.fnExactReadTypeRow.laid w) :
    Calls Tryd.prog 4 #[.string a0] w fun e w' => e = .returned (.bool true) ∧ Below w.heap.size w w' := by
  have hM := mnem_of2 hL
  clear hL
  by_cases hl : 1048576 < a0.size
  · have hl' : (1048576 : Int) < (a0.size : Int) := by omega
    go_enter Tryd.func4, Tryd.ntmps4
    go_wp2
    go_ret
    exact ⟨rfl, Below.refl _ _⟩
  · have hl' : (a0.size : Int) ≤ 1048576 := by omega
    have Hs := specReadType_any a0 w (by omega)
    have him := fun W (hb : Below w.heap.size w W) => implReadType_any a0 W (by omega) (hM.below hb)
    simp only [pairV] at Hs him
    have h1 : ((readTyS a0).1 != (readTyS a0).1) = false := by simp
    have h2 : ((readTyS a0).2 != (readTyS a0).2) = false := by simp
    generalize (readTyS a0).1 = r at *
    generalize (readTyS a0).2 = c at *
    clear hM
    go_enter Tryd.func4, Tryd.ntmps4
    go_wp2_with fail
    refine Hs.mono ?_
    rintro e w1 ⟨rfl, hb1⟩
    go_wp2_with fail
    refine (him _ hb1).mono ?_
    rintro e w2 ⟨rfl, hb2⟩
    go_wp2
    go_ret
    exact ⟨rfl, Nm.below_two hb1 hb2⟩
end Go.Proofs.YtakonfkefoeenadDoor
