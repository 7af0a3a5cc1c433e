import Derived.Test.YtephbegencpllaaGreatDoorJV6S
import Derived.Test.YtephbegencpllaaGreatDoorJShelfL
import Derived.Test.YtephbegencpllaaGreatDoorV6J
import Derived.Test.YtephbegencpllaaGreatDoorJCRow
/- The law of ShowData: its walk. -/
namespace Go.Proofs.YtephbegencpllaaGreatDoor
open Go.RowKit
set_option linter.unusedVariables false

theorem powTab_of {W : World} (hL : laidMet Tryz.prog Rows.fnExactShowDataRow.laid W) : PowTab W :=
  tab_of_laid (g := 1) (t := 165) (e := 141) (n := 20) hL (by exact List.Mem.tail _ (List.Mem.tail _ (List.Mem.head _))) (by kernel_rfl) (by kernel_rfl) Tryz.underlying165 Tryz.underlying141 (by kernel_rfl) (by kernel_rfl)
theorem mnem_of {W : World} (hL : laidMet Tryz.prog Rows.fnExactShowDataRow.laid W) : MnemAt W :=
  pairs_of_laid (g := 0) (t := 138) (e := 137) (ts := 9) (ti := 2) (n := 19) (zs := mnemTab) hL (by exact List.Mem.tail _ (List.Mem.tail _ (List.Mem.tail _ (List.Mem.tail _ (List.Mem.head _))))) (by kernel_rfl) (by kernel_rfl) Tryz.underlying138 Tryz.underlying137 rfl rfl rfl rfl Tryz.underlying9 Tryz.underlying2 (by kernel_rfl) (by kernel_rfl) (by kernel_rfl) (by kernel_rfl)
theorem bruTab_of {W : World} (hL : laidMet Tryz.prog Rows.fnExactShowDataRow.laid W) : BruTab W :=
  tab_of_laid (g := 4) (t := 177) (e := 5) (n := 64) hL (by exact List.Mem.tail _ (List.Mem.head _)) (by kernel_rfl) (by kernel_rfl) Tryz.underlying177 Tryz.underlying5 (by kernel_rfl) (by kernel_rfl)

theorem sdl_of {w : World} (hT : PowTab w) (hM : MnemAt w) (hB : BruTab w) : SDL showV4S showV6S w :=
  ⟨⟨hT, fun s V hb => implShowV4_any s V (hT.below hb), fun s V hb => implShowV6_any s V (hB.below hb)⟩, hM⟩

set_option maxRecDepth 100000 in
set_option maxHeartbeats 800000 in
theorem fnExactShowData_walk (a0 : Int) (a1 : ByteArray) (w0 : (Lit.int .i64 a0).wf = true) (w1 : a1.size ≤ maxLen) (w : World) (hL : laidMet Tryz.prog Rows.fnExactShowDataRow.laid w) :
    Calls Tryz.prog 3 #[.int .i64 a0, .string a1] w fun e w' => e = .returned (.bool true) ∧ Below w.heap.size w w' := by
  have hS := sdl_of (powTab_of hL) (mnem_of hL) (bruTab_of hL)
  clear hL
  by_cases hl : 1048576 < a1.size
  · have hl' : (1048576 : Int) < (a1.size : Int) := by omega
    go_enter Tryz.func3, Tryz.ntmps3
    go_wp2
    go_ret
    exact ⟨rfl, Below.refl _ _⟩
  · have hl' : (a1.size : Int) ≤ 1048576 := by omega
    have Hs := specShowData_any a0 a1 w
    have him := fun W (hb : Below w.heap.size w W) => implShowData_any showV4S showV6S a0 a1 W (by omega) (hS.below hb) (fun hc => by have := data_len (S4 := showV4S) (S6 := showV6S) v4_len v6_len hc; omega)
    have h1 : ((showDS showV4S showV6S a0 a1).1.toList == (showDS showV4S showV6S a0 a1).1.toList) = true := by simp
    have h2 : ((showDS showV4S showV6S a0 a1).2 != (showDS showV4S showV6S a0 a1).2) = false := by simp
    generalize (showDS showV4S showV6S a0 a1).1 = r at *
    generalize (showDS showV4S showV6S a0 a1).2 = c at *
    clear hS
    go_enter Tryz.func3, Tryz.ntmps3
    go_wp2_with fail
    refine Hs.mono ?_
    rintro e w1 ⟨rfl, hb1⟩
    go_wp2_with fail
    refine (him _ hb1).mono ?_
    rintro e w2 ⟨rfl, hb2⟩
    go_wp2
    go_ret
    exact ⟨rfl, Nm.below_two hb1 hb2⟩
end Go.Proofs.YtephbegencpllaaGreatDoor
