import Derived.Test.YtddabafaejahbaaGreatDoorJRi2
import Derived.Test.YtddabafaejahbaaGreatDoorJNameOKs
import Derived.Test.YtddabafaejahbaaGreatDoorWdE
import Derived.Test.YtddabafaejahbaaGreatDoorJWdP
import Derived.Test.YtddabafaejahbaaGreatDoorJV4I
import Derived.Test.YtddabafaejahbaaGreatDoorJIGrps
import Derived.Test.YtddabafaejahbaaGreatDoorJCutM
/- The law of ReadData: its walk. -/
namespace Go.Proofs.YtddabafaejahbaaGreatDoor
open Go.RowKit
set_option linter.unusedVariables false

theorem mnem_ofR {W : World} (hL : laidMet Tryz.prog Rows.fnExactReadDataRow.laid W) : MnemAt W :=
  pairs_of_laid (g := 1) (t := 223) (e := 222) (ts := 9) (ti := 2) (n := 19) (zs := mnemTab) hL (List.mem_of_getElem? (i := 4) rfl) (by kernel_rfl) (by kernel_rfl) Tryz.underlying223 Tryz.underlying222 rfl rfl rfl rfl Tryz.underlying9 Tryz.underlying2 (by kernel_rfl) (by kernel_rfl) (by kernel_rfl) (by kernel_rfl)
theorem reads_of {w : World} (hsh : w.ShapedOpen Tryz.prog) : Reads w :=
  ⟨fun s W hs hb => implReadV4_any s W (shaped_below hsh hb) hs, fun s W hb => implReadV6_any s W (shaped_below hsh hb)⟩

set_option maxRecDepth 100000 in
set_option maxHeartbeats 4000000 in
theorem fnExactReadData_walk (t : Int) (v : Value) (ws : List Wrd) (o : ByteArray) (w : World) (hv : CRow w v ws.length 2 (wdVs ws)) (hx : ∀ r ∈ ws, r.1.size ≤ maxLen) (ho : o.size ≤ maxLen) (hL : laidMet Tryz.prog Rows.fnExactReadDataRow.laid w) (hsh : w.ShapedOpen Tryz.prog) :
    Calls Tryz.prog 3 #[.int .i64 t, v, .string o] w fun e w' => e = .returned (.bool true) ∧ Below w.heap.size w w' := by
  have HM := Nm.hide (mnem_ofR hL)
  have HS := Nm.hide (reads_of hsh)
  clear hL hsh
  unfold maxLen at ho
  have hsz := szWordS_any v ws 1048576 w hv hx (by decide) (by decide)
  have HV := Nm.hide hv
  obtain ⟨_, a, cap, rfl, hcap, hmx, _⟩ := hv
  by_cases hl : 1048576 < o.size
  · have hl' : (1048576 : Int) < (o.size : Int) := by omega
    clear hsz
    go_enter Tryz.func3, Tryz.ntmps3
    go_wp2
    go_ret
    exact ⟨rfl, Below.refl _ _⟩
  · have hl' : (o.size : Int) ≤ 1048576 := by omega
    by_cases hz : (ws.length : Int) + (wsz ws : Int) ≤ 1048576
    · have e1 : szWS ws 1048576 = 1048576 - ws.length - wsz ws := if_pos hz
      have hnn : (0 : Int) ≤ 1048576 - (ws.length : Int) - (wsz ws : Int) := by omega
      rw [e1] at hsz
      have hto := fun W (hW : Below w.heap.size w W) => toWordS_any _ ws W (HV.out.below hW) (by omega)
      have hsp := fun u W (hu : CRow W u ws.length 2 (wdVs ws)) => specReadData_any t u ws o W hu (by omega) (by omega) (by omega)
      have him := fun u W (hu : CRow W u ws.length 2 (wdVs ws)) (hW : Below w.heap.size w W) => implReadData_any t u ws o W hu (by omega) (by omega) (by omega) (HS.out.below hW) (HM.out.below hW)
      have heq := fun v v' B B' W h h' => eqWordS_same v v' ws B B' W h h' (by omega)
      have h1 : ((readDS t ws o).1.toList == (readDS t ws o).1.toList) = true := by simp
      have h2 : ((readDS t ws o).2 != (readDS t ws o).2) = false := by simp
      unfold strV at *
      generalize (readDS t ws o).1 = r at *
      generalize (readDS t ws o).2 = c at *
      generalize (1048576 - (ws.length : Int) - (wsz ws : Int)) = L at *
      clear HM HS HV e1
      go_enter Tryz.func3, Tryz.ntmps3
      go_wp2_with fail
      refine hsz.mono ?_
      rintro e w1 ⟨rfl, hb1⟩
      go_wp2_with fail
      refine (hto _ hb1).mono ?_
      rintro e w2 ⟨u2, rfl, o2, hb2⟩
      have hB2 := Nm.below_two hb1 hb2
      go_wp2_with fail
      refine (hsp u2 _ (CRow.of_owns o2)).mono ?_
      rintro e w3 ⟨rfl, hb3⟩
      have hB3 := Nm.below_two hB2 hb3
      go_wp2_with fail
      refine (hto _ hB3).mono ?_
      rintro e w4 ⟨u4, rfl, o4, hb4⟩
      have hB4 := Nm.below_two hB3 hb4
      go_wp2_with fail
      refine (him u4 _ (CRow.of_owns o4) hB4).mono ?_
      rintro e w5 ⟨rfl, hb5⟩
      have hB5 := Nm.below_two hB4 hb5
      have o5 := own_below o4 hb5
      go_wp2_with fail
      refine (hto _ hB5).mono ?_
      rintro e w6 ⟨u6, rfl, o6, hb6⟩
      have hB6 := Nm.below_two hB5 hb6
      have o7 := own_below o5 hb6
      go_wp2_with fail
      refine (heq _ _ _ _ _ o7 o6).mono ?_
      rintro e w7 ⟨rfl, hb7⟩
      go_wp2
      go_ret
      exact ⟨rfl, Nm.below_two hB6 hb7⟩
    · have e1 : szWS ws 1048576 = -1 := if_neg hz
      rw [e1] at hsz
      clear HM HS HV e1
      go_enter Tryz.func3, Tryz.ntmps3
      go_wp2_with (go_at_call 5; refine hsz.mono ?_; rintro e w1 ⟨rfl, hb1⟩)
      go_ret
      exact ⟨rfl, hb1⟩
end Go.Proofs.YtddabafaejahbaaGreatDoor
