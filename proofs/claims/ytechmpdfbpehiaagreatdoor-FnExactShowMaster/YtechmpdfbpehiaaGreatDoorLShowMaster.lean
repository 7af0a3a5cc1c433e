import Derived.Test.YtechmpdfbpehiaaGreatDoorMsS
import Derived.Test.YtechmpdfbpehiaaGreatDoorMsJ
import Derived.Test.YtechmpdfbpehiaaGreatDoorEqV
import Derived.Test.YtechmpdfbpehiaaGreatDoorRrS
import Derived.Test.YtechmpdfbpehiaaGreatDoorJRrO
import Derived.Test.YtechmpdfbpehiaaGreatDoorJData1
import Derived.Test.YtechmpdfbpehiaaGreatDoorV6J
import Derived.Test.YtechmpdfbpehiaaGreatDoorJCRow
/- The law of ShowMaster: its walk. -/
namespace Go.Proofs.YtechmpdfbpehiaaGreatDoor
open Go.RowKit
set_option linter.unusedVariables false

theorem powTab_of {W : World} (hL : laidMet Tryz.prog Rows.fnExactShowMasterRow.laid W) : PowTab W :=
  tab_of_laid (g := 1) (t := 150) (e := 113) (n := 20) hL (by exact List.Mem.tail _ (List.Mem.tail _ (List.Mem.head _))) (by kernel_rfl) (by kernel_rfl) Tryz.underlying150 Tryz.underlying113 (by kernel_rfl) (by kernel_rfl)
theorem mnem_of {W : World} (hL : laidMet Tryz.prog Rows.fnExactShowMasterRow.laid W) : MnemAt W :=
  pairs_of_laid (g := 0) (t := 92) (e := 91) (ts := 9) (ti := 2) (n := 19) (zs := mnemTab) hL (by exact List.Mem.tail _ (List.Mem.tail _ (List.Mem.tail _ (List.Mem.tail _ (List.Mem.head _))))) (by kernel_rfl) (by kernel_rfl) Tryz.underlying92 Tryz.underlying91 rfl rfl rfl rfl Tryz.underlying9 Tryz.underlying2 (by kernel_rfl) (by kernel_rfl) (by kernel_rfl) (by kernel_rfl)
theorem bruTab_of {W : World} (hL : laidMet Tryz.prog Rows.fnExactShowMasterRow.laid W) : BruTab W :=
  tab_of_laid (g := 4) (t := 187) (e := 5) (n := 64) hL (by exact List.Mem.tail _ (List.Mem.head _)) (by kernel_rfl) (by kernel_rfl) Tryz.underlying187 Tryz.underlying5 (by kernel_rfl) (by kernel_rfl)

theorem sdl_of {w : World} (hT : PowTab w) (hM : MnemAt w) (hB : BruTab w) : SDL showV4S showV6S w :=
  ⟨⟨hT, fun s V hb => implShowV4_any s V (hT.below hb), fun s V hb => implShowV6_any s V (hB.below hb)⟩, hM⟩

set_option maxRecDepth 100000 in
set_option maxHeartbeats 1600000 in
theorem fnExactShowMaster_walk (v : Value) (xs : List Rr) (w : World) (h : CRow w v xs.length 5 (rvVs xs)) (hx : ∀ r ∈ xs, r.own.size ≤ maxLen ∧ r.da.size ≤ maxLen) (hL : laidMet Tryz.prog Rows.fnExactShowMasterRow.laid w) :
    Calls Tryz.prog 3 #[v] w fun e w' => e = .returned (.bool true) ∧ Below w.heap.size w w' := by
  have hS := sdl_of (powTab_of hL) (mnem_of hL) (bruTab_of hL)
  clear hL
  have hsz := szRRS_any v xs 1048576 w h hx (by decide) (by decide)
  by_cases hb : (xs.length : Int) + (rsum xs : Int) ≤ 1048576
  · have e1 : szRS xs 1048576 = 1048576 - xs.length - rsum xs := if_pos hb
    rw [e1] at hsz
    have hlen : xs.length ≤ 1048576 := by omega
    have hxs : ∀ r ∈ xs, r.own.size ≤ 1048576 ∧ r.da.size ≤ 1048576 := by
      intro r hr
      have := rsum_mem xs r hr
      omega
    have hto := fun W hq => toRRS_any v xs W hq hlen
    have hs : ((masterS showV4S showV6S xs).1.toList == (masterS showV4S showV6S xs).1.toList) = true := by simp
    have hs2 : ((masterS showV4S showV6S xs).1.toList != (masterS showV4S showV6S xs).1.toList) = false := by simp
    have hi : ((masterS showV4S showV6S xs).2 != (masterS showV4S showV6S xs).2) = false := by simp
    have hsp := fun V W hV => specShowMaster_any V xs W hV hxs
    have him := fun V W hV (hW : Below w.heap.size w W) => implShowMaster_any v4_len v6_len V xs W (hS.below hW) hV hxs
    generalize (masterS showV4S showV6S xs).1 = r at *
    generalize (masterS showV4S showV6S xs).2 = c at *
    have hnn : 0 ≤ 1048576 - (xs.length : Int) - (rsum xs : Int) := by omega
    have heq := fun V U W => eqRVS_any V U xs W
    generalize (1048576 - (xs.length : Int) - (rsum xs : Int)) = L at *
    clear e1 hS hxs hx hb
    go_enter Tryz.func3, Tryz.ntmps3
    go_wp2_with fail
    refine hsz.mono ?_
    rintro e w1 ⟨rfl, b1⟩
    go_wp2_with fail
    refine (hto _ (h.below b1)).mono ?_
    rintro e w2 ⟨u2, rfl, hown2, hbel2⟩
    have b2 := Nm.below_two b1 hbel2
    go_wp2_with fail
    refine (hsp u2 _ (CRow.of_owns hown2)).mono ?_
    rintro e w3 ⟨rfl, hbel3⟩
    have b3 := Nm.below_two b2 hbel3
    go_wp2_with fail
    refine (hto _ (h.below b3)).mono ?_
    rintro e w4 ⟨u4, rfl, hown4, hbel4⟩
    have b4 := Nm.below_two b3 hbel4
    go_wp2_with fail
    refine (him u4 _ (CRow.of_owns hown4) b4).mono ?_
    rintro e w5 ⟨rfl, hbel5⟩
    have b5 := Nm.below_two b4 hbel5
    have r5 := (CRow.of_owns hown4).below hbel5
    go_wp2_with fail
    refine (hto _ (h.below b5)).mono ?_
    rintro e w6 ⟨u6, rfl, hown6, hbel6⟩
    have b6 := Nm.below_two b5 hbel6
    go_wp2_with fail
    refine (heq u4 u6 _ (r5.below hbel6) (CRow.of_owns hown6)).mono ?_
    rintro e w7 ⟨rfl, hbel7⟩
    have b7 := Nm.below_two b6 hbel7
    go_wp2
    go_ret
    exact ⟨rfl, b7⟩
  · have e1 : szRS xs 1048576 = -1 := if_neg hb
    rw [e1] at hsz
    clear hx hb e1 hS
    go_enter Tryz.func3, Tryz.ntmps3
    go_wp2_with fail
    refine hsz.mono ?_
    rintro e w1 ⟨rfl, b1⟩
    go_wp2
    go_ret
    exact ⟨rfl, b1⟩
end Go.Proofs.YtechmpdfbpehiaaGreatDoor
