/- The law of EdnsRecord: its walk. -/
import Derived.Test.YtinbaopcapnbgaaSEr
import Derived.Test.YtinbaopcapnbgaaIEr
import Derived.Test.YtinbaopcapnbgaaOpE
import Derived.Test.YtinbaopcapnbgaaOpP
import Derived.Test.YtinbaopcapnbgaaEqV
namespace Go.Proofs.Ytinbaopcapnbgaa
open Go.RowKit
set_option linter.unusedVariables false

set_option maxRecDepth 100000 in
set_option maxHeartbeats 3200000 in
theorem fnExactEdnsRecord_walk (size code flags : Int) (v : Value) (xs : List (Int × ByteArray)) (w : World) (h : CRow w v xs.length 2 (opVs xs)) (hx : ∀ r ∈ xs, r.2.size ≤ maxLen) :
    Calls Try.prog 3 #[.int .i64 size, .int .i64 code, .int .i64 flags, v] w fun e w' => e = .returned (.bool true) ∧ Below w.heap.size w w' := by
  have hsz := szOptionS_any v xs 1048576 w h hx (by decide) (by decide)
  obtain ⟨av, cv, rfl⟩ : ∃ a c, v = .slice a xs.length c := by obtain ⟨_, a, c, e, _⟩ := h; exact ⟨a, c, e⟩
  by_cases hfit : ¬ (xs.length : Int) + (osum xs : Int) ≤ 1048576
  · have e : szOS xs 1048576 = -1 := if_neg hfit
    rw [e] at hsz
    clear h hx e hfit
    go_enter Try.func3, Try.ntmps3
    go_wp2_with fail
    refine hsz.mono ?_
    rintro e w1 ⟨rfl, b1⟩
    clear hsz
    go_wp2
    go_ret
    exact ⟨rfl, b1⟩
  have hfit : (xs.length : Int) + (osum xs : Int) ≤ 1048576 := by omega
  obtain ⟨L, hLs⟩ : ∃ L : Nat, szOS xs 1048576 = (L : Int) := ⟨1048576 - xs.length - osum xs, by rw [szOS, if_pos hfit]; omega⟩
  rw [hLs] at hsz
  have hks : xs.length ≤ 1048576 := by omega
  have hL0 : ¬ (L : Int) < 0 := by omega
  have hto := fun V W (h : CRow W V xs.length 2 (opVs xs)) => toOptionS_any V xs W h hks
  have heq := fun V U W (h : CRow W V xs.length 2 (opVs xs)) (h' : CRow W U xs.length 2 (opVs xs)) => eqOptionS_any V U xs W h h'
  have hsp := fun V W (h : CRow W V xs.length 2 (opVs xs)) => specEdnsRecord_any size code flags V xs W h (by omega)
  have him := fun V W (h : CRow W V xs.length 2 (opVs xs)) => implEdnsRecord_any size code flags V xs W h (by omega)
  obtain ⟨own, ty, cl, tt, da, cd, hP⟩ : ∃ (own : ByteArray) (ty cl tt : Int) (da : ByteArray) (cd : Int), erP size code flags xs = .returned (.tuple #[.agg #[.string own, .int .i64 ty, .int .i64 cl, .int .i64 tt, .string da], .int .i64 cd]) := by
    cases hb : erB size code flags xs with
    | true => exact ⟨_, _, _, _, _, _, erP_ok hb⟩
    | false => exact ⟨_, _, _, _, _, _, erP_bad hb⟩
  rw [hP] at hsp him
  have her := fun W => eqRV_any own da ty cl tt W
  have hcd : (cd != cd) = false := by simp
  clear hP hfit hLs hx
  go_enter Try.func3, Try.ntmps3
  go_wp2_with fail
  refine hsz.mono ?_
  rintro e w1 ⟨rfl, b1⟩
  clear hsz
  go_wp2_with fail
  refine (hto _ _ (h.below b1)).mono ?_
  rintro e w2 ⟨v2, rfl, o2, b2⟩
  have hB2 := Nm.below_two b1 b2
  go_wp2_with fail
  refine (hsp _ _ (CRow.of_owns o2)).mono ?_
  rintro e w3 ⟨rfl, b3⟩
  have hB3 := Nm.below_two hB2 b3
  have k3 := blk_new w3 #[.string own, .int .i64 ty, .int .i64 cl, .int .i64 tt, .string da] 25
  have hBa := (Below.refl w3.heap.size w3).alloc (Nat.le_refl _) (.cells #[.string own, .int .i64 ty, .int .i64 cl, .int .i64 tt, .string da] 25)
  have hB3a := Nm.below_two hB3 hBa
  clear hsp b1 b2 b3 hB2 o2 hB3 hBa
  go_wp2_with fail
  refine (hto _ _ (h.below hB3a)).mono ?_
  rintro e w4 ⟨v4, rfl, o4, b4⟩
  have hB4 := Nm.below_two hB3a b4
  have k4 := blk_below k3 b4
  clear hB3a b4 k3
  go_wp2_with fail
  refine (him _ _ (CRow.of_owns o4)).mono ?_
  rintro e w5 ⟨rfl, b5⟩
  have hBa := (Below.refl w5.heap.size w5).alloc (Nat.le_refl _) (.cells #[.string own, .int .i64 ty, .int .i64 cl, .int .i64 tt, .string da] 25)
  have bb := Nm.below_two b5 hBa
  have hB5 := Nm.below_two hB4 bb
  have o5 := own_below o4 bb
  have r10 := fun i => blk_cell (blk_below k4 bb) i
  clear him b5 hBa bb hB4 o4
  go_wp2_with fail
  refine (her _).mono ?_
  rintro e w6 ⟨rfl, b6⟩
  have hB6 := Nm.below_two hB5 b6
  have o6 := own_below o5 b6
  clear her r10 b6 hB5 o5 k4
  go_wp2_with fail
  refine (hto _ _ (h.below hB6)).mono ?_
  rintro e w7 ⟨v7, rfl, o7, b7⟩
  have hB7 := Nm.below_two hB6 b7
  go_wp2_with fail
  refine (heq _ _ _ (CRow.of_owns (own_below o6 b7)) (CRow.of_owns o7)).mono ?_
  rintro e w8 ⟨rfl, b8⟩
  have hB8 := Nm.below_two hB7 b8
  clear heq hto o6 o7 b7 b8 hB6 hB7
  go_wp2
  go_ret
  exact ⟨rfl, hB8⟩
end Go.Proofs.Ytinbaopcapnbgaa
