import Derived.Test.YtcamccoaoiobdaaGreatBzT
import Derived.Test.YtcamccoaoiobdaaGreatJMsP
import Derived.Test.YtcamccoaoiobdaaGreatCut
import Derived.Test.YtcamccoaoiobdaaGreatJSCmp
/- (*builder).checkSize by its contract. -/
namespace Go.Proofs.YtcamccoaoiobdaaGreat
open Go.RowKit
set_option linter.unusedVariables false

def rsV (c i : Int) : Ending := .returned (.tuple #[.int .i64 c, .int .i64 i])
theorem outs_set {W : World} {b i : Nat} {v : Value} : Outs [b] W (W.setCell ⟨b, i, none⟩ v) := ⟨rfl, rfl, rfl, by simp, fun k _ hk => heap_setCell_other W ⟨b, i, none⟩ k _ (by simpa using hk)⟩

set_option maxRecDepth 100000 in
set_option maxHeartbeats 1600000 in
theorem checkSize_any (bb : Nat) (la : Option Addr) (ln lc : Nat) (apex : ByteArray) (w : World) (hk : Blk w bb #[.slice la ln lc, .string apex, .slice none 0 0, .slice none 0 0, .pointer none, .slice none 0 0] 63) (ha : apex.size ≤ maxLen) :
    Calls Tryz.prog 42 #[.pointer (some ⟨bb, 0, none⟩)] w fun e w' =>
      (Nm.split apex = none ∧ e = rsV 32 (-1) ∧ Below w.heap.size w w') ∨ (Nm.split apex ≠ none ∧ 500 < ln ∧ e = rsV 12 (-1) ∧ Below w.heap.size w w') ∨
      (∃ xs aa ac th, Nm.split apex = some xs ∧ ln ≤ 500 ∧ e = rsV 0 0 ∧ Outs [bb] w w' ∧ Blk w' bb #[.slice la ln lc, .string apex, .slice none 0 0, .slice aa xs.length ac, ptr th, .slice none 0 0] 63 ∧ Blk w' th #[cmpLv, .slice none 0 0] 125 ∧ w'.ownsRow w.heap.size 9 1 (.slice aa xs.length ac) xs.length (xs.map Value.string) ∧ w.heap.size ≤ th) := by
  have rk := fun i => blk_cell hk i
  have hs := splitName_any apex w ha
  have hbl := blk_lt hk
  cases hsp : Nm.split apex with
  | none =>
    rw [hsp] at hs
    simp only [Option.isSome_none, Option.getD_none] at hs
    clear hsp
    go_enter Tryz.func42, Tryz.ntmps42
    go_wp2_with fail
    refine hs.mono ?_
    rintro e w1 ⟨v, rfl, ho, b1⟩
    clear hs
    go_wp2
    go_ret2
    exact .inl ⟨trivial, rfl, b1⟩
  | some xs =>
    rw [hsp] at hs
    simp only [Option.isSome_some, Option.getD_some] at hs
    by_cases hln : 500 < ln
    · have i1 : (500 : Int) < (ln : Int) := by omega
      have HL := Nm.hide hln
      clear hsp hln
      go_enter Tryz.func42, Tryz.ntmps42
      go_wp2_with fail
      refine hs.mono ?_
      rintro e w1 ⟨v, rfl, ho, b1⟩
      have rk1 := fun i => blk_cell (blk_below hk b1) i
      clear hs rk
      go_wp2
      go_ret2
      exact .inr (.inl ⟨by simp, HL.out, rfl, b1⟩)
    · have i1 : ¬ (500 : Int) < (ln : Int) := by omega
      have HL := Nm.hide hln
      clear hsp hln
      go_enter Tryz.func42, Tryz.ntmps42
      go_wp2_with fail
      refine hs.mono ?_
      rintro e w1 ⟨v, rfl, ho, b1⟩
      obtain ⟨aa, ac, rfl⟩ := own_sl ho
      have k1 := blk_below hk b1
      have rk1 := fun i => blk_cell k1 i
      have b2 := (Below.refl w1.heap.size w1).alloc (Nat.le_refl _) (.cells #[cmpLv, .slice none 0 0] 125)
      have kt := blk_new w1 #[cmpLv, .slice none 0 0] 125
      have k2 := blk_below k1 b2
      have rk2 := fun i => blk_cell k2 i
      have fk2 := fun i => blk_frozen k2 i
      have o2 := own_below ho b2
      have hn := newTableL_any (.func 66) w1
      unfold ptr at hn
      unfold cmpLv at kt rk2 fk2
      clear hs rk
      go_wp2_with (go_at_call 65; refine hn.mono ?_; rintro e w2 ⟨rfl, rfl⟩)
      go_ret2
      have k3 := blk_set (blk_set k2 3 (.slice aa xs.length ac)) 4 (.pointer (some ⟨w1.heap.size, 0, none⟩))
      simp only [List.setIfInBounds_toArray, List.set_cons_zero, List.set_cons_succ] at k3
      have hne : bb ≠ w1.heap.size := by have := b1.size; omega
      refine .inr (.inr ⟨xs, aa, ac, w1.heap.size, rfl, by have := HL.out; omega, rfl, ?_, k3, ?_, ?_, b1.size⟩)
      · have h9 := (Outs.below (fp := [bb]) (Nm.below_two b1 b2)).trans (outs_set (b := bb) (i := 3) (v := .slice aa xs.length ac)) (fun k hk => .inl hk)
        exact h9.trans (outs_set (b := bb) (i := 4) (v := .pointer (some ⟨w1.heap.size, 0, none⟩))) (fun k hk => .inl hk)
      · exact blk_grown (blk_grown kt (grown_setC _ bb 3 _) (fun e => by cases e; exact hne rfl)) (grown_setC _ bb 4 _) (fun e => by cases e; exact hne rfl)
      · have o3 := own_far (i := 3) (y := .slice aa xs.length ac) o2 (own_nb o2 k2 (by decide))
        exact own_far o3 (own_nb o3 (blk_set k2 3 (.slice aa xs.length ac)) (by decide))
end Go.Proofs.YtcamccoaoiobdaaGreat
/- impl.CheckData by its contract. -/
namespace Go.Proofs.YtcamccoaoiobdaaGreat
open Go.RowKit

set_option maxRecDepth 100000 in
set_option maxHeartbeats 400000 in
theorem implCheckData_any (t : Int) (d : ByteArray) (w : World) (hd : d.size ≤ 2000000) :
    Calls Tryz.prog 92 #[.int .i64 t, .string d] w fun e w' => e = .returned (.int .i64 (cutCode t d)) ∧ Below w.heap.size w w' := by
  have hcall := cutData_any t d w hd
  go_enter Tryz.func92, Tryz.ntmps92
  go_wp2_with (go_at_call 113; refine hcall.mono ?_; rintro e w2 ⟨v, rfl, _, _, hbel⟩)
  go_ret
  exact ⟨rfl, hbel⟩
end Go.Proofs.YtcamccoaoiobdaaGreat
/- (*builder).checkRecord by its contract. -/
namespace Go.Proofs.YtcamccoaoiobdaaGreat
open Go.RowKit
set_option linter.unusedVariables false

/-- What is wrong with a record whose owner is a name of labels xs, beside the apex's ys. -/
def recC (r : Rr) (xs ys : List ByteArray) : Int :=
  if r.cl ≠ 1 then 19 else if (decide (0 ≤ r.tt) && decide (r.tt ≤ 2147483647)) = false then 18
  else if (decide (0 ≤ r.ty) && decide (r.ty ≤ 65535)) = false then 6 else if metaB r.ty = true then 6 else if cutCode r.ty r.da ≠ 0 then 7 else if underB xs ys = false then 22 else 0

set_option maxRecDepth 100000 in
set_option maxHeartbeats 1600000 in
theorem checkRecord_any (r : Rr) (bb : Nat) (v u : Value) (xs ys : List ByteArray) (w : World) (hd : r.da.size ≤ 2000000) (hv : Nm.SRow w v xs) (hu : Nm.SRow w u ys) (hk : w.cell? ⟨bb, 3, none⟩ = some u) (hxs : ∀ x ∈ xs, x.size ≤ 1000000000) (hlx : xs.length ≤ 1000000000) (hly : ys.length ≤ 1000000000) :
    Calls Tryz.prog 67 #[.pointer (some ⟨bb, 0, none⟩), .agg #[.string r.own, .int .i64 r.ty, .int .i64 r.cl, .int .i64 r.tt, .string r.da], v] w fun e w' => e = .returned (.int .i64 (recC r xs ys)) ∧ Below w.heap.size w w' := by
  have hB0 := (Below.refl w.heap.size w).alloc (Nat.le_refl _) (.cells #[.string r.own, .int .i64 r.ty, .int .i64 r.cl, .int .i64 r.tt, .string r.da] 42)
  have hR0 := RB.new w r 42
  have h1 := fun W => within_any r.tt 2147483647 W
  have h2 := fun W => within_any r.ty 65535 W
  have h3 := fun W => isMeta_any r.ty W
  have h4 := fun W => implCheckData_any r.ty r.da W hd
  have h5 := fun W (hW : Below w.heap.size w W) => under_any v u xs ys W (hv.below hW) (hu.below hW) hxs hlx hly
  have hkk := fun W (hW : Below w.heap.size w W) => (hW.cell (p := ⟨bb, 3, none⟩) (World.block_lt_of_cell? w _ hk)).trans hk
  have ev := hv
  obtain ⟨va, vc, rfl, _⟩ := ev
  have eu := hu
  obtain ⟨ua, uc, rfl, _⟩ := eu
  obtain ⟨Q, hQ⟩ : ∃ Q, Q = recC r xs ys := ⟨_, rfl⟩
  rw [← hQ]
  unfold recC at hQ
  generalize cutCode r.ty r.da = CC at *
  generalize underB xs ys = UB at *
  generalize (decide (0 ≤ r.tt) && decide (r.tt ≤ 2147483647)) = TT at *
  generalize (decide (0 ≤ r.ty) && decide (r.ty ≤ 65535)) = TY at *
  have hmb : ∀ b, metaB r.ty = b → True := fun _ _ => trivial
  generalize metaB r.ty = MB at *
  clear hmb hv hu hk
  obtain ⟨o, ty, cl, tt, da⟩ := r
  simp only [RB] at *
  obtain ⟨c0, c1, c2, c3, c4⟩ := hR0
  by_cases hcl : cl = 1
  · rw [if_neg (by simpa using hcl)] at hQ
    subst hcl
    have ncl : ((1 : Int) != 1) = false := rfl
    cases TT with
    | false =>
      simp only [if_true] at hQ
      subst hQ
      clear h2 h3 h4 h5 hkk
      go_enter Tryz.func67, Tryz.ntmps67
      go_wp2_with fail
      refine (h1 _).mono ?_
      rintro e w1 ⟨rfl, rfl⟩
      go_wp2
      go_ret
      exact ⟨rfl, hB0⟩
    | true =>
      simp only [Bool.true_eq_false, if_false] at hQ
      cases TY with
      | false =>
        simp only [if_true] at hQ
        subst hQ
        clear h3 h4 h5 hkk
        go_enter Tryz.func67, Tryz.ntmps67
        go_wp2_with fail
        refine (h1 _).mono ?_
        rintro e w1 ⟨rfl, rfl⟩
        go_wp2_with fail
        refine (h2 _).mono ?_
        rintro e w1 ⟨rfl, rfl⟩
        go_wp2
        go_ret
        exact ⟨rfl, hB0⟩
      | true =>
        simp only [Bool.true_eq_false, if_false] at hQ
        cases MB with
        | true =>
          simp only [if_true] at hQ
          subst hQ
          clear h4 h5 hkk
          go_enter Tryz.func67, Tryz.ntmps67
          go_wp2_with fail
          refine (h1 _).mono ?_
          rintro e w1 ⟨rfl, rfl⟩
          go_wp2_with fail
          refine (h2 _).mono ?_
          rintro e w1 ⟨rfl, rfl⟩
          go_wp2_with fail
          refine (h3 _).mono ?_
          rintro e w1 ⟨rfl, rfl⟩
          go_wp2
          go_ret
          exact ⟨rfl, hB0⟩
        | false =>
          simp only [Bool.false_eq_true, if_false] at hQ
          by_cases hcc : CC = 0
          · rw [if_neg (by simpa using hcc)] at hQ
            subst hcc
            have HQ := Nm.hide hQ
            clear hQ
            go_enter Tryz.func67, Tryz.ntmps67
            go_wp2_with fail
            refine (h1 _).mono ?_
            rintro e w1 ⟨rfl, rfl⟩
            go_wp2_with fail
            refine (h2 _).mono ?_
            rintro e w1 ⟨rfl, rfl⟩
            go_wp2_with fail
            refine (h3 _).mono ?_
            rintro e w1 ⟨rfl, rfl⟩
            go_wp2_with fail
            refine (h4 _).mono ?_
            rintro e w2 ⟨rfl, b2⟩
            have hb2 := Nm.below_two hB0 b2
            have k2 := hkk w2 hb2
            clear hkk
            go_wp2_with fail
            refine (h5 _ hb2).mono ?_
            rintro e w3 ⟨rfl, m, rfl⟩
            cases UB with
            | true =>
              go_wp2
              go_ret
              exact ⟨by rw [HQ.out]; rfl, Go.below_drewN hb2 _⟩
            | false =>
              go_wp2
              go_ret
              exact ⟨by rw [HQ.out]; rfl, Go.below_drewN hb2 _⟩
          · rw [if_pos (by simpa using hcc)] at hQ
            subst hQ
            have ncc : (CC != 0) = true := by simpa using hcc
            clear h5 hkk
            go_enter Tryz.func67, Tryz.ntmps67
            go_wp2_with fail
            refine (h1 _).mono ?_
            rintro e w1 ⟨rfl, rfl⟩
            go_wp2_with fail
            refine (h2 _).mono ?_
            rintro e w1 ⟨rfl, rfl⟩
            go_wp2_with fail
            refine (h3 _).mono ?_
            rintro e w1 ⟨rfl, rfl⟩
            go_wp2_with fail
            refine (h4 _).mono ?_
            rintro e w2 ⟨rfl, b2⟩
            go_wp2
            go_ret
            exact ⟨rfl, Nm.below_two hB0 b2⟩
  · rw [if_pos (by simpa using hcl)] at hQ
    subst hQ
    have ncl : (cl != 1) = true := by simpa using hcl
    clear h1 h2 h3 h4 h5 hkk
    go_enter Tryz.func67, Tryz.ntmps67
    go_wp2
    go_ret
    exact ⟨rfl, hB0⟩
end Go.Proofs.YtcamccoaoiobdaaGreat
