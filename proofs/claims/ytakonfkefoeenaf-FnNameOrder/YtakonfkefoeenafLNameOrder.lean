/- The law FnNameOrder: its walk. -/
import Derived.Test.YtakonfkefoeenafRow8
import Derived.Test.YtakonfkefoeenafDraw10
import Derived.Test.YtakonfkefoeenafOrderM
import Derived.Test.YtakonfkefoeenafNameOKs
import Derived.Test.YtakonfkefoeenafCmpI
import Derived.Test.YtakonfkefoeenafAncI
import Derived.Test.YtakonfkefoeenafUnderI
import Derived.Test.YtakonfkefoeenafSame
namespace Go.Proofs.Ytakonfkefoeenaf
open Go.RowKit
set_option linter.unusedVariables false

theorem ok_of {s : ByteArray} {b : Bool} (h : (Nm.split s).isSome = b) (hs : s.size ≤ maxLen) (W : World) : Calls Try.prog 14 #[.string s] W fun e w' => e = .returned (.bool b) ∧ Below W.heap.size W w' := by
  have h1 := specNameOK_any s W hs
  rw [h] at h1
  exact h1

theorem cmp_of {a b : ByteArray} {c : Int} (h : Nm.cmpS a b = c) (ha : a.size ≤ maxLen) (hb : b.size ≤ maxLen) (W : World) : Calls Try.prog 22 #[.string a, .string b] W fun e w' => e = .returned (.int .i64 c) ∧ Below W.heap.size W w' := by
  have h1 := implCompareNames_any a b W ha hb
  rw [h] at h1
  exact h1

theorem same_of {a b : ByteArray} {c : Bool} (h : sameS a b = c) (ha : a.size ≤ maxLen) (hb : b.size ≤ maxLen) (W : World) : Calls Try.prog 23 #[.string a, .string b] W fun e w' => e = .returned (.bool c) ∧ Below W.heap.size W w' := by
  have h1 := implSameName_any a b W ha hb
  rw [h] at h1
  exact h1

theorem under_of {a b : ByteArray} {c : Bool} (h : isUnderS a b = c) (ha : a.size ≤ maxLen) (hb : b.size ≤ maxLen) (W : World) : Calls Try.prog 25 #[.string a, .string b] W fun e w' => e = .returned (.bool c) ∧ Below W.heap.size W w' := by
  have h1 := implIsUnder_any a b W ha hb
  rw [h] at h1
  exact h1

theorem anc_of {a u : ByteArray} {n c : Int} (h : ancS a n = (u, c)) (ha : a.size ≤ maxLen) (W : World) : Calls Try.prog 24 #[.string a, .int .i64 n] W fun e w' => e = .returned (.tuple #[.string u, .int .i64 c]) ∧ Below W.heap.size W w' := by
  have h1 := implAncestor_any a n W ha
  rw [h] at h1
  exact h1

theorem anc_facts {a : ByteArray} {xs : List ByteArray} (h : Nm.split a = some xs) :
    ((a.toList == [0]) = true ∧ ancS a 1 = (ByteArray.empty, 32)) ∨
    ∃ u, (a.toList == [0]) = false ∧ ancS a 1 = (u, 0) ∧ u.size ≤ maxLen ∧ Nm.cmpS u a = -1 ∧ isUnderS a u = true ∧ isUnderS u a = false := by
  cases xs with
  | nil =>
    left
    have e := root_name h
    refine ⟨?_, ?_⟩
    · rw [e, ByteArray.toList_eq]; rfl
    · rw [ancS, h]; simp
  | cons x t =>
    right
    obtain ⟨hj, hx⟩ := Nm.split_join h
    obtain ⟨hw, hz⟩ := Nm.split_size h
    have hwt : Nm.wsum (x :: t) = 1 + x.size + Nm.wsum t := by simp [Nm.wsum]
    have hs := split_of_join (zs := t) (fun y hy => hx y (List.mem_cons_of_mem _ hy)) (by omega)
    refine ⟨⟨(Nm.joinL t).toArray⟩, ?_, ?_, ?_, ?_, ?_, ?_⟩
    · rw [beq_eq_false_iff_ne, ByteArray.toList_eq]
      intro e
      have e2 : a = ⟨#[0]⟩ := by
        apply ByteArray.ext
        apply Array.toList_inj.1
        simpa using e
      rw [e2, split_root] at h
      simp at h
    · rw [ancS, h]
      simp
      omega
    · rw [mkj_size]; unfold maxLen; omega
    · rw [cmpS_some hs h]; exact cmpLs_up x t
    · rw [isUnder_some h hs]; exact (under_up x t).1
    · rw [isUnder_some hs h]; exact (under_up x t).2

set_option maxRecDepth 100000 in
set_option maxHeartbeats 3200000 in
theorem fnNameOrder_walk (a0 : Option Addr) (len0 cap0 : Nat) (z0 : List Int) (a1 : Option Addr) (len1 cap1 : Nat) (z1 : List Int) (w : World) (w0 : Row8 w a0 len0 cap0 z0) (w1 : Row8 w a1 len1 cap1 z1) :
    Calls Try.prog 7 #[.slice a0 len0 cap0, .slice a1 len1 cap1] w fun e w' => e = .returned (.bool true) ∧ Below w.heap.size w w' := by
  by_cases hl0 : 1048576 < len0
  · have hl0' : (1048576 : Int) < (len0 : Int) := by omega
    go_enter Try.func7, Try.ntmps7
    go_wp2
    go_ret
    exact ⟨rfl, Below.refl _ _⟩
  have hl0' : (len0 : Int) ≤ 1048576 := by omega
  by_cases hl1 : 1048576 < len1
  · have hl1' : (1048576 : Int) < (len1 : Int) := by omega
    go_enter Try.func7, Try.ntmps7
    go_wp2
    go_ret
    exact ⟨rfl, Below.refl _ _⟩
  have hl1' : (len1 : Int) ≤ 1048576 := by omega
  go_enter Try.func7, Try.ntmps7
  go_wp2_with fail
  refine (drawCompareNames_any a0 len0 cap0 w (row8_code w0) (by omega)).mono ?_
  rintro e v1 ⟨a, b, rfl, hsa, hsb, hB1⟩
  go_wp2_with fail
  refine (drawCompareNames_any a1 len1 cap1 v1 (code_below (row8_code w1) hB1) (by omega)).mono ?_
  rintro e v2 ⟨d, d2, rfl, hsd, hsd2, hb2⟩
  have hB2 := Nm.below_two hB1 hb2
  replace hsa : a.size ≤ maxLen := by unfold maxLen; omega
  replace hsb : b.size ≤ maxLen := by unfold maxLen; omega
  replace hsd : d.size ≤ maxLen := by unfold maxLen; omega
  clear w0 w1 hsd2 hl0 hl1 hb2 hB1
  cases ha : Nm.split a with
  | none =>
    go_wp2_with fail
    refine (ok_of (b := false) (by rw [ha]; rfl) hsa _).mono ?_
    rintro e v3 ⟨rfl, hb3⟩
    have hB3 := Nm.below_two hB2 hb3
    go_wp2
    go_ret
    exact ⟨rfl, hB3⟩
  | some xs =>
    go_wp2_with fail
    refine (ok_of (b := true) (by rw [ha]; rfl) hsa _).mono ?_
    rintro e v3 ⟨rfl, hb3⟩
    have hB3 := Nm.below_two hB2 hb3
    cases hb : Nm.split b with
    | none =>
      go_wp2_with fail
      refine (ok_of (b := false) (by rw [hb]; rfl) hsb _).mono ?_
      rintro e v4 ⟨rfl, hb4⟩
      have hB4 := Nm.below_two hB3 hb4
      go_wp2
      go_ret
      exact ⟨rfl, hB4⟩
    | some ys =>
      go_wp2_with fail
      refine (ok_of (b := true) (by rw [hb]; rfl) hsb _).mono ?_
      rintro e v4 ⟨rfl, hb4⟩
      have hB4 := Nm.below_two hB3 hb4
      cases hd : Nm.split d with
      | none =>
        go_wp2_with fail
        refine (ok_of (b := false) (by rw [hd]; rfl) hsd _).mono ?_
        rintro e v5 ⟨rfl, hb5⟩
        have hB5 := Nm.below_two hB4 hb5
        go_wp2
        go_ret
        exact ⟨rfl, hB5⟩
      | some zs =>
        go_wp2_with fail
        refine (ok_of (b := true) (by rw [hd]; rfl) hsd _).mono ?_
        rintro e v5 ⟨rfl, hb5⟩
        have hB5 := Nm.below_two hB4 hb5
        have hup := anc_facts ha
        have r1 := cmpLs_range xs ys
        have r2 := cmpLs_range ys zs
        have r3 := cmpLs_range xs zs
        have t1 := cmpLs_trans (a := xs) (b := ys) (c := zs)
        have t2 := cmpLs_trans' (a := xs) (b := ys) (c := zs)
        have k1 := cmpS_some ha hb
        have k2 := cmpS_some hb hd
        have k3 := cmpS_some ha hd
        have k4 : Nm.cmpS b a = - Nm.cmpLs xs ys := by rw [cmpS_some hb ha]; exact cmpLs_anti xs ys
        have k5 : (Nm.cmpLs xs ys = 0 → sameS a b = true) ∧ (Nm.cmpLs xs ys ≠ 0 → sameS a b = false) := ⟨fun e => by rw [same_cmp ha hb, e]; rfl, fun e => by rw [same_cmp ha hb]; exact decide_eq_false e⟩
        generalize Nm.cmpLs xs ys = c1 at *
        generalize Nm.cmpLs ys zs = c2 at *
        generalize Nm.cmpLs xs zs = c3 at *
        clear hB2 hB3 hB4 hb3 hb4 hb5 ha hb hd
        go_wp2_with fail
        refine (cmp_of k1 hsa hsb _).mono ?_
        rintro e v6 ⟨rfl, hb6⟩
        have hB6 := Nm.below_two hB5 hb6
        go_wp2_with fail
        refine (cmp_of k2 hsb hsd _).mono ?_
        rintro e v7 ⟨rfl, hb7⟩
        have hB7 := Nm.below_two hB6 hb7
        go_wp2_with fail
        refine (cmp_of k3 hsa hsd _).mono ?_
        rintro e v8 ⟨rfl, hb8⟩
        have hB8 := Nm.below_two hB7 hb8
        go_wp2_with fail
        refine (cmp_of k4 hsb hsa _).mono ?_
        rintro e v9 ⟨rfl, hb9⟩
        have hB9 := Nm.below_two hB8 hb9
        clear hB5 hB6 hB7 hB8 hb6 hb7 hb8 hb9 k1 k2 k3 k4
        rcases (by omega : c1 = -1 ∨ c1 = 0 ∨ c1 = 1) with rfl | rfl | rfl
        all_goals
          first
            | have k6 := k5.1 rfl
            | have k6 := k5.2 (by decide)
          clear k5
          go_wp2_with fail
          refine (same_of k6 hsa hsb _).mono ?_
          rintro e v10 ⟨rfl, hb10⟩
          have hB10 := Nm.below_two hB9 hb10
          clear hB9 hb10 k6
          rcases (by omega : c2 = -1 ∨ c2 = 0 ∨ c2 = 1) with rfl | rfl | rfl
          all_goals
            rcases (by omega : c3 = -1 ∨ c3 = 0 ∨ c3 = 1) with rfl | rfl | rfl
            all_goals first
              | (exfalso; simp at t1 t2; done)
              | (clear t1 t2 r1 r2 r3
                 go_wp2_with fail
                 rcases hup with ⟨hu0, hu1⟩ | ⟨u, hu0, hu1, hu2, hu3, hu4, hu5⟩
                 · refine (anc_of hu1 hsa _).mono ?_
                   rintro e v20 ⟨rfl, hb20⟩
                   go_wp2
                   go_ret
                   exact ⟨rfl, Nm.below_two hB10 hb20⟩
                 · refine (anc_of hu1 hsa _).mono ?_
                   rintro e v20 ⟨rfl, hb20⟩
                   have hB20 := Nm.below_two hB10 hb20
                   go_wp2_with fail
                   refine (cmp_of hu3 hu2 hsa _).mono ?_
                   rintro e v21 ⟨rfl, hb21⟩
                   have hB21 := Nm.below_two hB20 hb21
                   go_wp2_with fail
                   refine (under_of hu4 hsa hu2 _).mono ?_
                   rintro e v22 ⟨rfl, hb22⟩
                   have hB22 := Nm.below_two hB21 hb22
                   go_wp2_with fail
                   refine (under_of hu5 hu2 hsa _).mono ?_
                   rintro e v23 ⟨rfl, hb23⟩
                   have hB23 := Nm.below_two hB22 hb23
                   go_wp2
                   go_ret
                   exact ⟨rfl, hB23⟩)
end Go.Proofs.Ytakonfkefoeenaf
