import Derived.Test.YtkiadnglbjamfaaJPfU
import Derived.Test.YtkiadnglbjamfaaJPfD
/- (link).isOfUse, (link).closest by their contracts. -/
namespace Go.Proofs.Ytkiadnglbjamfaa
open Go.RowKit
set_option linter.unusedVariables false

set_option maxRecDepth 100000 in
set_option maxHeartbeats 800000 in
theorem isOfUse_any (a b c u : Value) (l : Lk) (x : List ByteArray) (w : World) (h : LkV w a b c l) (hu : Nm.SRow w u x) (hx : Few x) :
    Calls Try.prog 67 #[.agg #[a, b, c], u] w fun e w' => e = .returned (.bool (useB l x)) ∧ Below w.heap.size w w' := by
  have hB0 := (Below.refl w.heap.size w).alloc (Nat.le_refl _) (.cells #[a, b, c] 68)
  have k0 := blk_new w #[a, b, c] 68
  have h2 := fun W (hW : Below w.heap.size w W) => has_any a b c l 2 W (h.below hW)
  have h6 := fun W (hW : Below w.heap.size w W) => has_any a b c l 6 W (h.below hW)
  have h39 := fun W (hW : Below w.heap.size w W) => has_any a b c l 39 W (h.below hW)
  have hat := fun W (hW : Below w.heap.size w W) => isAt_any a b c u l x W (h.below hW) (hu.below hW) hx
  have hst := fun W (hW : Below w.heap.size w W) => (strictlyUnder_any u a x l.ow W (hu.below hW) (h.ro.below hW) hx h.so).mono (R' := fun e w' => e = .returned (.bool (strB x l.ow)) ∧ Below W.heap.size W w') (by rintro e w' ⟨he, m, rfl⟩; exact ⟨he, below_drewN _ _⟩)
  obtain ⟨⟨x1, y1, rfl⟩, ⟨x2, y2, rfl⟩, ⟨x3, y3, rfl⟩⟩ := lk_form h
  obtain ⟨xu, yu, rfl, _⟩ := hu
  rw [useB, cutB]
  clear h
  generalize strB x l.ow = S at *
  generalize atB l x = A at *
  generalize hasB l.ty 2 = H2 at *
  generalize hasB l.ty 6 = H6 at *
  generalize hasB l.ty 39 = H39 at *
  go_enter Try.func67, Try.ntmps67
  go_wp2_with fail
  refine (h2 _ hB0).mono ?_
  rintro e wn ⟨rfl, bn⟩
  replace k0 := blk_below k0 bn
  replace hB0 := Nm.below_two hB0 bn
  have rr := fun i => blk_cell k0 i
  clear bn
  cases H2 with
  | false =>
    go_wp2_with fail
    refine (hst _ hB0).mono ?_
    rintro e wn ⟨rfl, bn⟩
    replace k0 := blk_below k0 bn
    replace hB0 := Nm.below_two hB0 bn
    have rr := fun i => blk_cell k0 i
    clear bn
    cases S with
    | true =>
      go_wp2_with fail
      refine (h39 _ hB0).mono ?_
      rintro e wn ⟨rfl, bn⟩
      replace k0 := blk_below k0 bn
      replace hB0 := Nm.below_two hB0 bn
      have rr := fun i => blk_cell k0 i
      clear bn
      cases H39 <;> (
        go_wp2
        go_ret
        exact ⟨rfl, hB0⟩)
    | false =>
      go_wp2_with fail
      refine (hat _ hB0).mono ?_
      rintro e wn ⟨rfl, bn⟩
      replace k0 := blk_below k0 bn
      replace hB0 := Nm.below_two hB0 bn
      have rr := fun i => blk_cell k0 i
      clear bn
      cases A <;> (
        go_wp2
        go_ret
        exact ⟨rfl, hB0⟩)
  | true =>
    go_wp2_with fail
    refine (h6 _ hB0).mono ?_
    rintro e wn ⟨rfl, bn⟩
    replace k0 := blk_below k0 bn
    replace hB0 := Nm.below_two hB0 bn
    have rr := fun i => blk_cell k0 i
    clear bn
    cases H6 with
    | false =>
      go_wp2_with fail
      refine (hst _ hB0).mono ?_
      rintro e wn ⟨rfl, bn⟩
      replace k0 := blk_below k0 bn
      replace hB0 := Nm.below_two hB0 bn
      have rr := fun i => blk_cell k0 i
      clear bn
      cases S with
      | true =>
        go_wp2
        go_ret
        exact ⟨rfl, hB0⟩
      | false =>
        go_wp2_with fail
        refine (hat _ hB0).mono ?_
        rintro e wn ⟨rfl, bn⟩
        replace k0 := blk_below k0 bn
        replace hB0 := Nm.below_two hB0 bn
        have rr := fun i => blk_cell k0 i
        clear bn
        cases A <;> (
          go_wp2
          go_ret
          exact ⟨rfl, hB0⟩)
    | true =>
      go_wp2_with fail
      refine (hst _ hB0).mono ?_
      rintro e wn ⟨rfl, bn⟩
      replace k0 := blk_below k0 bn
      replace hB0 := Nm.below_two hB0 bn
      have rr := fun i => blk_cell k0 i
      clear bn
      cases S with
      | true =>
        go_wp2_with fail
        refine (h39 _ hB0).mono ?_
        rintro e wn ⟨rfl, bn⟩
        replace k0 := blk_below k0 bn
        replace hB0 := Nm.below_two hB0 bn
        have rr := fun i => blk_cell k0 i
        clear bn
        cases H39 <;> (
          go_wp2
          go_ret
          exact ⟨rfl, hB0⟩)
      | false =>
        go_wp2_with fail
        refine (hat _ hB0).mono ?_
        rintro e wn ⟨rfl, bn⟩
        replace k0 := blk_below k0 bn
        replace hB0 := Nm.below_two hB0 bn
        have rr := fun i => blk_cell k0 i
        clear bn
        cases A <;> (
          go_wp2
          go_ret
          exact ⟨rfl, hB0⟩)

theorem few_drop {x : List ByteArray} (h : Few x) (k : Nat) : Few (x.drop k) := ⟨fun y hy => h.1 y (List.mem_of_mem_drop hy), by rw [List.length_drop]; have := h.2; omega⟩
end Go.Proofs.Ytkiadnglbjamfaa
