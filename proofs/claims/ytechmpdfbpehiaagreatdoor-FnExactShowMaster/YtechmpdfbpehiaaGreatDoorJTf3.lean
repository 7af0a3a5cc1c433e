import Derived.Test.YtechmpdfbpehiaaGreatDoorJMpI
import Derived.Test.YtechmpdfbpehiaaGreatDoorJIShowTy
import Derived.Test.YtechmpdfbpehiaaGreatDoorJHexI
/- textForms' operations under the invariant. -/
namespace Go.Proofs.YtechmpdfbpehiaaGreatDoor
open Go.RowKit
set_option linter.unusedVariables false

/-- An operation waits for another. -/
def waitsOn (o : Oper) (d : Nat) : Bool := o.after.any fun e => Region.binds .any e && e.on == d

theorem dep {o : Oper} {d : Nat} {listed : Array Bool} (h : waitsOn o d = true) (hall : ∀ e ∈ o.after, Region.binds .any e = true → listed.getD e.on false = true) : listed.getD d false = true := by
  simp only [waitsOn, Array.any_eq_true', Bool.and_eq_true, beq_iff_eq] at h
  obtain ⟨e, he, hb, rfl⟩ := h
  exact hall e he hb

/-- Operation i, wherever it comes up, leaves what is held. -/
def GO (W0 : World) (b1 b2 b3 b4 : Nat) (Q : Exit → Act → World → Prop) (i : Nat) (o : Oper) : Prop := o.guard = none ∧ ∀ (listed : Array Bool) (a : Act) (w : World), listed.size = 74 → listed.getD i true = false → (∀ e ∈ o.after, Region.binds .any e = true → listed.getD e.on false = true) → TI W0 b1 b2 b3 b4 listed a w →
  ∀ K' : Act → World → Prop, (∀ a w, TI W0 b1 b2 b3 b4 (listed.setIfInBounds i true) a w → K' a w) → Oper.wp Tryz.prog o a w K' Q

/-- Of each of these operations, from number n on. -/
def AllFrom (G : Nat → Oper → Prop) : Nat → List Oper → Prop
  | _, [] => True
  | n, o :: r => G n o ∧ AllFrom G (n + 1) r

theorem all_get {G : Nat → Oper → Prop} : ∀ (l : List Oper) (n i : Nat) (o : Oper), AllFrom G n l → l[i]? = some o → G (n + i) o
  | [], _, _, _, _, h => by simp at h
  | x :: r, n, 0, o, hA, h => by simp at h; subst h; exact hA.1
  | x :: r, n, i + 1, o, hA, h => by
    have := all_get r (n + 1) i o hA.2 (by simpa using h)
    rw [show n + (i + 1) = n + 1 + i by omega]
    exact this

theorem all_append {G : Nat → Oper → Prop} : ∀ (l1 l2 : List Oper) (n : Nat), AllFrom G n l1 → AllFrom G (n + l1.length) l2 → AllFrom G n (l1.append l2)
  | [], _, _, _, h => h
  | x :: r, l2, n, h1, h2 => ⟨h1.1, all_append r l2 (n + 1) h1.2 (by rw [show n + 1 + r.length = n + (x :: r).length by simp; omega]; exact h2)⟩

/-- A form lies in a variable. -/
def FVc (w : World) (b K : Nat) : Prop := ∃ g x y F u, w.cell? ⟨b, 0, none⟩ = some (.func g x y) ∧ w.cell? ⟨b, 1, none⟩ = some (.func F #[] u) ∧ WVal w K (.func F #[] u)

section
variable {W0 : World} {b1 b2 b3 b4 : Nat} {Q : Exit → Act → World → Prop} {o : Oper}

theorem go_load {d j t b K : Nat} (hg : o.guard = none) (hop : o.op = .load 104 (.tmp t)) (hd : o.dst = some j) (ht : (d, j, .inl K) ∈ slotTab) (hp : ∀ {listed : Array Bool} {a : Act} {w : World}, TI W0 b1 b2 b3 b4 listed a w → a.tmps[t]? = some (.pointer (some ⟨b, 0, none⟩))) (hv : FVc W0 b K) : GO W0 b1 b2 b3 b4 Q d o := by
  refine ⟨hg, fun listed a w hl hu hall hI K' hK => ?_⟩
  obtain ⟨g, x, y, F, u, c0, c1, hw⟩ := hv
  have k := kept_below hI.be
  exact op_load hop hd (hp hI) (k _ _ c0) (k _ _ c1) (hK _ _ (ti_put hI hl (Below.refl _ _) ht ⟨g, x, y, F, u, rfl, hw.kept k⟩))

theorem go_mk {d j F : Nat} {s : Sk} {args : Array Operand} {tys : Array TypeId} {vs : Array Value} (hg : o.guard = none) (hop : o.op = .call { callee := .value (.func F), args := args, argTypes := tys }) (hd : o.dst = some j) (ht : (d, j, s) ∈ slotTab) (hev : ∀ a : Act, args.map a.eval = vs)
    (hent : ∀ w : World, (callFunc F vs).run Tryz.prog w = .ok (.enter F vs) w) (hc : ∀ w : World, Calls Tryz.prog F vs w fun e w' => (∃ f, e = .returned f ∧ SV w' s f) ∧ Below w.heap.size w w') : GO W0 b1 b2 b3 b4 Q d o := by
  refine ⟨hg, fun listed a w hl hu hall hI K' hK => ?_⟩
  refine op_call (R := fun v w' => SV w' s v ∧ Below w.heap.size w w') hop hd (hev a) (hent w) ((hc w).mono ?_) ?_
  · rintro e w' ⟨⟨f, h1, h2⟩, h3⟩
    exact ⟨f, h1, h2, h3⟩
  · rintro v w' ⟨h1, h2⟩
    exact hK _ _ (ti_put hI hl h2 ht h1)

theorem just_enters (V : Value) (w : World) : (callFunc 72 #[V]).run Tryz.prog w = .ok (.enter 72 #[V]) w := by kernel_rfl
theorem many_enters (V : Value) (w : World) : (callFunc 78 #[V]).run Tryz.prog w = .ok (.enter 78 #[V]) w := by kernel_rfl

theorem go_just {d j d0 s0 : Nat} {ks : List Nat} {tys : Array TypeId} (hg : o.guard = none) (hop : o.op = .call { callee := .value (.func 72), args := #[.tmp s0], argTypes := tys }) (hd : o.dst = some j) (ht : (d, j, .inr (.inr (.inl ks))) ∈ slotTab) (t0 : (d0, s0, .inr (.inl ks)) ∈ slotTab) (e0 : waitsOn o d0 = true) : GO W0 b1 b2 b3 b4 Q d o := by
  refine ⟨hg, fun listed a w hl hu hall hI K' hK => ?_⟩
  obtain ⟨v, m, g, rfl, hf⟩ := hI.sl _ t0 (dep e0 hall)
  simp only at m
  have hev : (#[.tmp s0] : Array Operand).map a.eval = #[.slice (some ⟨g, 0, none⟩) ks.length ks.length] := by
    have e : a.tmps.getD s0 undef = .slice (some ⟨g, 0, none⟩) ks.length ks.length := by rw [Array.getD_eq_getD_getElem?, m]; rfl
    simp [Act.eval, e]
  refine op_call (R := fun v w' => TFv w' (.inl ks) v ∧ Below w.heap.size w w') hop hd hev (just_enters _ w) ((justWords_any _ w _ _ _ rfl).mono ?_) ?_
  · rintro e w' ⟨⟨g2, x, y, gc, rfl, hc⟩, hb⟩
    exact ⟨_, rfl, ⟨g2, x, y, gc, g, _, rfl, hc, hf.kept (kept_below hb)⟩, hb⟩
  · rintro v w' ⟨h1, h2⟩
    exact hK _ _ (ti_put hI hl h2 ht h1)

theorem go_many {d j d0 s0 : Nat} {tys : Array TypeId} (hg : o.guard = none) (hop : o.op = .call { callee := .value (.func 78), args := #[.tmp s0], argTypes := tys }) (hd : o.dst = some j) (ht : (d, j, .inr (.inr (.inr false))) ∈ slotTab) (t0 : (d0, s0, .inl 1) ∈ slotTab) (e0 : waitsOn o d0 = true) : GO W0 b1 b2 b3 b4 Q d o := by
  refine ⟨hg, fun listed a w hl hu hall hI K' hK => ?_⟩
  obtain ⟨v, m, g, x, y, F, u, rfl, hq⟩ := hI.sl _ t0 (dep e0 hall)
  simp only at m
  have hq2 : Value.func F #[] u = .func (.func 95) #[] #[] := hq
  rw [hq2] at m
  have hev : (#[.tmp s0] : Array Operand).map a.eval = #[.agg #[.func g x y, .func (.func 95) #[] #[]]] := by
    have e : a.tmps.getD s0 undef = .agg #[.func g x y, .func (.func 95) #[] #[]] := by rw [Array.getD_eq_getD_getElem?, m]; rfl
    simp [Act.eval, e]
  refine op_call (R := fun v w' => TFv w' (.inr false) v ∧ Below w.heap.size w w') hop hd hev (many_enters _ w) ((manyWords_any w _ _ _ _ _ _ _ rfl).mono ?_) ?_
  · rintro e w' ⟨⟨g2, x2, y2, gc, rfl, hc⟩, hb⟩
    exact ⟨_, rfl, ⟨g2, x2, y2, gc, rfl, hc⟩, hb⟩
  · rintro v w' ⟨h1, h2⟩
    exact hK _ _ (ti_put hI hl h2 ht h1)

theorem go_make (hg : o.guard = none) (hop : o.op = .makeMap 88 none) (hd : o.dst = some 9) : GO W0 b1 b2 b3 b4 Q 0 o :=
  ⟨hg, fun listed a w hl hu hall hI K' hK => op_make hop hd (hK _ _ (ti_make hI hl hu))⟩

theorem go_ins {d d0 s0 : Nat} {x : Int} {F : List Nat ⊕ Bool} (hg : o.guard = none) (hop : o.op = .insert 88 (.tmp 9) (.const (.int .i64 x)) (.tmp s0)) (hd : o.dst = none) (hi : (d, x) ∈ insTab) (hF : (x, F) ∈ formTab) (hw : (Lit.int .i64 x).wf = true) (t0 : (d0, s0, .inr (.inr F)) ∈ slotTab) (e0 : waitsOn o d0 = true) (e9 : waitsOn o 0 = true) : GO W0 b1 b2 b3 b4 Q d o := by
  refine ⟨hg, fun listed a w hl hu hall hI K' hK => ?_⟩
  obtain ⟨v, m, hv⟩ := hI.sl _ t0 (dep e0 hall)
  obtain ⟨r, w', h9, hr, hT⟩ := ti_ins (r := 0) hI hl hu (dep e9 hall) hi hF hw hv
  exact op_insert hop hd h9 m hr (hK _ _ hT)

theorem go_mv (hg : o.guard = none) (hop : o.op = .move (.tmp 9)) (hd : o.dst = some 67) (e0 : waitsOn o 0 = true) : GO W0 b1 b2 b3 b4 Q 72 o := by
  refine ⟨hg, fun listed a w hl hu hall hI K' hK => ?_⟩
  obtain ⟨r, L, m1, _⟩ := hI.mp (dep e0 hall)
  exact op_move (.inl hop) hd m1 (hK _ _ (ti_mv hI hl (dep e0 hall) m1))

theorem go_as (hg : o.guard = none) (hop : o.op = .assign (.tmp 67)) (hd : o.dst = some 0) (e0 : waitsOn o 0 = true) (e72 : waitsOn o 72 = true) : GO W0 b1 b2 b3 b4 Q 73 o := by
  refine ⟨hg, fun listed a w hl hu hall hI K' hK => ?_⟩
  obtain ⟨r, L, m1, _⟩ := hI.mp (dep e0 hall)
  have h67 := hI.mv (dep e72 hall)
  rw [m1] at h67
  exact op_move (.inr hop) hd h67 (hK _ _ (ti_as hI hl (dep e0 hall) m1))

theorem go_slice1 {d j d0 s0 k0 : Nat} (hg : o.guard = none) (hop : o.op = .buildSlice 135 1 #[(0, .tmp s0)]) (hd : o.dst = some j) (ht : (d, j, .inr (.inl [k0])) ∈ slotTab) (t0 : (d0, s0, .inl k0) ∈ slotTab) (e0 : waitsOn o d0 = true) : GO W0 b1 b2 b3 b4 Q d o := by
  refine ⟨hg, fun listed a w hl hu hall hI K' hK => ?_⟩
  obtain ⟨v0, m0, g0, x0, y0, F0, u0, rfl, q0⟩ := hI.sl _ t0 (dep e0 hall)
  refine op_slice1 hop hd m0 (hK _ _ (ti_put hI hl ((Below.refl _ _).alloc (Nat.le_refl _) _) ht ⟨w.heap.size, rfl, ?_⟩))
  intro i K hi
  match i, hi with
  | 0, hi =>
    obtain rfl : K = k0 := by simpa using hi.symm
    exact ⟨g0, x0, y0, .func F0 #[] u0, by rw [World.cell?_alloc_new]; rfl, by rw [World.cell?_alloc_new]; rfl, q0.kept (kept_below ((Below.refl _ _).alloc (Nat.le_refl _) _))⟩
  | i + 1, hi => simp at hi

theorem go_slice2 {d j d0 d1 s0 s1 k0 k1 : Nat} (hg : o.guard = none) (hop : o.op = .buildSlice 135 2 #[(0, .tmp s0), (1, .tmp s1)]) (hd : o.dst = some j) (ht : (d, j, .inr (.inl [k0, k1])) ∈ slotTab) (t0 : (d0, s0, .inl k0) ∈ slotTab) (t1 : (d1, s1, .inl k1) ∈ slotTab) (e0 : waitsOn o d0 = true) (e1 : waitsOn o d1 = true) : GO W0 b1 b2 b3 b4 Q d o := by
  refine ⟨hg, fun listed a w hl hu hall hI K' hK => ?_⟩
  obtain ⟨v0, m0, g0, x0, y0, F0, u0, rfl, q0⟩ := hI.sl _ t0 (dep e0 hall)
  obtain ⟨v1, m1, g1, x1, y1, F1, u1, rfl, q1⟩ := hI.sl _ t1 (dep e1 hall)
  refine op_slice2 hop hd m0 m1 (hK _ _ (ti_put hI hl ((Below.refl _ _).alloc (Nat.le_refl _) _) ht ⟨w.heap.size, rfl, ?_⟩))
  intro i K hi
  match i, hi with
  | 0, hi =>
    obtain rfl : K = k0 := by simpa using hi.symm
    exact ⟨g0, x0, y0, .func F0 #[] u0, by rw [World.cell?_alloc_new]; rfl, by rw [World.cell?_alloc_new]; rfl, q0.kept (kept_below ((Below.refl _ _).alloc (Nat.le_refl _) _))⟩
  | 1, hi =>
    obtain rfl : K = k1 := by simpa using hi.symm
    exact ⟨g1, x1, y1, .func F1 #[] u1, by rw [World.cell?_alloc_new]; rfl, by rw [World.cell?_alloc_new]; rfl, q1.kept (kept_below ((Below.refl _ _).alloc (Nat.le_refl _) _))⟩
  | i + 2, hi => simp at hi

theorem go_slice3 {d j d0 d1 d2 s0 s1 s2 k0 k1 k2 : Nat} (hg : o.guard = none) (hop : o.op = .buildSlice 135 3 #[(0, .tmp s0), (1, .tmp s1), (2, .tmp s2)]) (hd : o.dst = some j) (ht : (d, j, .inr (.inl [k0, k1, k2])) ∈ slotTab) (t0 : (d0, s0, .inl k0) ∈ slotTab) (t1 : (d1, s1, .inl k1) ∈ slotTab) (t2 : (d2, s2, .inl k2) ∈ slotTab) (e0 : waitsOn o d0 = true) (e1 : waitsOn o d1 = true) (e2 : waitsOn o d2 = true) : GO W0 b1 b2 b3 b4 Q d o := by
  refine ⟨hg, fun listed a w hl hu hall hI K' hK => ?_⟩
  obtain ⟨v0, m0, g0, x0, y0, F0, u0, rfl, q0⟩ := hI.sl _ t0 (dep e0 hall)
  obtain ⟨v1, m1, g1, x1, y1, F1, u1, rfl, q1⟩ := hI.sl _ t1 (dep e1 hall)
  obtain ⟨v2, m2, g2, x2, y2, F2, u2, rfl, q2⟩ := hI.sl _ t2 (dep e2 hall)
  refine op_slice3 hop hd m0 m1 m2 (hK _ _ (ti_put hI hl ((Below.refl _ _).alloc (Nat.le_refl _) _) ht ⟨w.heap.size, rfl, ?_⟩))
  intro i K hi
  match i, hi with
  | 0, hi =>
    obtain rfl : K = k0 := by simpa using hi.symm
    exact ⟨g0, x0, y0, .func F0 #[] u0, by rw [World.cell?_alloc_new]; rfl, by rw [World.cell?_alloc_new]; rfl, q0.kept (kept_below ((Below.refl _ _).alloc (Nat.le_refl _) _))⟩
  | 1, hi =>
    obtain rfl : K = k1 := by simpa using hi.symm
    exact ⟨g1, x1, y1, .func F1 #[] u1, by rw [World.cell?_alloc_new]; rfl, by rw [World.cell?_alloc_new]; rfl, q1.kept (kept_below ((Below.refl _ _).alloc (Nat.le_refl _) _))⟩
  | 2, hi =>
    obtain rfl : K = k2 := by simpa using hi.symm
    exact ⟨g2, x2, y2, .func F2 #[] u2, by rw [World.cell?_alloc_new]; rfl, by rw [World.cell?_alloc_new]; rfl, q2.kept (kept_below ((Below.refl _ _).alloc (Nat.le_refl _) _))⟩
  | i + 3, hi => simp at hi

theorem go_slice4 {d j d0 d1 d2 d3 s0 s1 s2 s3 k0 k1 k2 k3 : Nat} (hg : o.guard = none) (hop : o.op = .buildSlice 135 4 #[(0, .tmp s0), (1, .tmp s1), (2, .tmp s2), (3, .tmp s3)]) (hd : o.dst = some j) (ht : (d, j, .inr (.inl [k0, k1, k2, k3])) ∈ slotTab) (t0 : (d0, s0, .inl k0) ∈ slotTab) (t1 : (d1, s1, .inl k1) ∈ slotTab) (t2 : (d2, s2, .inl k2) ∈ slotTab) (t3 : (d3, s3, .inl k3) ∈ slotTab) (e0 : waitsOn o d0 = true) (e1 : waitsOn o d1 = true) (e2 : waitsOn o d2 = true) (e3 : waitsOn o d3 = true) : GO W0 b1 b2 b3 b4 Q d o := by
  refine ⟨hg, fun listed a w hl hu hall hI K' hK => ?_⟩
  obtain ⟨v0, m0, g0, x0, y0, F0, u0, rfl, q0⟩ := hI.sl _ t0 (dep e0 hall)
  obtain ⟨v1, m1, g1, x1, y1, F1, u1, rfl, q1⟩ := hI.sl _ t1 (dep e1 hall)
  obtain ⟨v2, m2, g2, x2, y2, F2, u2, rfl, q2⟩ := hI.sl _ t2 (dep e2 hall)
  obtain ⟨v3, m3, g3, x3, y3, F3, u3, rfl, q3⟩ := hI.sl _ t3 (dep e3 hall)
  refine op_slice4 hop hd m0 m1 m2 m3 (hK _ _ (ti_put hI hl ((Below.refl _ _).alloc (Nat.le_refl _) _) ht ⟨w.heap.size, rfl, ?_⟩))
  intro i K hi
  match i, hi with
  | 0, hi =>
    obtain rfl : K = k0 := by simpa using hi.symm
    exact ⟨g0, x0, y0, .func F0 #[] u0, by rw [World.cell?_alloc_new]; rfl, by rw [World.cell?_alloc_new]; rfl, q0.kept (kept_below ((Below.refl _ _).alloc (Nat.le_refl _) _))⟩
  | 1, hi =>
    obtain rfl : K = k1 := by simpa using hi.symm
    exact ⟨g1, x1, y1, .func F1 #[] u1, by rw [World.cell?_alloc_new]; rfl, by rw [World.cell?_alloc_new]; rfl, q1.kept (kept_below ((Below.refl _ _).alloc (Nat.le_refl _) _))⟩
  | 2, hi =>
    obtain rfl : K = k2 := by simpa using hi.symm
    exact ⟨g2, x2, y2, .func F2 #[] u2, by rw [World.cell?_alloc_new]; rfl, by rw [World.cell?_alloc_new]; rfl, q2.kept (kept_below ((Below.refl _ _).alloc (Nat.le_refl _) _))⟩
  | 3, hi =>
    obtain rfl : K = k3 := by simpa using hi.symm
    exact ⟨g3, x3, y3, .func F3 #[] u3, by rw [World.cell?_alloc_new]; rfl, by rw [World.cell?_alloc_new]; rfl, q3.kept (kept_below ((Below.refl _ _).alloc (Nat.le_refl _) _))⟩
  | i + 4, hi => simp at hi

theorem go_slice6 {d j d0 d1 d2 d3 d4 d5 s0 s1 s2 s3 s4 s5 k0 k1 k2 k3 k4 k5 : Nat} (hg : o.guard = none) (hop : o.op = .buildSlice 135 6 #[(0, .tmp s0), (1, .tmp s1), (2, .tmp s2), (3, .tmp s3), (4, .tmp s4), (5, .tmp s5)]) (hd : o.dst = some j) (ht : (d, j, .inr (.inl [k0, k1, k2, k3, k4, k5])) ∈ slotTab) (t0 : (d0, s0, .inl k0) ∈ slotTab) (t1 : (d1, s1, .inl k1) ∈ slotTab) (t2 : (d2, s2, .inl k2) ∈ slotTab) (t3 : (d3, s3, .inl k3) ∈ slotTab) (t4 : (d4, s4, .inl k4) ∈ slotTab) (t5 : (d5, s5, .inl k5) ∈ slotTab) (e0 : waitsOn o d0 = true) (e1 : waitsOn o d1 = true) (e2 : waitsOn o d2 = true) (e3 : waitsOn o d3 = true) (e4 : waitsOn o d4 = true) (e5 : waitsOn o d5 = true) : GO W0 b1 b2 b3 b4 Q d o := by
  refine ⟨hg, fun listed a w hl hu hall hI K' hK => ?_⟩
  obtain ⟨v0, m0, g0, x0, y0, F0, u0, rfl, q0⟩ := hI.sl _ t0 (dep e0 hall)
  obtain ⟨v1, m1, g1, x1, y1, F1, u1, rfl, q1⟩ := hI.sl _ t1 (dep e1 hall)
  obtain ⟨v2, m2, g2, x2, y2, F2, u2, rfl, q2⟩ := hI.sl _ t2 (dep e2 hall)
  obtain ⟨v3, m3, g3, x3, y3, F3, u3, rfl, q3⟩ := hI.sl _ t3 (dep e3 hall)
  obtain ⟨v4, m4, g4, x4, y4, F4, u4, rfl, q4⟩ := hI.sl _ t4 (dep e4 hall)
  obtain ⟨v5, m5, g5, x5, y5, F5, u5, rfl, q5⟩ := hI.sl _ t5 (dep e5 hall)
  refine op_slice6 hop hd m0 m1 m2 m3 m4 m5 (hK _ _ (ti_put hI hl ((Below.refl _ _).alloc (Nat.le_refl _) _) ht ⟨w.heap.size, rfl, ?_⟩))
  intro i K hi
  match i, hi with
  | 0, hi =>
    obtain rfl : K = k0 := by simpa using hi.symm
    exact ⟨g0, x0, y0, .func F0 #[] u0, by rw [World.cell?_alloc_new]; rfl, by rw [World.cell?_alloc_new]; rfl, q0.kept (kept_below ((Below.refl _ _).alloc (Nat.le_refl _) _))⟩
  | 1, hi =>
    obtain rfl : K = k1 := by simpa using hi.symm
    exact ⟨g1, x1, y1, .func F1 #[] u1, by rw [World.cell?_alloc_new]; rfl, by rw [World.cell?_alloc_new]; rfl, q1.kept (kept_below ((Below.refl _ _).alloc (Nat.le_refl _) _))⟩
  | 2, hi =>
    obtain rfl : K = k2 := by simpa using hi.symm
    exact ⟨g2, x2, y2, .func F2 #[] u2, by rw [World.cell?_alloc_new]; rfl, by rw [World.cell?_alloc_new]; rfl, q2.kept (kept_below ((Below.refl _ _).alloc (Nat.le_refl _) _))⟩
  | 3, hi =>
    obtain rfl : K = k3 := by simpa using hi.symm
    exact ⟨g3, x3, y3, .func F3 #[] u3, by rw [World.cell?_alloc_new]; rfl, by rw [World.cell?_alloc_new]; rfl, q3.kept (kept_below ((Below.refl _ _).alloc (Nat.le_refl _) _))⟩
  | 4, hi =>
    obtain rfl : K = k4 := by simpa using hi.symm
    exact ⟨g4, x4, y4, .func F4 #[] u4, by rw [World.cell?_alloc_new]; rfl, by rw [World.cell?_alloc_new]; rfl, q4.kept (kept_below ((Below.refl _ _).alloc (Nat.le_refl _) _))⟩
  | 5, hi =>
    obtain rfl : K = k5 := by simpa using hi.symm
    exact ⟨g5, x5, y5, .func F5 #[] u5, by rw [World.cell?_alloc_new]; rfl, by rw [World.cell?_alloc_new]; rfl, q5.kept (kept_below ((Below.refl _ _).alloc (Nat.le_refl _) _))⟩
  | i + 6, hi => simp at hi

theorem go_slice7 {d j d0 d1 d2 d3 d4 d5 d6 s0 s1 s2 s3 s4 s5 s6 k0 k1 k2 k3 k4 k5 k6 : Nat} (hg : o.guard = none) (hop : o.op = .buildSlice 135 7 #[(0, .tmp s0), (1, .tmp s1), (2, .tmp s2), (3, .tmp s3), (4, .tmp s4), (5, .tmp s5), (6, .tmp s6)]) (hd : o.dst = some j) (ht : (d, j, .inr (.inl [k0, k1, k2, k3, k4, k5, k6])) ∈ slotTab) (t0 : (d0, s0, .inl k0) ∈ slotTab) (t1 : (d1, s1, .inl k1) ∈ slotTab) (t2 : (d2, s2, .inl k2) ∈ slotTab) (t3 : (d3, s3, .inl k3) ∈ slotTab) (t4 : (d4, s4, .inl k4) ∈ slotTab) (t5 : (d5, s5, .inl k5) ∈ slotTab) (t6 : (d6, s6, .inl k6) ∈ slotTab) (e0 : waitsOn o d0 = true) (e1 : waitsOn o d1 = true) (e2 : waitsOn o d2 = true) (e3 : waitsOn o d3 = true) (e4 : waitsOn o d4 = true) (e5 : waitsOn o d5 = true) (e6 : waitsOn o d6 = true) : GO W0 b1 b2 b3 b4 Q d o := by
  refine ⟨hg, fun listed a w hl hu hall hI K' hK => ?_⟩
  obtain ⟨v0, m0, g0, x0, y0, F0, u0, rfl, q0⟩ := hI.sl _ t0 (dep e0 hall)
  obtain ⟨v1, m1, g1, x1, y1, F1, u1, rfl, q1⟩ := hI.sl _ t1 (dep e1 hall)
  obtain ⟨v2, m2, g2, x2, y2, F2, u2, rfl, q2⟩ := hI.sl _ t2 (dep e2 hall)
  obtain ⟨v3, m3, g3, x3, y3, F3, u3, rfl, q3⟩ := hI.sl _ t3 (dep e3 hall)
  obtain ⟨v4, m4, g4, x4, y4, F4, u4, rfl, q4⟩ := hI.sl _ t4 (dep e4 hall)
  obtain ⟨v5, m5, g5, x5, y5, F5, u5, rfl, q5⟩ := hI.sl _ t5 (dep e5 hall)
  obtain ⟨v6, m6, g6, x6, y6, F6, u6, rfl, q6⟩ := hI.sl _ t6 (dep e6 hall)
  refine op_slice7 hop hd m0 m1 m2 m3 m4 m5 m6 (hK _ _ (ti_put hI hl ((Below.refl _ _).alloc (Nat.le_refl _) _) ht ⟨w.heap.size, rfl, ?_⟩))
  intro i K hi
  match i, hi with
  | 0, hi =>
    obtain rfl : K = k0 := by simpa using hi.symm
    exact ⟨g0, x0, y0, .func F0 #[] u0, by rw [World.cell?_alloc_new]; rfl, by rw [World.cell?_alloc_new]; rfl, q0.kept (kept_below ((Below.refl _ _).alloc (Nat.le_refl _) _))⟩
  | 1, hi =>
    obtain rfl : K = k1 := by simpa using hi.symm
    exact ⟨g1, x1, y1, .func F1 #[] u1, by rw [World.cell?_alloc_new]; rfl, by rw [World.cell?_alloc_new]; rfl, q1.kept (kept_below ((Below.refl _ _).alloc (Nat.le_refl _) _))⟩
  | 2, hi =>
    obtain rfl : K = k2 := by simpa using hi.symm
    exact ⟨g2, x2, y2, .func F2 #[] u2, by rw [World.cell?_alloc_new]; rfl, by rw [World.cell?_alloc_new]; rfl, q2.kept (kept_below ((Below.refl _ _).alloc (Nat.le_refl _) _))⟩
  | 3, hi =>
    obtain rfl : K = k3 := by simpa using hi.symm
    exact ⟨g3, x3, y3, .func F3 #[] u3, by rw [World.cell?_alloc_new]; rfl, by rw [World.cell?_alloc_new]; rfl, q3.kept (kept_below ((Below.refl _ _).alloc (Nat.le_refl _) _))⟩
  | 4, hi =>
    obtain rfl : K = k4 := by simpa using hi.symm
    exact ⟨g4, x4, y4, .func F4 #[] u4, by rw [World.cell?_alloc_new]; rfl, by rw [World.cell?_alloc_new]; rfl, q4.kept (kept_below ((Below.refl _ _).alloc (Nat.le_refl _) _))⟩
  | 5, hi =>
    obtain rfl : K = k5 := by simpa using hi.symm
    exact ⟨g5, x5, y5, .func F5 #[] u5, by rw [World.cell?_alloc_new]; rfl, by rw [World.cell?_alloc_new]; rfl, q5.kept (kept_below ((Below.refl _ _).alloc (Nat.le_refl _) _))⟩
  | 6, hi =>
    obtain rfl : K = k6 := by simpa using hi.symm
    exact ⟨g6, x6, y6, .func F6 #[] u6, by rw [World.cell?_alloc_new]; rfl, by rw [World.cell?_alloc_new]; rfl, q6.kept (kept_below ((Below.refl _ _).alloc (Nat.le_refl _) _))⟩
  | i + 7, hi => simp at hi
end
end Go.Proofs.YtechmpdfbpehiaaGreatDoor
/- impl.textForms by its contract. -/
namespace Go.Proofs.YtechmpdfbpehiaaGreatDoor
open Go.RowKit
set_option linter.unusedVariables false

theorem fv_open {P : Program} {f : FuncId} {args : Array Value} {W : World} {K : Nat} (h : Calls P f args W fun e w' => (∃ v, e = .returned v ∧ FVal w' K v) ∧ Below W.heap.size W w') :
    Calls P f args W fun e w' => (∃ g x y F u, e = .returned (.agg #[.func g x y, .func F #[] u]) ∧ WVal w' K (.func F #[] u)) ∧ Below W.heap.size W w' := by
  refine h.mono ?_
  rintro e w' ⟨⟨v, rfl, hv⟩, hb⟩
  obtain ⟨g, x, y, F, u, rfl, hw⟩ := hv.two
  exact ⟨⟨g, x, y, F, u, rfl, hw⟩, hb⟩
theorem fv_slot {P : Program} {f : FuncId} {args : Array Value} {W : World} {K : Nat} (h : Calls P f args W fun e w' => (∃ v, e = .returned v ∧ FVal w' K v) ∧ Below W.heap.size W w') :
    Calls P f args W fun e w' => (∃ v, e = .returned v ∧ SV w' (.inl K) v) ∧ Below W.heap.size W w' := by
  refine h.mono ?_
  rintro e w' ⟨⟨v, rfl, hv⟩, hb⟩
  exact ⟨⟨v, rfl, hv.two⟩, hb⟩

theorem m_a4 (w : World) : Calls Tryz.prog 73 #[.int .i64 4, .func (.func 74) #[] #[], .func (.func 75) #[] #[]] w fun e w' => (∃ v, e = .returned v ∧ SV w' (.inl 4) v) ∧ Below w.heap.size w w' := fv_slot (addressWordV4_any w)
theorem m_a6 (w : World) : Calls Tryz.prog 73 #[.int .i64 16, .func (.func 76) #[] #[], .func (.func 77) #[] #[]] w fun e w' => (∃ v, e = .returned v ∧ SV w' (.inl 5) v) ∧ Below w.heap.size w w' := fv_slot (addressWordV6_any w)
theorem m_n4 (w : World) : Calls Tryz.prog 70 #[.int .i64 4] w fun e w' => (∃ v, e = .returned v ∧ SV w' (.inl 10) v) ∧ Below w.heap.size w w' := fv_slot (numberWord_any 4 w)
theorem m_n1 (w : World) : Calls Tryz.prog 70 #[.int .i64 1] w fun e w' => (∃ v, e = .returned v ∧ SV w' (.inl 7) v) ∧ Below w.heap.size w w' := fv_slot (numberWord_any 1 w)
theorem m_tag (w : World) : Calls Tryz.prog 79 #[] w fun e w' => (∃ v, e = .returned v ∧ SV w' (.inl 2) v) ∧ Below w.heap.size w w' := fv_slot (tagWord_any w)
theorem m_rest (w : World) : Calls Tryz.prog 80 #[] w fun e w' => (∃ v, e = .returned v ∧ SV w' (.inl 3) v) ∧ Below w.heap.size w w' := fv_slot (restWord_any w)

theorem four_forms (w : World) (T : TypeId) (a1 c1 a2 c2 a3 c3 a4 c4 : Value) : ∀ W, W = ((((w.alloc (.cells #[a1, c1] T)).alloc (.cells #[a2, c2] T)).alloc (.cells #[a3, c3] T)).alloc (.cells #[a4, c4] T)) →
    (W.cell? ⟨w.heap.size, 0, none⟩ = some a1 ∧ W.cell? ⟨w.heap.size, 1, none⟩ = some c1) ∧ (W.cell? ⟨w.heap.size + 1, 0, none⟩ = some a2 ∧ W.cell? ⟨w.heap.size + 1, 1, none⟩ = some c2) ∧
    (W.cell? ⟨w.heap.size + 1 + 1, 0, none⟩ = some a3 ∧ W.cell? ⟨w.heap.size + 1 + 1, 1, none⟩ = some c3) ∧ (W.cell? ⟨w.heap.size + 1 + 1 + 1, 0, none⟩ = some a4 ∧ W.cell? ⟨w.heap.size + 1 + 1 + 1, 1, none⟩ = some c4) := by
  rintro W rfl
  have s1 : (w.alloc (.cells #[a1, c1] T)).heap.size = w.heap.size + 1 := by simp
  have s2 : ((w.alloc (.cells #[a1, c1] T)).alloc (.cells #[a2, c2] T)).heap.size = w.heap.size + 1 + 1 := by simp
  have s3 : (((w.alloc (.cells #[a1, c1] T)).alloc (.cells #[a2, c2] T)).alloc (.cells #[a3, c3] T)).heap.size = w.heap.size + 1 + 1 + 1 := by simp
  have kk : ∀ (V : World) (o : Obj), Kept V (V.alloc o) := fun V o => kept_below ((Below.refl _ _).alloc (Nat.le_refl _) o)
  have n1 := fun i => World.cell?_alloc_new w #[a1, c1] T i
  have n2 := fun i => World.cell?_alloc_new (w.alloc (.cells #[a1, c1] T)) #[a2, c2] T i
  have n3 := fun i => World.cell?_alloc_new ((w.alloc (.cells #[a1, c1] T)).alloc (.cells #[a2, c2] T)) #[a3, c3] T i
  have n4 := fun i => World.cell?_alloc_new (((w.alloc (.cells #[a1, c1] T)).alloc (.cells #[a2, c2] T)).alloc (.cells #[a3, c3] T)) #[a4, c4] T i
  rw [s1] at n2
  rw [s2] at n3
  rw [s3] at n4
  exact ⟨⟨kk _ _ _ _ (kk _ _ _ _ (kk _ _ _ _ (n1 0))), kk _ _ _ _ (kk _ _ _ _ (kk _ _ _ _ (n1 1)))⟩, ⟨kk _ _ _ _ (kk _ _ _ _ (n2 0)), kk _ _ _ _ (kk _ _ _ _ (n2 1))⟩, ⟨kk _ _ _ _ (n3 0), kk _ _ _ _ (n3 1)⟩, ⟨n4 0, n4 1⟩⟩

theorem m_nt (w : World) : Calls Tryz.prog 81 #[] w fun e w' => (∃ v, e = .returned v ∧ SV w' (.inr (.inr (.inr true))) v) ∧ Below w.heap.size w w' := by
  refine (nameAndTypes_any w).mono ?_
  rintro e w' ⟨⟨g, x, y, gc, rfl, hc⟩, hb⟩
  exact ⟨⟨_, rfl, g, x, y, gc, rfl, hc⟩, hb⟩

theorem none_listed {n x : Nat} : ¬ (Array.replicate n false).getD x false = true := by
  rw [Array.getD_eq_getD_getElem?, Array.getElem?_replicate]
  split <;> simp

theorem region_go {l : List Oper} {Q : Exit → Act → World → Prop} {id : Nat} {a : Act} {w : World} {b1 b2 b3 b4 : Nat} (hm : Tryz.prog.follows .mixedOrders = true) (hsz : l.length = 74) (hb : edgesBack l.toArray = true) (hA : AllFrom (GO w.drew b1 b2 b3 b4 Q) 0 l)
    (hstart : TI w.drew b1 b2 b3 b4 (Array.replicate 74 false) a w.drew)
    (hend : ∀ (a : Act) (w' : World) (r : Nat) (L : List (Int × Value)), a.defers = [] → a.tmps.size = 68 → a.tmps[0]? = some (.map (some r)) → IMap w' r L → (∀ p ∈ L, ∃ F, (p.1, F) ∈ formTab ∧ TFv w' F p.2) → (∀ x ∈ insTab, ∃ v, (x.2, v) ∈ L) → Below w.heap.size w w' → Q .normal a w') : (Code.region id l.toArray true).wp Tryz.prog Q a w := by
  have hz : l.toArray.size = 74 := by simpa using hsz
  refine wp_region_inv (fun listed a w' => TI w.drew b1 b2 b3 b4 listed a w') hm (by rw [hz]; exact hstart) ?_ ?_
  · intro listed a w' i o hs ho hu hall hI
    have ho' : l[i]? = some o := by rw [← ho]; simp
    obtain ⟨hg, hG⟩ := all_get l 0 i o hA ho'
    rw [Nat.zero_add] at hG
    refine wpOp_step ho (fun K' hK => ?_)
    rw [if_pos (by simp [Region.wanted, hg])]
    exact hG listed a w' (hs.trans hz) hu hall hI K' hK
  · intro listed a w' hs hr hI
    have hall := all_listed hb hs hr
    have hl : ∀ i, i < 74 → listed.getD i false = true := by
      intro i hi
      have h1 := hall i (by omega)
      rw [Array.getD_eq_getD_getElem?, Array.getElem?_eq_getElem (by omega)] at h1 ⊢
      simpa using h1
    obtain ⟨r, L, m1, m2, m3, m4, m5⟩ := hI.mp (hl 0 (by omega))
    have h0 := hI.asg (hl 73 (by omega))
    rw [m1] at h0
    exact hend a w' r L hI.df hI.sz h0 m3 m4 (fun x hx => (m5 x hx).2 (hl x.1 (by have := (ins_facts hx).2.1; omega))) (show Below w.heap.size w w' from (Below.refl w.heap.size w).drew.trans hI.be)

set_option maxRecDepth 100000 in
set_option maxHeartbeats 3200000 in
theorem textForms_any (w : World) : Calls Tryz.prog 58 #[] w fun e w' => (∃ r L, e = .returned (.map (some r)) ∧ IMap w' r L ∧ (∀ p ∈ L, ∃ F, (p.1, F) ∈ formTab ∧ TFv w' F p.2) ∧ ∀ x ∈ insTab, ∃ v, (x.2, v) ∈ L) ∧ Below w.heap.size w w' := by
  have h0 := fun W => fv_open (nameWord_any W)
  have h1 := fun W => fv_open (textWord_any W)
  have h2 := fun W => fv_open (numberWord_any 2 W)
  have h3 := fun W => fv_open (timeWord_any W)
  rw [show ((2 : Nat) : Int) = 2 from rfl] at h2
  go_enter Tryz.func58, Tryz.ntmps58
  go_wp2_with (first | (go_at_call 68; refine (h0 _).mono ?_; rintro e w1 ⟨⟨g1, x1, y1, F1, u1, rfl, q1⟩, b1⟩) | (go_at_call 69; refine (h1 _).mono ?_; rintro e w2 ⟨⟨g2, x2, y2, F2, u2, rfl, q2⟩, b2⟩) | (go_at_call 70; refine (h2 _).mono ?_; rintro e w3 ⟨⟨g3, x3, y3, F3, u3, rfl, q3⟩, b3⟩) | (go_at_call 71; refine (h3 _).mono ?_; rintro e w4 ⟨⟨g4, x4, y4, F4, u4, rfl, q4⟩, b4⟩))
  have bA : Below w4.heap.size w4 ((((w4.alloc (.cells #[.func g1 x1 y1, .func F1 #[] u1] 104)).alloc (.cells #[.func g2 x2 y2, .func F2 #[] u2] 104)).alloc (.cells #[.func g3 x3 y3, .func F3 #[] u3] 104)).alloc (.cells #[.func g4 x4 y4, .func F4 #[] u4] 104)) := ((((Below.refl _ _).alloc (Nat.le_refl _) _).alloc (by simp) _).alloc (by simp; omega) _).alloc (by simp; omega) _
  have k4 := kept_below bA
  have k3 := (kept_below b4).trans k4
  have k2 := (kept_below b3).trans k3
  have k1 := (kept_below b2).trans k2
  obtain ⟨⟨z10, z11⟩, ⟨z20, z21⟩, ⟨z30, z31⟩, ⟨z40, z41⟩⟩ := four_forms w4 104 (.func g1 x1 y1) (.func F1 #[] u1) (.func g2 x2 y2) (.func F2 #[] u2) (.func g3 x3 y3) (.func F3 #[] u3) (.func g4 x4 y4) (.func F4 #[] u4) _ rfl
  have c1 : FVc ((((w4.alloc (.cells #[.func g1 x1 y1, .func F1 #[] u1] 104)).alloc (.cells #[.func g2 x2 y2, .func F2 #[] u2] 104)).alloc (.cells #[.func g3 x3 y3, .func F3 #[] u3] 104)).alloc (.cells #[.func g4 x4 y4, .func F4 #[] u4] 104)).drew w4.heap.size 0 := ⟨g1, x1, y1, F1, u1, z10, z11, q1.kept k1⟩
  have c2 : FVc ((((w4.alloc (.cells #[.func g1 x1 y1, .func F1 #[] u1] 104)).alloc (.cells #[.func g2 x2 y2, .func F2 #[] u2] 104)).alloc (.cells #[.func g3 x3 y3, .func F3 #[] u3] 104)).alloc (.cells #[.func g4 x4 y4, .func F4 #[] u4] 104)).drew (w4.heap.size + 1) 1 := ⟨g2, x2, y2, F2, u2, z20, z21, q2.kept k2⟩
  have c3 : FVc ((((w4.alloc (.cells #[.func g1 x1 y1, .func F1 #[] u1] 104)).alloc (.cells #[.func g2 x2 y2, .func F2 #[] u2] 104)).alloc (.cells #[.func g3 x3 y3, .func F3 #[] u3] 104)).alloc (.cells #[.func g4 x4 y4, .func F4 #[] u4] 104)).drew (w4.heap.size + 1 + 1) 8 := ⟨g3, x3, y3, F3, u3, z30, z31, q3.kept k3⟩
  have c4 : FVc ((((w4.alloc (.cells #[.func g1 x1 y1, .func F1 #[] u1] 104)).alloc (.cells #[.func g2 x2 y2, .func F2 #[] u2] 104)).alloc (.cells #[.func g3 x3 y3, .func F3 #[] u3] 104)).alloc (.cells #[.func g4 x4 y4, .func F4 #[] u4] 104)).drew (w4.heap.size + 1 + 1 + 1) 10 := ⟨g4, x4, y4, F4, u4, z40, z41, q4.kept k4⟩
  have bw := Nm.below_two (Nm.below_two (Nm.below_two (Nm.below_two b1 b2) b3) b4) bA
  generalize ((((w4.alloc (.cells #[.func g1 x1 y1, .func F1 #[] u1] 104)).alloc (.cells #[.func g2 x2 y2, .func F2 #[] u2] 104)).alloc (.cells #[.func g3 x3 y3, .func F3 #[] u3] 104)).alloc (.cells #[.func g4 x4 y4, .func F4 #[] u4] 104)) = WW at *
  generalize w4.heap.size = B at *
  clear z10 z11 z20 z21 z30 z31 z40 z41 k1 k2 k3 k4 b1 b2 b3 b4 bA q1 q2 q3 q4 h0 h1 h2 h3
  refine region_go (b1 := B) (b2 := B + 1) (b3 := B + 1 + 1) (b4 := B + 1 + 1 + 1) (by kernel_rfl) (by kernel_rfl) (by kernel_rfl) (all_append _ _ 0 ?_ ?_) ⟨rfl, rfl, rfl, rfl, rfl, rfl, Below.refl _ _, fun x hx h => absurd h none_listed, fun h => absurd h none_listed, fun _ _ h => absurd h none_listed, fun h => absurd h none_listed, fun h => absurd h none_listed⟩ ?_
  · exact ⟨go_make rfl rfl rfl,
      go_mk (d := 1) (s := .inl 4) rfl rfl rfl (List.mem_of_getElem? (i := 0) rfl) (fun a => by first | rfl | simp [Act.eval]) (fun w => by kernel_rfl) m_a4,
      go_slice1 (d := 2) (d0 := 1) (k0 := 4) rfl rfl rfl (List.mem_of_getElem? (i := 1) rfl) (List.mem_of_getElem? (i := 0) rfl) (by kernel_rfl),
      go_just (d := 3) (d0 := 2) (ks := [4]) rfl rfl rfl (List.mem_of_getElem? (i := 2) rfl) (List.mem_of_getElem? (i := 1) rfl) (by kernel_rfl),
      go_ins (d := 4) (d0 := 3) (x := 1) (F := (.inl [4])) rfl rfl rfl (List.mem_of_getElem? (i := 0) rfl) (List.mem_of_getElem? (i := 0) rfl) (by decide) (List.mem_of_getElem? (i := 2) rfl) (by kernel_rfl) (by kernel_rfl),
      go_mk (d := 5) (s := .inl 5) rfl rfl rfl (List.mem_of_getElem? (i := 3) rfl) (fun a => by first | rfl | simp [Act.eval]) (fun w => by kernel_rfl) m_a6,
      go_slice1 (d := 6) (d0 := 5) (k0 := 5) rfl rfl rfl (List.mem_of_getElem? (i := 4) rfl) (List.mem_of_getElem? (i := 3) rfl) (by kernel_rfl),
      go_just (d := 7) (d0 := 6) (ks := [5]) rfl rfl rfl (List.mem_of_getElem? (i := 5) rfl) (List.mem_of_getElem? (i := 4) rfl) (by kernel_rfl),
      go_ins (d := 8) (d0 := 7) (x := 28) (F := (.inl [5])) rfl rfl rfl (List.mem_of_getElem? (i := 1) rfl) (List.mem_of_getElem? (i := 1) rfl) (by decide) (List.mem_of_getElem? (i := 5) rfl) (by kernel_rfl) (by kernel_rfl),
      go_load (d := 9) (K := 0) rfl rfl rfl (List.mem_of_getElem? (i := 6) rfl) (fun h => h.p1) c1,
      go_slice1 (d := 10) (d0 := 9) (k0 := 0) rfl rfl rfl (List.mem_of_getElem? (i := 7) rfl) (List.mem_of_getElem? (i := 6) rfl) (by kernel_rfl),
      go_just (d := 11) (d0 := 10) (ks := [0]) rfl rfl rfl (List.mem_of_getElem? (i := 8) rfl) (List.mem_of_getElem? (i := 7) rfl) (by kernel_rfl),
      go_ins (d := 12) (d0 := 11) (x := 2) (F := (.inl [0])) rfl rfl rfl (List.mem_of_getElem? (i := 2) rfl) (List.mem_of_getElem? (i := 2) rfl) (by decide) (List.mem_of_getElem? (i := 8) rfl) (by kernel_rfl) (by kernel_rfl),
      go_load (d := 13) (K := 0) rfl rfl rfl (List.mem_of_getElem? (i := 9) rfl) (fun h => h.p1) c1,
      go_slice1 (d := 14) (d0 := 13) (k0 := 0) rfl rfl rfl (List.mem_of_getElem? (i := 10) rfl) (List.mem_of_getElem? (i := 9) rfl) (by kernel_rfl),
      go_just (d := 15) (d0 := 14) (ks := [0]) rfl rfl rfl (List.mem_of_getElem? (i := 11) rfl) (List.mem_of_getElem? (i := 10) rfl) (by kernel_rfl),
      go_ins (d := 16) (d0 := 15) (x := 5) (F := (.inl [0])) rfl rfl rfl (List.mem_of_getElem? (i := 3) rfl) (List.mem_of_getElem? (i := 3) rfl) (by decide) (List.mem_of_getElem? (i := 11) rfl) (by kernel_rfl) (by kernel_rfl),
      go_load (d := 17) (K := 0) rfl rfl rfl (List.mem_of_getElem? (i := 12) rfl) (fun h => h.p1) c1,
      go_slice1 (d := 18) (d0 := 17) (k0 := 0) rfl rfl rfl (List.mem_of_getElem? (i := 13) rfl) (List.mem_of_getElem? (i := 12) rfl) (by kernel_rfl),
      go_just (d := 19) (d0 := 18) (ks := [0]) rfl rfl rfl (List.mem_of_getElem? (i := 14) rfl) (List.mem_of_getElem? (i := 13) rfl) (by kernel_rfl),
      go_ins (d := 20) (d0 := 19) (x := 12) (F := (.inl [0])) rfl rfl rfl (List.mem_of_getElem? (i := 4) rfl) (List.mem_of_getElem? (i := 4) rfl) (by decide) (List.mem_of_getElem? (i := 14) rfl) (by kernel_rfl) (by kernel_rfl),
      go_load (d := 21) (K := 0) rfl rfl rfl (List.mem_of_getElem? (i := 15) rfl) (fun h => h.p1) c1,
      go_slice1 (d := 22) (d0 := 21) (k0 := 0) rfl rfl rfl (List.mem_of_getElem? (i := 16) rfl) (List.mem_of_getElem? (i := 15) rfl) (by kernel_rfl),
      go_just (d := 23) (d0 := 22) (ks := [0]) rfl rfl rfl (List.mem_of_getElem? (i := 17) rfl) (List.mem_of_getElem? (i := 16) rfl) (by kernel_rfl),
      go_ins (d := 24) (d0 := 23) (x := 39) (F := (.inl [0])) rfl rfl rfl (List.mem_of_getElem? (i := 5) rfl) (List.mem_of_getElem? (i := 5) rfl) (by decide) (List.mem_of_getElem? (i := 17) rfl) (by kernel_rfl) (by kernel_rfl),
      go_load (d := 25) (K := 8) rfl rfl rfl (List.mem_of_getElem? (i := 18) rfl) (fun h => h.p3) c3,
      go_load (d := 26) (K := 0) rfl rfl rfl (List.mem_of_getElem? (i := 19) rfl) (fun h => h.p1) c1,
      go_slice2 (d := 27) (d0 := 25) (k0 := 8) (d1 := 26) (k1 := 0) rfl rfl rfl (List.mem_of_getElem? (i := 20) rfl) (List.mem_of_getElem? (i := 18) rfl) (List.mem_of_getElem? (i := 19) rfl) (by kernel_rfl) (by kernel_rfl),
      go_just (d := 28) (d0 := 27) (ks := [8, 0]) rfl rfl rfl (List.mem_of_getElem? (i := 21) rfl) (List.mem_of_getElem? (i := 20) rfl) (by kernel_rfl),
      go_ins (d := 29) (d0 := 28) (x := 15) (F := (.inl [8, 0])) rfl rfl rfl (List.mem_of_getElem? (i := 6) rfl) (List.mem_of_getElem? (i := 6) rfl) (by decide) (List.mem_of_getElem? (i := 21) rfl) (by kernel_rfl) (by kernel_rfl),
      go_load (d := 30) (K := 0) rfl rfl rfl (List.mem_of_getElem? (i := 22) rfl) (fun h => h.p1) c1,
      go_load (d := 31) (K := 0) rfl rfl rfl (List.mem_of_getElem? (i := 23) rfl) (fun h => h.p1) c1,
      go_mk (d := 32) (s := .inl 10) rfl rfl rfl (List.mem_of_getElem? (i := 24) rfl) (fun a => by simp [Act.eval]) (fun w => by kernel_rfl) m_n4,
      go_load (d := 33) (K := 10) rfl rfl rfl (List.mem_of_getElem? (i := 25) rfl) (fun h => h.p4) c4,
      go_load (d := 34) (K := 10) rfl rfl rfl (List.mem_of_getElem? (i := 26) rfl) (fun h => h.p4) c4,
      go_load (d := 35) (K := 10) rfl rfl rfl (List.mem_of_getElem? (i := 27) rfl) (fun h => h.p4) c4,
      go_load (d := 36) (K := 10) rfl rfl rfl (List.mem_of_getElem? (i := 28) rfl) (fun h => h.p4) c4, trivial⟩
  · exact ⟨go_slice7 (d := 37) (d0 := 30) (k0 := 0) (d1 := 31) (k1 := 0) (d2 := 32) (k2 := 10) (d3 := 33) (k3 := 10) (d4 := 34) (k4 := 10) (d5 := 35) (k5 := 10) (d6 := 36) (k6 := 10) rfl rfl rfl (List.mem_of_getElem? (i := 29) rfl) (List.mem_of_getElem? (i := 22) rfl) (List.mem_of_getElem? (i := 23) rfl) (List.mem_of_getElem? (i := 24) rfl) (List.mem_of_getElem? (i := 25) rfl) (List.mem_of_getElem? (i := 26) rfl) (List.mem_of_getElem? (i := 27) rfl) (List.mem_of_getElem? (i := 28) rfl) (by kernel_rfl) (by kernel_rfl) (by kernel_rfl) (by kernel_rfl) (by kernel_rfl) (by kernel_rfl) (by kernel_rfl),
      go_just (d := 38) (d0 := 37) (ks := [0, 0, 10, 10, 10, 10, 10]) rfl rfl rfl (List.mem_of_getElem? (i := 30) rfl) (List.mem_of_getElem? (i := 29) rfl) (by kernel_rfl),
      go_ins (d := 39) (d0 := 38) (x := 6) (F := (.inl [0, 0, 10, 10, 10, 10, 10])) rfl rfl rfl (List.mem_of_getElem? (i := 7) rfl) (List.mem_of_getElem? (i := 7) rfl) (by decide) (List.mem_of_getElem? (i := 30) rfl) (by kernel_rfl) (by kernel_rfl),
      go_load (d := 40) (K := 8) rfl rfl rfl (List.mem_of_getElem? (i := 31) rfl) (fun h => h.p3) c3,
      go_load (d := 41) (K := 8) rfl rfl rfl (List.mem_of_getElem? (i := 32) rfl) (fun h => h.p3) c3,
      go_load (d := 42) (K := 8) rfl rfl rfl (List.mem_of_getElem? (i := 33) rfl) (fun h => h.p3) c3,
      go_load (d := 43) (K := 0) rfl rfl rfl (List.mem_of_getElem? (i := 34) rfl) (fun h => h.p1) c1,
      go_slice4 (d := 44) (d0 := 40) (k0 := 8) (d1 := 41) (k1 := 8) (d2 := 42) (k2 := 8) (d3 := 43) (k3 := 0) rfl rfl rfl (List.mem_of_getElem? (i := 35) rfl) (List.mem_of_getElem? (i := 31) rfl) (List.mem_of_getElem? (i := 32) rfl) (List.mem_of_getElem? (i := 33) rfl) (List.mem_of_getElem? (i := 34) rfl) (by kernel_rfl) (by kernel_rfl) (by kernel_rfl) (by kernel_rfl),
      go_just (d := 45) (d0 := 44) (ks := [8, 8, 8, 0]) rfl rfl rfl (List.mem_of_getElem? (i := 36) rfl) (List.mem_of_getElem? (i := 35) rfl) (by kernel_rfl),
      go_ins (d := 46) (d0 := 45) (x := 33) (F := (.inl [8, 8, 8, 0])) rfl rfl rfl (List.mem_of_getElem? (i := 8) rfl) (List.mem_of_getElem? (i := 8) rfl) (by decide) (List.mem_of_getElem? (i := 36) rfl) (by kernel_rfl) (by kernel_rfl),
      go_load (d := 47) (K := 1) rfl rfl rfl (List.mem_of_getElem? (i := 37) rfl) (fun h => h.p2) c2,
      go_many (d := 48) (d0 := 47) rfl rfl rfl (List.mem_of_getElem? (i := 38) rfl) (List.mem_of_getElem? (i := 37) rfl) (by kernel_rfl),
      go_ins (d := 49) (d0 := 48) (x := 16) (F := (.inr false)) rfl rfl rfl (List.mem_of_getElem? (i := 9) rfl) (List.mem_of_getElem? (i := 9) rfl) (by decide) (List.mem_of_getElem? (i := 38) rfl) (by kernel_rfl) (by kernel_rfl),
      go_load (d := 50) (K := 1) rfl rfl rfl (List.mem_of_getElem? (i := 39) rfl) (fun h => h.p2) c2,
      go_load (d := 51) (K := 1) rfl rfl rfl (List.mem_of_getElem? (i := 40) rfl) (fun h => h.p2) c2,
      go_slice2 (d := 52) (d0 := 50) (k0 := 1) (d1 := 51) (k1 := 1) rfl rfl rfl (List.mem_of_getElem? (i := 41) rfl) (List.mem_of_getElem? (i := 39) rfl) (List.mem_of_getElem? (i := 40) rfl) (by kernel_rfl) (by kernel_rfl),
      go_just (d := 53) (d0 := 52) (ks := [1, 1]) rfl rfl rfl (List.mem_of_getElem? (i := 42) rfl) (List.mem_of_getElem? (i := 41) rfl) (by kernel_rfl),
      go_ins (d := 54) (d0 := 53) (x := 13) (F := (.inl [1, 1])) rfl rfl rfl (List.mem_of_getElem? (i := 10) rfl) (List.mem_of_getElem? (i := 10) rfl) (by decide) (List.mem_of_getElem? (i := 42) rfl) (by kernel_rfl) (by kernel_rfl),
      go_load (d := 55) (K := 8) rfl rfl rfl (List.mem_of_getElem? (i := 43) rfl) (fun h => h.p3) c3,
      go_load (d := 56) (K := 8) rfl rfl rfl (List.mem_of_getElem? (i := 44) rfl) (fun h => h.p3) c3,
      go_load (d := 57) (K := 1) rfl rfl rfl (List.mem_of_getElem? (i := 45) rfl) (fun h => h.p2) c2,
      go_load (d := 58) (K := 1) rfl rfl rfl (List.mem_of_getElem? (i := 46) rfl) (fun h => h.p2) c2,
      go_load (d := 59) (K := 1) rfl rfl rfl (List.mem_of_getElem? (i := 47) rfl) (fun h => h.p2) c2,
      go_load (d := 60) (K := 0) rfl rfl rfl (List.mem_of_getElem? (i := 48) rfl) (fun h => h.p1) c1,
      go_slice6 (d := 61) (d0 := 55) (k0 := 8) (d1 := 56) (k1 := 8) (d2 := 57) (k2 := 1) (d3 := 58) (k3 := 1) (d4 := 59) (k4 := 1) (d5 := 60) (k5 := 0) rfl rfl rfl (List.mem_of_getElem? (i := 49) rfl) (List.mem_of_getElem? (i := 43) rfl) (List.mem_of_getElem? (i := 44) rfl) (List.mem_of_getElem? (i := 45) rfl) (List.mem_of_getElem? (i := 46) rfl) (List.mem_of_getElem? (i := 47) rfl) (List.mem_of_getElem? (i := 48) rfl) (by kernel_rfl) (by kernel_rfl) (by kernel_rfl) (by kernel_rfl) (by kernel_rfl) (by kernel_rfl),
      go_just (d := 62) (d0 := 61) (ks := [8, 8, 1, 1, 1, 0]) rfl rfl rfl (List.mem_of_getElem? (i := 50) rfl) (List.mem_of_getElem? (i := 49) rfl) (by kernel_rfl),
      go_ins (d := 63) (d0 := 62) (x := 35) (F := (.inl [8, 8, 1, 1, 1, 0])) rfl rfl rfl (List.mem_of_getElem? (i := 11) rfl) (List.mem_of_getElem? (i := 11) rfl) (by decide) (List.mem_of_getElem? (i := 50) rfl) (by kernel_rfl) (by kernel_rfl),
      go_mk (d := 64) (s := .inl 7) rfl rfl rfl (List.mem_of_getElem? (i := 51) rfl) (fun a => by simp [Act.eval]) (fun w => by kernel_rfl) m_n1,
      go_mk (d := 65) (s := .inl 2) rfl rfl rfl (List.mem_of_getElem? (i := 52) rfl) (fun a => by simp) (fun w => by kernel_rfl) m_tag,
      go_mk (d := 66) (s := .inl 3) rfl rfl rfl (List.mem_of_getElem? (i := 53) rfl) (fun a => by simp) (fun w => by kernel_rfl) m_rest,
      go_slice3 (d := 67) (d0 := 64) (k0 := 7) (d1 := 65) (k1 := 2) (d2 := 66) (k2 := 3) rfl rfl rfl (List.mem_of_getElem? (i := 54) rfl) (List.mem_of_getElem? (i := 51) rfl) (List.mem_of_getElem? (i := 52) rfl) (List.mem_of_getElem? (i := 53) rfl) (by kernel_rfl) (by kernel_rfl) (by kernel_rfl),
      go_just (d := 68) (d0 := 67) (ks := [7, 2, 3]) rfl rfl rfl (List.mem_of_getElem? (i := 55) rfl) (List.mem_of_getElem? (i := 54) rfl) (by kernel_rfl),
      go_ins (d := 69) (d0 := 68) (x := 257) (F := (.inl [7, 2, 3])) rfl rfl rfl (List.mem_of_getElem? (i := 12) rfl) (List.mem_of_getElem? (i := 12) rfl) (by decide) (List.mem_of_getElem? (i := 55) rfl) (by kernel_rfl) (by kernel_rfl),
      go_mk (d := 70) (s := .inr (.inr (.inr true))) rfl rfl rfl (List.mem_of_getElem? (i := 56) rfl) (fun a => by simp) (fun w => by kernel_rfl) m_nt,
      go_ins (d := 71) (d0 := 70) (x := 47) (F := (.inr true)) rfl rfl rfl (List.mem_of_getElem? (i := 13) rfl) (List.mem_of_getElem? (i := 13) rfl) (by decide) (List.mem_of_getElem? (i := 56) rfl) (by kernel_rfl) (by kernel_rfl),
      go_mv rfl rfl rfl (by kernel_rfl),
      go_as rfl rfl rfl (by kernel_rfl) (by kernel_rfl), trivial⟩
  · intro a w' r L hdf hsz h0 hM hF hI hb
    rename_i hk
    refine hk _ _ ?_
    go_wp2_with fail
    refine bodyPost_ret (v := .map (some r)) ?_ hdf ⟨⟨r, L, rfl, hM, hF, hI⟩, Nm.below_two bw hb⟩
    simp [results, Tryz.results58, go_sem, h0]
end Go.Proofs.YtechmpdfbpehiaaGreatDoor
/- The words of data: mathematics. -/
namespace Go.Proofs.YtechmpdfbpehiaaGreatDoor
open Go.RowKit
set_option linter.unusedVariables false

theorem spans_cons_some {p : Dt.Pc} {r : List Dt.Pc} {a : Nat} {d : ByteArray} (h : (Dt.spans (p :: r) a d).isSome = true) : ∃ n, Dt.sz p d = some n ∧ (Dt.spans r (a + n) (d.extract n d.size)).isSome = true := by
  rw [Dt.spans] at h
  cases hz : Dt.sz p d with
  | none => rw [hz] at h; simp at h
  | some n =>
    rw [hz] at h
    simp only [Option.isSome_map] at h
    exact ⟨n, rfl, h⟩

theorem txt_b0 {d : ByteArray} (h : (Dt.txtS d).size ≠ 0) : 0 < d.size ∧ 1 + b0 d ≤ d.size ∧ (Dt.txtS d).size = 1 + b0 d := by
  unfold Dt.txtS at h ⊢
  by_cases h0 : 0 < d.size
  · rw [dif_pos h0] at h ⊢
    by_cases h1 : d[0].toNat + 1 ≤ d.size
    · rw [if_pos h1]
      rw [b0_eq h0]
      simp
      omega
    · rw [if_neg h1] at h; simp at h
  · rw [dif_neg h0] at h; simp at h

theorem sz_tx {d : ByteArray} {n : Nat} (h : Dt.sz .tx d = some n) : (0 < d.size ∧ 1 + b0 d ≤ d.size) ∧ n = 1 + b0 d := by
  simp only [Dt.sz] at h
  split at h
  · cases h
  · rename_i hz
    have := txt_b0 hz
    simp at h
    exact ⟨⟨this.1, this.2.1⟩, by omega⟩
theorem sz_tag {d : ByteArray} {n : Nat} (h : Dt.sz .tag d = some n) : (0 < d.size ∧ 1 + b0 d ≤ d.size) ∧ n = 1 + b0 d := by
  simp only [Dt.sz] at h
  split at h
  · rename_i ht
    simp only [Dt.tagB, Bool.and_eq_true, decide_eq_true_eq] at ht
    have := txt_b0 (d := d) (by omega)
    simp at h
    exact ⟨⟨this.1, this.2.1⟩, by omega⟩
  · cases h
theorem sz_bs {d : ByteArray} {k n : Nat} (h : Dt.sz (.bs k) d = some n) : k ≤ d.size ∧ n = k := by
  simp only [Dt.sz] at h
  split at h
  · simp at h; omega
  · cases h

theorem ok_nm {d : ByteArray} {n : Nat} {ks : List Nat} (h : Dt.sz .nm d = some n) (hr : okAll ks (d.extract n d.size)) : okAll (0 :: ks) d := by
  refine ⟨by simp [wrOK, h], ?_⟩
  simpa [wrN, h] using hr
theorem ok_tx {d : ByteArray} {n : Nat} {ks : List Nat} (h : Dt.sz .tx d = some n) (hr : okAll ks (d.extract n d.size)) : okAll (1 :: ks) d := by
  obtain ⟨h1, rfl⟩ := sz_tx h
  exact ⟨h1, hr⟩
theorem ok_tag {d : ByteArray} {n : Nat} {ks : List Nat} (h : Dt.sz .tag d = some n) (hr : okAll ks (d.extract n d.size)) : okAll (2 :: ks) d := by
  obtain ⟨h1, rfl⟩ := sz_tag h
  exact ⟨h1, hr⟩

/-- Numbers, one behind the other. -/
theorem ok_nums : ∀ (ws : List Nat) (d : ByteArray) (ks : List Nat), (∀ x ∈ ws, x ≤ 6) → ws.sum ≤ d.size → okAll ks (d.extract ws.sum d.size) → okAll (ws.map (· + 6) ++ ks) d := by
  intro ws
  induction ws with
  | nil => intro d ks _ _ h; simpa using h
  | cons x ws ih =>
    intro d ks hx hs h
    simp only [List.sum_cons] at hs h
    refine ⟨⟨hx x (by simp), by omega⟩, ?_⟩
    refine ih _ _ (fun y hy => hx y (by simp [hy])) (by show ws.sum ≤ (d.extract x d.size).size; simp; omega) ?_
    show okAll ks ((d.extract x d.size).extract ws.sum (d.extract x d.size).size)
    rw [Dt.ext_ext (by omega) (Nat.le_refl _)]
    exact h

theorem ok_bs {d : ByteArray} {k n : Nat} {ks : List Nat} (ws : List Nat) (hw : ws.sum = k) (h6 : ∀ x ∈ ws, x ≤ 6) (h : Dt.sz (.bs k) d = some n) (hr : okAll ks (d.extract n d.size)) : okAll (ws.map (· + 6) ++ ks) d := by
  obtain ⟨h1, rfl⟩ := sz_bs h
  exact ok_nums ws d ks h6 (by omega) (by rw [hw]; exact hr)

theorem txs_many : ∀ (f : Nat) (d : ByteArray), d.size ≤ f → Dt.txsS d = d.size → okMany f d := by
  intro f
  induction f with
  | zero => intro d hd _; show d.size = 0; omega
  | succ f ih =>
    intro d hd h
    by_cases h0 : d.size = 0
    · exact .inl h0
    · right
      have hz : (Dt.txtS d).size ≠ 0 := fun e => by rw [Dt.txs_none e] at h; omega
      obtain ⟨a1, a2, a3⟩ := txt_b0 hz
      refine ⟨⟨a1, a2⟩, ?_⟩
      rw [Dt.txs_step hz, a3] at h
      exact ih _ (by simp; omega) (by simp; omega)

/-- Data of a type has the type's words. -/
theorem data_ok {t : Int} {d : ByteArray} {F : List Nat ⊕ Bool} (hF : (t, F) ∈ formTab) (h : (Dt.spans (Dt.implP t) 0 d).isSome = true) :
    (∀ ks, F = .inl ks → okAll ks d) ∧ (F = .inr false → okMany d.size d) ∧ (F = .inr true → ∃ k, Dt.sz .nm d = some k) := by
  simp only [formTab, List.mem_cons, Prod.mk.injEq, List.not_mem_nil, or_false] at hF
  rcases hF with ⟨rfl, rfl⟩ | ⟨rfl, rfl⟩ | ⟨rfl, rfl⟩ | ⟨rfl, rfl⟩ | ⟨rfl, rfl⟩ | ⟨rfl, rfl⟩ | ⟨rfl, rfl⟩ | ⟨rfl, rfl⟩ | ⟨rfl, rfl⟩ | ⟨rfl, rfl⟩ | ⟨rfl, rfl⟩ | ⟨rfl, rfl⟩ | ⟨rfl, rfl⟩ | ⟨rfl, rfl⟩ <;> simp only [Dt.implP] at h
  · obtain ⟨n, h1, _⟩ := spans_cons_some h
    exact ⟨fun ks e => by cases e; exact ⟨(sz_bs h1).1, trivial⟩, fun e => (by cases e), fun e => (by cases e)⟩
  · obtain ⟨n, h1, _⟩ := spans_cons_some h
    exact ⟨fun ks e => by cases e; exact ⟨(sz_bs h1).1, trivial⟩, fun e => (by cases e), fun e => (by cases e)⟩
  · obtain ⟨n, h1, _⟩ := spans_cons_some h
    exact ⟨fun ks e => by cases e; exact ok_nm h1 trivial, fun e => (by cases e), fun e => (by cases e)⟩
  · obtain ⟨n, h1, _⟩ := spans_cons_some h
    exact ⟨fun ks e => by cases e; exact ok_nm h1 trivial, fun e => (by cases e), fun e => (by cases e)⟩
  · obtain ⟨n, h1, _⟩ := spans_cons_some h
    exact ⟨fun ks e => by cases e; exact ok_nm h1 trivial, fun e => (by cases e), fun e => (by cases e)⟩
  · obtain ⟨n, h1, _⟩ := spans_cons_some h
    exact ⟨fun ks e => by cases e; exact ok_nm h1 trivial, fun e => (by cases e), fun e => (by cases e)⟩
  · obtain ⟨n, h1, h⟩ := spans_cons_some h
    obtain ⟨n2, h2, _⟩ := spans_cons_some h
    exact ⟨fun ks e => by cases e; exact ok_bs [2] rfl (by decide) h1 (ok_nm h2 trivial), fun e => (by cases e), fun e => (by cases e)⟩
  · obtain ⟨n, h1, h⟩ := spans_cons_some h
    obtain ⟨n2, h2, h⟩ := spans_cons_some h
    obtain ⟨n3, h3, _⟩ := spans_cons_some h
    exact ⟨fun ks e => by cases e; exact ok_nm h1 (ok_nm h2 (ok_bs (ks := []) [4, 4, 4, 4, 4] rfl (by decide) h3 trivial)), fun e => (by cases e), fun e => (by cases e)⟩
  · obtain ⟨n, h1, h⟩ := spans_cons_some h
    obtain ⟨n2, h2, _⟩ := spans_cons_some h
    exact ⟨fun ks e => by cases e; exact ok_bs [2, 2, 2] rfl (by decide) h1 (ok_nm h2 trivial), fun e => (by cases e), fun e => (by cases e)⟩
  · obtain ⟨n, h1, _⟩ := spans_cons_some h
    refine ⟨fun ks e => (by cases e), fun _ => ?_, fun e => (by cases e)⟩
    simp only [Dt.sz] at h1
    split at h1
    · cases h1
    · rename_i hz
      exact txs_many _ _ (Nat.le_refl _) (by omega)
  · obtain ⟨n, h1, h⟩ := spans_cons_some h
    obtain ⟨n2, h2, _⟩ := spans_cons_some h
    exact ⟨fun ks e => by cases e; exact ok_tx h1 (ok_tx h2 trivial), fun e => (by cases e), fun e => (by cases e)⟩
  · obtain ⟨n, h1, h⟩ := spans_cons_some h
    obtain ⟨n2, h2, h⟩ := spans_cons_some h
    obtain ⟨n3, h3, h⟩ := spans_cons_some h
    obtain ⟨n4, h4, h⟩ := spans_cons_some h
    obtain ⟨n5, h5, _⟩ := spans_cons_some h
    exact ⟨fun ks e => by cases e; exact ok_bs [2, 2] rfl (by decide) h1 (ok_tx h2 (ok_tx h3 (ok_tx h4 (ok_nm h5 trivial)))), fun e => (by cases e), fun e => (by cases e)⟩
  · obtain ⟨n, h1, h⟩ := spans_cons_some h
    obtain ⟨n2, h2, _⟩ := spans_cons_some h
    exact ⟨fun ks e => by cases e; exact ok_bs [1] rfl (by decide) h1 (ok_tag h2 ⟨trivial, trivial⟩), fun e => (by cases e), fun e => (by cases e)⟩
  · obtain ⟨n, h1, _⟩ := spans_cons_some h
    exact ⟨fun ks e => (by cases e), fun e => (by cases e), fun _ => ⟨n, h1⟩⟩

/-- The words of data of a form. -/
def formWords (S4 S6 : ByteArray → ByteArray × Int) (F : List Nat ⊕ Bool) (d : ByteArray) : List ByteArray := match F with
  | .inl ks => writeAll S4 S6 ks d
  | .inr false => manyT d.size d
  | .inr true => (Nm.showS (d.extract 0 ((Dt.sz .nm d).getD 0))).1 :: tyWords (d.extract ((Dt.sz .nm d).getD 0) d.size)
def plainWords (d : ByteArray) : List ByteArray := ⟨#[92, 35]⟩ :: decS d.size :: (if d.size = 0 then [] else [⟨(byHex d.data.toList).toArray⟩])
def formOf (t : Int) : Option (List Nat ⊕ Bool) := (formTab.find? (fun x => x.1 == t)).map (·.2)
def dataWords (S4 S6 : ByteArray → ByteArray × Int) (t : Int) (d : ByteArray) : List ByteArray := match formOf t with
  | some F => formWords S4 S6 F d
  | none => plainWords d
end Go.Proofs.YtechmpdfbpehiaaGreatDoor
