import Derived.Test.YtephbegencpllaaGreatDoorJIFm5
/- The operations of textForms' map literal, each by itself. -/
namespace Go.Proofs.YtephbegencpllaaGreatDoor
open Go.RowKit
set_option linter.unusedVariables false

section
variable {o : Oper} {a : Act} {w : World} {K : Act → World → Prop} {Q : Exit → Act → World → Prop}

theorem op_load {t j b : Nat} {g F : Fn} {x y u : Array Value} (hop : o.op = .load 57 (.tmp t)) (hd : o.dst = some j) (ht : a.tmps[t]? = some (.pointer (some ⟨b, 0, none⟩)))
    (h0 : w.cell? ⟨b, 0, none⟩ = some (.func g x y)) (h1 : w.cell? ⟨b, 1, none⟩ = some (.func F #[] u)) (hK : K (a.put (some j) (.agg #[.func g x y, .func F #[] u])) w) : Oper.wp Tryz.prog o a w K Q := by
  have ht2 : a.tmps.getD t undef = .pointer (some ⟨b, 0, none⟩) := by rw [Array.getD_eq_getD_getElem?, ht]; rfl
  obtain ⟨dst, op, ty, pos, after, guard⟩ := o
  simp only at hop hd
  subst hop hd
  unfold Oper.wp execOp
  simp [go_sem, ht2, h0, h1, Result.andThen]
  exact hK

set_option maxRecDepth 100000 in
theorem op_slice1 {j s0 : Nat} {g0 F0 : Fn} {x0 y0 u0 : Array Value} (hop : o.op = .buildSlice 84 1 #[(0, .tmp s0)]) (hd : o.dst = some j) (h0 : a.tmps[s0]? = some (.agg #[.func g0 x0 y0, .func F0 #[] u0]))
    (hK : K (a.put (some j) (.slice (some ⟨w.heap.size, 0, none⟩) 1 1)) (w.alloc (.cells #[.func g0 x0 y0, .func F0 #[] u0] 57))) : Oper.wp Tryz.prog o a w K Q := by

  obtain ⟨dst, op, ty, pos, after, guard⟩ := o
  simp only at hop hd
  subst hop hd
  unfold Oper.wp execOp
  simp [go_sem, h0, Result.andThen]
  exact hK

set_option maxRecDepth 100000 in
theorem op_slice2 {j s0 s1 : Nat} {g0 F0 g1 F1 : Fn} {x0 y0 u0 x1 y1 u1 : Array Value} (hop : o.op = .buildSlice 84 2 #[(0, .tmp s0), (1, .tmp s1)]) (hd : o.dst = some j) (h0 : a.tmps[s0]? = some (.agg #[.func g0 x0 y0, .func F0 #[] u0])) (h1 : a.tmps[s1]? = some (.agg #[.func g1 x1 y1, .func F1 #[] u1]))
    (hK : K (a.put (some j) (.slice (some ⟨w.heap.size, 0, none⟩) 2 2)) (w.alloc (.cells #[.func g0 x0 y0, .func F0 #[] u0, .func g1 x1 y1, .func F1 #[] u1] 57))) : Oper.wp Tryz.prog o a w K Q := by

  obtain ⟨dst, op, ty, pos, after, guard⟩ := o
  simp only at hop hd
  subst hop hd
  unfold Oper.wp execOp
  simp [go_sem, h0, h1, Result.andThen]
  exact hK

set_option maxRecDepth 100000 in
theorem op_slice3 {j s0 s1 s2 : Nat} {g0 F0 g1 F1 g2 F2 : Fn} {x0 y0 u0 x1 y1 u1 x2 y2 u2 : Array Value} (hop : o.op = .buildSlice 84 3 #[(0, .tmp s0), (1, .tmp s1), (2, .tmp s2)]) (hd : o.dst = some j) (h0 : a.tmps[s0]? = some (.agg #[.func g0 x0 y0, .func F0 #[] u0])) (h1 : a.tmps[s1]? = some (.agg #[.func g1 x1 y1, .func F1 #[] u1])) (h2 : a.tmps[s2]? = some (.agg #[.func g2 x2 y2, .func F2 #[] u2]))
    (hK : K (a.put (some j) (.slice (some ⟨w.heap.size, 0, none⟩) 3 3)) (w.alloc (.cells #[.func g0 x0 y0, .func F0 #[] u0, .func g1 x1 y1, .func F1 #[] u1, .func g2 x2 y2, .func F2 #[] u2] 57))) : Oper.wp Tryz.prog o a w K Q := by

  obtain ⟨dst, op, ty, pos, after, guard⟩ := o
  simp only at hop hd
  subst hop hd
  unfold Oper.wp execOp
  simp [go_sem, h0, h1, h2, Result.andThen]
  exact hK

set_option maxRecDepth 100000 in
theorem op_slice4 {j s0 s1 s2 s3 : Nat} {g0 F0 g1 F1 g2 F2 g3 F3 : Fn} {x0 y0 u0 x1 y1 u1 x2 y2 u2 x3 y3 u3 : Array Value} (hop : o.op = .buildSlice 84 4 #[(0, .tmp s0), (1, .tmp s1), (2, .tmp s2), (3, .tmp s3)]) (hd : o.dst = some j) (h0 : a.tmps[s0]? = some (.agg #[.func g0 x0 y0, .func F0 #[] u0])) (h1 : a.tmps[s1]? = some (.agg #[.func g1 x1 y1, .func F1 #[] u1])) (h2 : a.tmps[s2]? = some (.agg #[.func g2 x2 y2, .func F2 #[] u2])) (h3 : a.tmps[s3]? = some (.agg #[.func g3 x3 y3, .func F3 #[] u3]))
    (hK : K (a.put (some j) (.slice (some ⟨w.heap.size, 0, none⟩) 4 4)) (w.alloc (.cells #[.func g0 x0 y0, .func F0 #[] u0, .func g1 x1 y1, .func F1 #[] u1, .func g2 x2 y2, .func F2 #[] u2, .func g3 x3 y3, .func F3 #[] u3] 57))) : Oper.wp Tryz.prog o a w K Q := by

  obtain ⟨dst, op, ty, pos, after, guard⟩ := o
  simp only at hop hd
  subst hop hd
  unfold Oper.wp execOp
  simp [go_sem, h0, h1, h2, h3, Result.andThen]
  exact hK

set_option maxRecDepth 100000 in
theorem op_slice6 {j s0 s1 s2 s3 s4 s5 : Nat} {g0 F0 g1 F1 g2 F2 g3 F3 g4 F4 g5 F5 : Fn} {x0 y0 u0 x1 y1 u1 x2 y2 u2 x3 y3 u3 x4 y4 u4 x5 y5 u5 : Array Value} (hop : o.op = .buildSlice 84 6 #[(0, .tmp s0), (1, .tmp s1), (2, .tmp s2), (3, .tmp s3), (4, .tmp s4), (5, .tmp s5)]) (hd : o.dst = some j) (h0 : a.tmps[s0]? = some (.agg #[.func g0 x0 y0, .func F0 #[] u0])) (h1 : a.tmps[s1]? = some (.agg #[.func g1 x1 y1, .func F1 #[] u1])) (h2 : a.tmps[s2]? = some (.agg #[.func g2 x2 y2, .func F2 #[] u2])) (h3 : a.tmps[s3]? = some (.agg #[.func g3 x3 y3, .func F3 #[] u3])) (h4 : a.tmps[s4]? = some (.agg #[.func g4 x4 y4, .func F4 #[] u4])) (h5 : a.tmps[s5]? = some (.agg #[.func g5 x5 y5, .func F5 #[] u5]))
    (hK : K (a.put (some j) (.slice (some ⟨w.heap.size, 0, none⟩) 6 6)) (w.alloc (.cells #[.func g0 x0 y0, .func F0 #[] u0, .func g1 x1 y1, .func F1 #[] u1, .func g2 x2 y2, .func F2 #[] u2, .func g3 x3 y3, .func F3 #[] u3, .func g4 x4 y4, .func F4 #[] u4, .func g5 x5 y5, .func F5 #[] u5] 57))) : Oper.wp Tryz.prog o a w K Q := by

  obtain ⟨dst, op, ty, pos, after, guard⟩ := o
  simp only at hop hd
  subst hop hd
  unfold Oper.wp execOp
  simp [go_sem, h0, h1, h2, h3, h4, h5, Result.andThen]
  exact hK

set_option maxRecDepth 100000 in
theorem op_slice7 {j s0 s1 s2 s3 s4 s5 s6 : Nat} {g0 F0 g1 F1 g2 F2 g3 F3 g4 F4 g5 F5 g6 F6 : Fn} {x0 y0 u0 x1 y1 u1 x2 y2 u2 x3 y3 u3 x4 y4 u4 x5 y5 u5 x6 y6 u6 : Array Value} (hop : o.op = .buildSlice 84 7 #[(0, .tmp s0), (1, .tmp s1), (2, .tmp s2), (3, .tmp s3), (4, .tmp s4), (5, .tmp s5), (6, .tmp s6)]) (hd : o.dst = some j) (h0 : a.tmps[s0]? = some (.agg #[.func g0 x0 y0, .func F0 #[] u0])) (h1 : a.tmps[s1]? = some (.agg #[.func g1 x1 y1, .func F1 #[] u1])) (h2 : a.tmps[s2]? = some (.agg #[.func g2 x2 y2, .func F2 #[] u2])) (h3 : a.tmps[s3]? = some (.agg #[.func g3 x3 y3, .func F3 #[] u3])) (h4 : a.tmps[s4]? = some (.agg #[.func g4 x4 y4, .func F4 #[] u4])) (h5 : a.tmps[s5]? = some (.agg #[.func g5 x5 y5, .func F5 #[] u5])) (h6 : a.tmps[s6]? = some (.agg #[.func g6 x6 y6, .func F6 #[] u6]))
    (hK : K (a.put (some j) (.slice (some ⟨w.heap.size, 0, none⟩) 7 7)) (w.alloc (.cells #[.func g0 x0 y0, .func F0 #[] u0, .func g1 x1 y1, .func F1 #[] u1, .func g2 x2 y2, .func F2 #[] u2, .func g3 x3 y3, .func F3 #[] u3, .func g4 x4 y4, .func F4 #[] u4, .func g5 x5 y5, .func F5 #[] u5, .func g6 x6 y6, .func F6 #[] u6] 57))) : Oper.wp Tryz.prog o a w K Q := by

  obtain ⟨dst, op, ty, pos, after, guard⟩ := o
  simp only at hop hd
  subst hop hd
  unfold Oper.wp execOp
  simp [go_sem, h0, h1, h2, h3, h4, h5, h6, Result.andThen]
  exact hK

theorem op_call {j F : Nat} {args : Array Operand} {tys : Array TypeId} {vs : Array Value} {R : Value → World → Prop} (hop : o.op = .call { callee := .value (.func F), args := args, argTypes := tys }) (hd : o.dst = some j) (hev : args.map a.eval = vs)
    (hent : (callFunc F vs).run Tryz.prog w = .ok (.enter F vs) w) (hc : Calls Tryz.prog F vs w fun e w' => ∃ v, e = .returned v ∧ R v w') (hK : ∀ v w', R v w' → K (a.put (some j) v) w') : Oper.wp Tryz.prog o a w K Q := by
  obtain ⟨dst, op, ty, pos, after, guard⟩ := o
  simp only at hop hd
  subst hop hd
  unfold Oper.wp execOp
  simp only [go_sem, resolve, invoke, Sem.run_bind, Sem.run_pure, Result.andThen_ok]
  rw [hev]
  have e : (#[] ++ vs ++ #[] : Array Value) = vs := by simp
  rw [e, hent, Oper.upon_enter]
  refine hc.mono ?_
  rintro e w' ⟨v, rfl, hr⟩
  exact hK v w' hr

theorem op_make {j : Nat} (hop : o.op = .makeMap 41 none) (hd : o.dst = some j) (hK : K (a.put (some j) (.map (some w.heap.size))) (w.alloc (.map #[] 0))) : Oper.wp Tryz.prog o a w K Q := by
  obtain ⟨dst, op, ty, pos, after, guard⟩ := o
  simp only at hop hd
  subst hop hd
  unfold Oper.wp execOp
  simp [go_sem, Instr.makeMap, Result.andThen]
  exact hK

theorem op_move {j s : Nat} {v : Value} (hop : o.op = .move (.tmp s) ∨ o.op = .assign (.tmp s)) (hd : o.dst = some j) (hs : a.tmps[s]? = some v) (hK : K (a.put (some j) v) w) : Oper.wp Tryz.prog o a w K Q := by
  have e : a.tmps.getD s undef = v := by rw [Array.getD_eq_getD_getElem?, hs]; rfl
  obtain ⟨dst, op, ty, pos, after, guard⟩ := o
  simp only at hop hd
  subst hd
  rcases hop with rfl | rfl
  · unfold Oper.wp execOp
    simp [go_sem, e]
    exact hK
  · unfold Oper.wp execOp
    simp [go_sem, e]
    exact hK

theorem op_insert {s r : Nat} {x : Int} {v : Value} {w' : World} (hop : o.op = .insert 41 (.tmp 9) (.const (.int .i64 x)) (.tmp s)) (hd : o.dst = none) (h9 : a.tmps[9]? = some (.map (some r))) (hs : a.tmps[s]? = some v)
    (hr : (Instr.mapUpdate 41 (.map (some r)) (.int .i64 x) v).run Tryz.prog w = .ok () w') (hK : K a w') : Oper.wp Tryz.prog o a w K Q := by
  have e9 : a.tmps.getD 9 undef = .map (some r) := by rw [Array.getD_eq_getD_getElem?, h9]; rfl
  have e : a.tmps.getD s undef = v := by rw [Array.getD_eq_getD_getElem?, hs]; rfl
  obtain ⟨dst, op, ty, pos, after, guard⟩ := o
  simp only at hop hd
  subst hop hd
  unfold Oper.wp execOp
  simp [go_sem, e9, e, hr, Result.andThen, Act.put]
  exact hK
end
end Go.Proofs.YtephbegencpllaaGreatDoor
/- textForms' map literal: what holds while its operations come up, in whatever order. -/
namespace Go.Proofs.YtephbegencpllaaGreatDoor
open Go.RowKit
set_option linter.unusedVariables false

/-- Which operation leaves what in which slot. -/
def slotTab : List (Nat × Nat × Sk) := [(1, 10, .inl 4), (2, 11, .inr (.inl [4])), (3, 12, .inr (.inr (.inl [4]))), (5, 13, .inl 5), (6, 14, .inr (.inl [5])), (7, 15, .inr (.inr (.inl [5]))), (9, 16, .inl 0), (10, 17, .inr (.inl [0])), (11, 18, .inr (.inr (.inl [0]))), (13, 19, .inl 0), (14, 20, .inr (.inl [0])), (15, 21, .inr (.inr (.inl [0]))), (17, 22, .inl 0), (18, 23, .inr (.inl [0])), (19, 24, .inr (.inr (.inl [0]))), (21, 25, .inl 0), (22, 26, .inr (.inl [0])), (23, 27, .inr (.inr (.inl [0]))), (25, 28, .inl 8), (26, 29, .inl 0), (27, 30, .inr (.inl [8, 0])), (28, 31, .inr (.inr (.inl [8, 0]))), (30, 32, .inl 0), (31, 33, .inl 0), (32, 34, .inl 10), (33, 35, .inl 10), (34, 36, .inl 10), (35, 37, .inl 10), (36, 38, .inl 10), (37, 39, .inr (.inl [0, 0, 10, 10, 10, 10, 10])), (38, 40, .inr (.inr (.inl [0, 0, 10, 10, 10, 10, 10]))), (40, 41, .inl 8), (41, 42, .inl 8), (42, 43, .inl 8), (43, 44, .inl 0), (44, 45, .inr (.inl [8, 8, 8, 0])), (45, 46, .inr (.inr (.inl [8, 8, 8, 0]))), (47, 47, .inl 1), (48, 48, .inr (.inr (.inr false))), (50, 49, .inl 1), (51, 50, .inl 1), (52, 51, .inr (.inl [1, 1])), (53, 52, .inr (.inr (.inl [1, 1]))), (55, 53, .inl 8), (56, 54, .inl 8), (57, 55, .inl 1), (58, 56, .inl 1), (59, 57, .inl 1), (60, 58, .inl 0), (61, 59, .inr (.inl [8, 8, 1, 1, 1, 0])), (62, 60, .inr (.inr (.inl [8, 8, 1, 1, 1, 0]))), (64, 61, .inl 7), (65, 62, .inl 2), (66, 63, .inl 3), (67, 64, .inr (.inl [7, 2, 3])), (68, 65, .inr (.inr (.inl [7, 2, 3]))), (70, 66, .inr (.inr (.inr true)))]
/-- Which operation lays which key into the map. -/
def insTab : List (Nat × Int) := [(4, 1), (8, 28), (12, 2), (16, 5), (20, 12), (24, 39), (29, 15), (39, 6), (46, 33), (49, 16), (54, 13), (63, 35), (69, 257), (71, 47)]

def slotFine : Bool := slotTab.all fun x => decide (1 ≤ x.1) && decide (x.1 ≤ 70) && decide (10 ≤ x.2.1) && decide (x.2.1 ≤ 66) && (slotTab.all fun y => (!(x.1 == y.1) || decide (x = y)) && (!(x.2.1 == y.2.1) || x.1 == y.1)) && (insTab.all fun y => !(y.1 == x.1))
theorem slot_fine : slotFine = true := by decide +kernel
def insFine : Bool := insTab.all fun x => decide (1 ≤ x.1) && decide (x.1 ≤ 71) && (insTab.all fun y => (x.1 == y.1) == (x.2 == y.2))
theorem ins_fine : insFine = true := by decide +kernel

theorem slot_facts {x : Nat × Nat × Sk} (h : x ∈ slotTab) : 1 ≤ x.1 ∧ x.1 ≤ 70 ∧ 10 ≤ x.2.1 ∧ x.2.1 ≤ 66 ∧ (∀ y ∈ slotTab, (x.1 = y.1 → x = y) ∧ (x.2.1 = y.2.1 → x.1 = y.1)) ∧ ∀ y ∈ insTab, y.1 ≠ x.1 := by
  have h1 := List.all_eq_true.1 slot_fine x h
  simp only [Bool.and_eq_true, decide_eq_true_eq, List.all_eq_true] at h1
  obtain ⟨⟨⟨⟨⟨a1, a2⟩, a3⟩, a4⟩, a5⟩, a6⟩ := h1
  refine ⟨a1, a2, a3, a4, fun y hy => ?_, fun y hy e => ?_⟩
  · have := a5 y hy
    simp only [Bool.or_eq_true, Bool.not_eq_true', beq_eq_false_iff_ne, beq_iff_eq, decide_eq_true_eq] at this
    exact ⟨fun e => this.1.resolve_left (fun n => n e), fun e => this.2.resolve_left (fun n => n e)⟩
  · have := a6 y hy
    simp [e] at this

theorem ins_facts {x : Nat × Int} (h : x ∈ insTab) : 1 ≤ x.1 ∧ x.1 ≤ 71 ∧ ∀ y ∈ insTab, (x.1 = y.1 ↔ x.2 = y.2) := by
  have h1 := List.all_eq_true.1 ins_fine x h
  simp only [Bool.and_eq_true, decide_eq_true_eq, List.all_eq_true] at h1
  obtain ⟨⟨a1, a2⟩, a3⟩ := h1
  refine ⟨a1, a2, fun y hy => ?_⟩
  have := a3 y hy
  simp only [beq_iff_eq] at this
  constructor
  · intro e
    have h2 : (x.1 == y.1) = true := by simp [e]
    rw [h2] at this
    simpa using this.symm
  · intro e
    have h2 : (x.2 == y.2) = true := by simp [e]
    rw [h2] at this
    simpa using this

/-- What holds while the operations come up. -/
structure TI (W0 : World) (b1 b2 b3 b4 : Nat) (listed : Array Bool) (a : Act) (w : World) : Prop where
  sz : a.tmps.size = 68
  df : a.defers = []
  p1 : a.tmps[1]? = some (.pointer (some ⟨b1, 0, none⟩))
  p2 : a.tmps[2]? = some (.pointer (some ⟨b2, 0, none⟩))
  p3 : a.tmps[3]? = some (.pointer (some ⟨b3, 0, none⟩))
  p4 : a.tmps[4]? = some (.pointer (some ⟨b4, 0, none⟩))
  be : Below W0.heap.size W0 w
  sl : ∀ x ∈ slotTab, listed.getD x.1 false = true → ∃ v, a.tmps[x.2.1]? = some v ∧ SV w x.2.2 v
  mp : listed.getD 0 false = true → ∃ r L, a.tmps[9]? = some (.map (some r)) ∧ W0.heap.size ≤ r ∧ IMap w r L ∧ (∀ p ∈ L, ∃ F, (p.1, F) ∈ formTab ∧ TFv w F p.2) ∧ (∀ x ∈ insTab, (∃ v, (x.2, v) ∈ L) ↔ listed.getD x.1 false = true)
  dn : ∀ d, ((∃ x, (d, x) ∈ insTab) ∨ d = 72 ∨ d = 73) → listed.getD d false = true → listed.getD 0 false = true
  mv : listed.getD 72 false = true → a.tmps[67]? = a.tmps[9]?
  asg : listed.getD 73 false = true → a.tmps[0]? = a.tmps[9]?

theorem gset {listed : Array Bool} {d x : Nat} (hd : d < listed.size) : (listed.setIfInBounds d true).getD x false = true ↔ x = d ∨ listed.getD x false = true := by
  rw [Array.getD_eq_getD_getElem?, Array.getD_eq_getD_getElem?, Array.getElem?_setIfInBounds]
  by_cases e : d = x
  · subst e; simp [hd]
  · rw [if_neg e]
    constructor
    · exact fun h => .inr h
    · rintro (h | h)
      · exact absurd h.symm e
      · exact h

theorem put_get {a : Act} {j i : Nat} {v : Value} (hj : j < a.tmps.size) : (a.put (some j) v).tmps[i]? = if j = i then some v else a.tmps[i]? := by
  show (a.tmps.setIfInBounds j v)[i]? = _
  rw [Array.getElem?_setIfInBounds]
  by_cases e : j = i
  · subst e; simp [hj]
  · rw [if_neg e, if_neg e]

section
variable {b1 b2 b3 b4 : Nat} {W0 : World} {listed : Array Bool} {a : Act} {w w' : World}

theorem ti_put {d j : Nat} {s : Sk} {v : Value} (h : TI W0 b1 b2 b3 b4 listed a w) (hl : listed.size = 74) (hb : Below w.heap.size w w') (ht : (d, j, s) ∈ slotTab) (hv : SV w' s v) : TI W0 b1 b2 b3 b4 (listed.setIfInBounds d true) (a.put (some j) v) w' := by
  obtain ⟨f1, f2, f3, f4, f5, f6⟩ := slot_facts ht
  simp only at f1 f2 f3 f4 f5 f6
  have hj : j < a.tmps.size := by rw [h.sz]; omega
  have hd : d < listed.size := by omega
  have hk := kept_below hb
  have far : ∀ i, j ≠ i → (a.put (some j) v).tmps[i]? = a.tmps[i]? := fun i hi => by rw [put_get hj, if_neg hi]
  refine ⟨by show (a.tmps.setIfInBounds j v).size = 68; simpa using h.sz, h.df, by rw [far 1 (by omega)]; exact h.p1, by rw [far 2 (by omega)]; exact h.p2, by rw [far 3 (by omega)]; exact h.p3, by rw [far 4 (by omega)]; exact h.p4, h.be.trans (hb.mono h.be.size), ?_, ?_, ?_, ?_, ?_⟩
  · intro x hx hlx
    rcases (gset hd).1 hlx with e | e
    · have := (f5 x hx).1 e.symm
      subst this
      exact ⟨v, by rw [put_get hj, if_pos rfl], hv⟩
    · obtain ⟨v', hv1, hv2⟩ := h.sl x hx e
      by_cases e2 : d = x.1
      · have := (f5 x hx).1 e2
        subst this
        exact ⟨v, by rw [put_get hj, if_pos rfl], hv⟩
      · refine ⟨v', ?_, hv2.kept hk⟩
        rw [far _ (fun e3 => e2 ((f5 x hx).2 e3))]
        exact hv1
  · intro h0
    rcases (gset hd).1 h0 with e | e
    · omega
    · obtain ⟨r, L, m1, m2, m3, m4, m5⟩ := h.mp e
      refine ⟨r, L, by rw [far 9 (by omega)]; exact m1, m2, m3.kept (hb.block r m3.lt), fun p hp => ?_, fun x hx => ?_⟩
      · obtain ⟨F, q1, q2⟩ := m4 p hp
        exact ⟨F, q1, q2.kept hk⟩
      · rw [m5 x hx, gset hd]
        have := f6 x hx
        constructor
        · exact fun h => .inr h
        · rintro (h | h)
          · exact absurd h this
          · exact h
  · intro y hy hly
    rcases (gset hd).1 hly with e | e
    · rcases hy with ⟨x, hx⟩ | rfl | rfl
      · exact absurd e (f6 _ hx)
      · omega
      · omega
    · exact (gset hd).2 (.inr (h.dn y hy e))
  · intro h0
    rcases (gset hd).1 h0 with e | e
    · omega
    · rw [far 67 (by omega), far 9 (by omega)]; exact h.mv e
  · intro h0
    rcases (gset hd).1 h0 with e | e
    · omega
    · rw [far 0 (by omega), far 9 (by omega)]; exact h.asg e

theorem ti_ins {d r : Nat} {x : Int} {v : Value} {F : List Nat ⊕ Bool} (h : TI W0 b1 b2 b3 b4 listed a w) (hl : listed.size = 74) (hu : listed.getD d true = false) (h0 : listed.getD 0 false = true) (hi : (d, x) ∈ insTab) (hF : (x, F) ∈ formTab) (hw : (Lit.int .i64 x).wf = true) (hv : TFv w F v) :
    ∃ r w', a.tmps[9]? = some (.map (some r)) ∧ (Instr.mapUpdate 41 (.map (some r)) (.int .i64 x) v).run Tryz.prog w = .ok () w' ∧ TI W0 b1 b2 b3 b4 (listed.setIfInBounds d true) a w' := by
  obtain ⟨f1, f2, f3⟩ := ins_facts hi
  simp only at f1 f2 f3
  have hd : d < listed.size := by omega
  have hud : ¬ listed.getD d false = true := by
    rw [Array.getD_eq_getD_getElem?, Array.getElem?_eq_getElem hd] at hu ⊢
    simp at hu ⊢
    exact hu
  obtain ⟨r, L, m1, m2, m3, m4, m5⟩ := h.mp h0
  have hnew : ∀ p ∈ L, p.1 ≠ x := by
    intro p hp e
    apply hud
    rw [← m5 (d, x) hi]
    exact ⟨p.2, by rw [← e]; exact hp⟩
  obtain ⟨w', q1, q2, q3⟩ := m3.put (P := Tryz.prog) (t := 41) (k := 2) (e := 39) Tryz.underlying2 Tryz.underlying41 hw v hnew
  have hk := kept_map m3 q3
  refine ⟨r, w', m1, q1, h.sz, h.df, h.p1, h.p2, h.p3, h.p4, h.be.grown q3 h.be.size (fun k hk => by simp at hk; omega), ?_, ?_, ?_, ?_, ?_⟩
  · intro y hy hly
    rcases (gset hd).1 hly with e | e
    · exact absurd e.symm ((slot_facts hy).2.2.2.2.2 (d, x) hi)
    · obtain ⟨v', hv1, hv2⟩ := h.sl y hy e
      exact ⟨v', hv1, hv2.kept hk⟩
  · intro _
    refine ⟨r, L ++ [(x, v)], m1, m2, q2, fun p hp => ?_, fun y hy => ?_⟩
    · rcases List.mem_append.1 hp with hp | hp
      · obtain ⟨F', z1, z2⟩ := m4 p hp
        exact ⟨F', z1, z2.kept hk⟩
      · simp at hp
        subst hp
        exact ⟨F, hF, hv.kept hk⟩
    · rw [gset hd, ← m5 y hy]
      constructor
      · rintro ⟨u, hu2⟩
        rcases List.mem_append.1 hu2 with hp | hp
        · exact .inr ⟨u, hp⟩
        · simp at hp
          exact .inl ((f3 y hy).2 hp.1.symm).symm
      · rintro (e | ⟨u, hp⟩)
        · exact ⟨v, List.mem_append.2 (.inr (by simp [((f3 y hy).1 e.symm)]))⟩
        · exact ⟨u, List.mem_append.2 (.inl hp)⟩
  · intro _ _ _
    exact (gset hd).2 (.inr h0)
  · intro e
    rcases (gset hd).1 e with e | e
    · omega
    · exact h.mv e
  · intro e
    rcases (gset hd).1 e with e | e
    · omega
    · exact h.asg e

theorem unl {d : Nat} (hd : d < listed.size) (hu : listed.getD d true = false) : ¬ listed.getD d false = true := by
  rw [Array.getD_eq_getD_getElem?, Array.getElem?_eq_getElem hd] at hu ⊢
  simp at hu ⊢
  exact hu

theorem ti_make (h : TI W0 b1 b2 b3 b4 listed a w) (hl : listed.size = 74) (hu : listed.getD 0 true = false) : TI W0 b1 b2 b3 b4 (listed.setIfInBounds 0 true) (a.put (some 9) (.map (some w.heap.size))) (w.alloc (.map #[] 0)) := by
  have hj : 9 < a.tmps.size := by rw [h.sz]; omega
  have hd : 0 < listed.size := by omega
  have h0 := unl hd hu
  have hn : ∀ x ∈ insTab, ¬ listed.getD x.1 false = true := fun x hx e => h0 (h.dn x.1 (.inl ⟨x.2, hx⟩) e)
  have hn2 : ¬ listed.getD 72 false = true := fun e => h0 (h.dn 72 (.inr (.inl rfl)) e)
  have hn3 : ¬ listed.getD 73 false = true := fun e => h0 (h.dn 73 (.inr (.inr rfl)) e)
  have hb : Below w.heap.size w (w.alloc (.map #[] 0)) := (Below.refl _ _).alloc (Nat.le_refl _) _
  have hk := kept_below hb
  have far : ∀ i, 9 ≠ i → (a.put (some 9) (.map (some w.heap.size))).tmps[i]? = a.tmps[i]? := fun i hi => by rw [put_get hj, if_neg hi]
  refine ⟨by show (a.tmps.setIfInBounds 9 _).size = 68; simpa using h.sz, h.df, by rw [far 1 (by omega)]; exact h.p1, by rw [far 2 (by omega)]; exact h.p2, by rw [far 3 (by omega)]; exact h.p3, by rw [far 4 (by omega)]; exact h.p4, h.be.trans (hb.mono h.be.size), ?_, ?_, ?_, ?_, ?_⟩
  · intro x hx hlx
    obtain ⟨f1, f2, f3, f4, f5, f6⟩ := slot_facts hx
    rcases (gset hd).1 hlx with e | e
    · omega
    · obtain ⟨v', hv1, hv2⟩ := h.sl x hx e
      exact ⟨v', by rw [far _ (by omega)]; exact hv1, hv2.kept hk⟩
  · intro _
    refine ⟨w.heap.size, [], by rw [put_get hj, if_pos rfl], h.be.size, imap_made w, fun p hp => (by cases hp), fun x hx => ?_⟩
    rw [gset hd]
    constructor
    · rintro ⟨v, hv⟩; cases hv
    · rintro (e | e)
      · have := (ins_facts hx).1; omega
      · exact absurd e (hn x hx)
  · intro _ _ _
    exact (gset hd).2 (.inl rfl)
  · intro e
    rcases (gset hd).1 e with e | e
    · omega
    · exact absurd e hn2
  · intro e
    rcases (gset hd).1 e with e | e
    · omega
    · exact absurd e hn3

theorem ti_mv {v : Value} (h : TI W0 b1 b2 b3 b4 listed a w) (hl : listed.size = 74) (h0 : listed.getD 0 false = true) (h9 : a.tmps[9]? = some v) : TI W0 b1 b2 b3 b4 (listed.setIfInBounds 72 true) (a.put (some 67) v) w := by
  have hj : 67 < a.tmps.size := by rw [h.sz]; omega
  have hd : 72 < listed.size := by omega
  have far : ∀ i, 67 ≠ i → (a.put (some 67) v).tmps[i]? = a.tmps[i]? := fun i hi => by rw [put_get hj, if_neg hi]
  refine ⟨by show (a.tmps.setIfInBounds 67 _).size = 68; simpa using h.sz, h.df, by rw [far 1 (by omega)]; exact h.p1, by rw [far 2 (by omega)]; exact h.p2, by rw [far 3 (by omega)]; exact h.p3, by rw [far 4 (by omega)]; exact h.p4, h.be, ?_, ?_, ?_, ?_, ?_⟩
  · intro x hx hlx
    obtain ⟨f1, f2, f3, f4, f5, f6⟩ := slot_facts hx
    rcases (gset hd).1 hlx with e | e
    · omega
    · obtain ⟨v', hv1, hv2⟩ := h.sl x hx e
      exact ⟨v', by rw [far _ (by omega)]; exact hv1, hv2⟩
  · intro _
    obtain ⟨r, L, m1, m2, m3, m4, m5⟩ := h.mp h0
    refine ⟨r, L, by rw [far 9 (by omega)]; exact m1, m2, m3, m4, fun x hx => ?_⟩
    rw [m5 x hx, gset hd]
    have := (ins_facts hx).2.1
    constructor
    · exact fun h => .inr h
    · rintro (h | h)
      · omega
      · exact h
  · intro _ _ _
    exact (gset hd).2 (.inr h0)
  · intro _
    rw [put_get hj, if_pos rfl, far 9 (by omega), h9]
  · intro e
    rcases (gset hd).1 e with e | e
    · omega
    · rw [far 0 (by omega), far 9 (by omega)]; exact h.asg e

theorem ti_as {v : Value} (h : TI W0 b1 b2 b3 b4 listed a w) (hl : listed.size = 74) (h0 : listed.getD 0 false = true) (h9 : a.tmps[9]? = some v) : TI W0 b1 b2 b3 b4 (listed.setIfInBounds 73 true) (a.put (some 0) v) w := by
  have hj : 0 < a.tmps.size := by rw [h.sz]; omega
  have hd : 73 < listed.size := by omega
  have far : ∀ i, 0 ≠ i → (a.put (some 0) v).tmps[i]? = a.tmps[i]? := fun i hi => by rw [put_get hj, if_neg hi]
  refine ⟨by show (a.tmps.setIfInBounds 0 _).size = 68; simpa using h.sz, h.df, by rw [far 1 (by omega)]; exact h.p1, by rw [far 2 (by omega)]; exact h.p2, by rw [far 3 (by omega)]; exact h.p3, by rw [far 4 (by omega)]; exact h.p4, h.be, ?_, ?_, ?_, ?_, ?_⟩
  · intro x hx hlx
    obtain ⟨f1, f2, f3, f4, f5, f6⟩ := slot_facts hx
    rcases (gset hd).1 hlx with e | e
    · omega
    · obtain ⟨v', hv1, hv2⟩ := h.sl x hx e
      exact ⟨v', by rw [far _ (by omega)]; exact hv1, hv2⟩
  · intro _
    obtain ⟨r, L, m1, m2, m3, m4, m5⟩ := h.mp h0
    refine ⟨r, L, by rw [far 9 (by omega)]; exact m1, m2, m3, m4, fun x hx => ?_⟩
    rw [m5 x hx, gset hd]
    have := (ins_facts hx).2.1
    constructor
    · exact fun h => .inr h
    · rintro (h | h)
      · omega
      · exact h
  · intro _ _ _
    exact (gset hd).2 (.inr h0)
  · intro e
    rcases (gset hd).1 e with e | e
    · omega
    · rw [far 67 (by omega), far 9 (by omega)]; exact h.mv e
  · intro _
    rw [put_get hj, if_pos rfl, far 9 (by omega), h9]
end
end Go.Proofs.YtephbegencpllaaGreatDoor
/- textForms' operations under the invariant. -/
namespace Go.Proofs.YtephbegencpllaaGreatDoor
open Go.RowKit
set_option linter.unusedVariables false

/-- An operation waits for another. -/
def waitsOn (o : Oper) (d : Nat) : Bool := o.after.any fun e => Region.binds .any e && e.on == d

theorem dep {o : Oper} {d : Nat} {listed : Array Bool} (h : waitsOn o d = true) (hall : ∀ e ∈ o.after, Region.binds .any e = true → listed.getD e.on false = true) : listed.getD d false = true := by
  simp only [waitsOn, Array.any_eq_true', Bool.and_eq_true, beq_iff_eq] at h
  obtain ⟨e, he, hb, rfl⟩ := h
  exact hall e he hb

/-- Operation i, wherever it comes up, leaves what is held. -/
def GO (W0 : World) (b1 b2 b3 b4 : Nat) (Q : Exit → Act → World → Prop) (i : Nat) (o : Oper) : Prop := o.guard = none ∧ ∀ (listed : Array Bool) (a : Act) (w : World), listed.size = 74 → listed.getD i true = false → (∀ e ∈ o.after, Region.binds .any e = true → listed.getD e.on false = true) → TI W0 b1 b2 b3 b4 listed a w →
  ∀ K' : Act → World → Prop, (∀ a w, TI W0 b1 b2 b3 b4 (listed.setIfInBounds i true) a w → K' a w) → Oper.wp Tryz.prog o a w K' Q

/-- Of each of these operations, from number n on. -/
def AllFrom (G : Nat → Oper → Prop) : Nat → List Oper → Prop
  | _, [] => True
  | n, o :: r => G n o ∧ AllFrom G (n + 1) r

theorem all_get {G : Nat → Oper → Prop} : ∀ (l : List Oper) (n i : Nat) (o : Oper), AllFrom G n l → l[i]? = some o → G (n + i) o
  | [], _, _, _, _, h => by simp at h
  | x :: r, n, 0, o, hA, h => by simp at h; subst h; exact hA.1
  | x :: r, n, i + 1, o, hA, h => by
    have := all_get r (n + 1) i o hA.2 (by simpa using h)
    rw [show n + (i + 1) = n + 1 + i by omega]
    exact this

theorem all_append {G : Nat → Oper → Prop} : ∀ (l1 l2 : List Oper) (n : Nat), AllFrom G n l1 → AllFrom G (n + l1.length) l2 → AllFrom G n (l1.append l2)
  | [], _, _, _, h => h
  | x :: r, l2, n, h1, h2 => ⟨h1.1, all_append r l2 (n + 1) h1.2 (by rw [show n + 1 + r.length = n + (x :: r).length by simp; omega]; exact h2)⟩

/-- A form lies in a variable. -/
def FVc (w : World) (b K : Nat) : Prop := ∃ g x y F u, w.cell? ⟨b, 0, none⟩ = some (.func g x y) ∧ w.cell? ⟨b, 1, none⟩ = some (.func F #[] u) ∧ WVal w K (.func F #[] u)

section
variable {W0 : World} {b1 b2 b3 b4 : Nat} {Q : Exit → Act → World → Prop} {o : Oper}

theorem go_load {d j t b K : Nat} (hg : o.guard = none) (hop : o.op = .load 57 (.tmp t)) (hd : o.dst = some j) (ht : (d, j, .inl K) ∈ slotTab) (hp : ∀ {listed : Array Bool} {a : Act} {w : World}, TI W0 b1 b2 b3 b4 listed a w → a.tmps[t]? = some (.pointer (some ⟨b, 0, none⟩))) (hv : FVc W0 b K) : GO W0 b1 b2 b3 b4 Q d o := by
  refine ⟨hg, fun listed a w hl hu hall hI K' hK => ?_⟩
  obtain ⟨g, x, y, F, u, c0, c1, hw⟩ := hv
  have k := kept_below hI.be
  exact op_load hop hd (hp hI) (k _ _ c0) (k _ _ c1) (hK _ _ (ti_put hI hl (Below.refl _ _) ht ⟨g, x, y, F, u, rfl, hw.kept k⟩))

theorem go_mk {d j F : Nat} {s : Sk} {args : Array Operand} {tys : Array TypeId} {vs : Array Value} (hg : o.guard = none) (hop : o.op = .call { callee := .value (.func F), args := args, argTypes := tys }) (hd : o.dst = some j) (ht : (d, j, s) ∈ slotTab) (hev : ∀ a : Act, args.map a.eval = vs)
    (hent : ∀ w : World, (callFunc F vs).run Tryz.prog w = .ok (.enter F vs) w) (hc : ∀ w : World, Calls Tryz.prog F vs w fun e w' => (∃ f, e = .returned f ∧ SV w' s f) ∧ Below w.heap.size w w') : GO W0 b1 b2 b3 b4 Q d o := by
  refine ⟨hg, fun listed a w hl hu hall hI K' hK => ?_⟩
  refine op_call (R := fun v w' => SV w' s v ∧ Below w.heap.size w w') hop hd (hev a) (hent w) ((hc w).mono ?_) ?_
  · rintro e w' ⟨⟨f, h1, h2⟩, h3⟩
    exact ⟨f, h1, h2, h3⟩
  · rintro v w' ⟨h1, h2⟩
    exact hK _ _ (ti_put hI hl h2 ht h1)

theorem just_enters (V : Value) (w : World) : (callFunc 36 #[V]).run Tryz.prog w = .ok (.enter 36 #[V]) w := by kernel_rfl
theorem many_enters (V : Value) (w : World) : (callFunc 42 #[V]).run Tryz.prog w = .ok (.enter 42 #[V]) w := by kernel_rfl

theorem go_just {d j d0 s0 : Nat} {ks : List Nat} {tys : Array TypeId} (hg : o.guard = none) (hop : o.op = .call { callee := .value (.func 36), args := #[.tmp s0], argTypes := tys }) (hd : o.dst = some j) (ht : (d, j, .inr (.inr (.inl ks))) ∈ slotTab) (t0 : (d0, s0, .inr (.inl ks)) ∈ slotTab) (e0 : waitsOn o d0 = true) : GO W0 b1 b2 b3 b4 Q d o := by
  refine ⟨hg, fun listed a w hl hu hall hI K' hK => ?_⟩
  obtain ⟨v, m, g, rfl, hf⟩ := hI.sl _ t0 (dep e0 hall)
  simp only at m
  have hev : (#[.tmp s0] : Array Operand).map a.eval = #[.slice (some ⟨g, 0, none⟩) ks.length ks.length] := by
    have e : a.tmps.getD s0 undef = .slice (some ⟨g, 0, none⟩) ks.length ks.length := by rw [Array.getD_eq_getD_getElem?, m]; rfl
    simp [Act.eval, e]
  refine op_call (R := fun v w' => TFv w' (.inl ks) v ∧ Below w.heap.size w w') hop hd hev (just_enters _ w) ((justWords_any _ w _ _ _ rfl).mono ?_) ?_
  · rintro e w' ⟨⟨g2, x, y, gc, rfl, hc⟩, hb⟩
    exact ⟨_, rfl, ⟨g2, x, y, gc, g, _, rfl, hc, hf.kept (kept_below hb)⟩, hb⟩
  · rintro v w' ⟨h1, h2⟩
    exact hK _ _ (ti_put hI hl h2 ht h1)

theorem go_many {d j d0 s0 : Nat} {tys : Array TypeId} (hg : o.guard = none) (hop : o.op = .call { callee := .value (.func 42), args := #[.tmp s0], argTypes := tys }) (hd : o.dst = some j) (ht : (d, j, .inr (.inr (.inr false))) ∈ slotTab) (t0 : (d0, s0, .inl 1) ∈ slotTab) (e0 : waitsOn o d0 = true) : GO W0 b1 b2 b3 b4 Q d o := by
  refine ⟨hg, fun listed a w hl hu hall hI K' hK => ?_⟩
  obtain ⟨v, m, g, x, y, F, u, rfl, hq⟩ := hI.sl _ t0 (dep e0 hall)
  simp only at m
  have hq2 : Value.func F #[] u = .func (.func 60) #[] #[] := hq
  rw [hq2] at m
  have hev : (#[.tmp s0] : Array Operand).map a.eval = #[.agg #[.func g x y, .func (.func 60) #[] #[]]] := by
    have e : a.tmps.getD s0 undef = .agg #[.func g x y, .func (.func 60) #[] #[]] := by rw [Array.getD_eq_getD_getElem?, m]; rfl
    simp [Act.eval, e]
  refine op_call (R := fun v w' => TFv w' (.inr false) v ∧ Below w.heap.size w w') hop hd hev (many_enters _ w) ((manyWords_any w _ _ _ _ _ _ _ rfl).mono ?_) ?_
  · rintro e w' ⟨⟨g2, x2, y2, gc, rfl, hc⟩, hb⟩
    exact ⟨_, rfl, ⟨g2, x2, y2, gc, rfl, hc⟩, hb⟩
  · rintro v w' ⟨h1, h2⟩
    exact hK _ _ (ti_put hI hl h2 ht h1)

theorem go_make (hg : o.guard = none) (hop : o.op = .makeMap 41 none) (hd : o.dst = some 9) : GO W0 b1 b2 b3 b4 Q 0 o :=
  ⟨hg, fun listed a w hl hu hall hI K' hK => op_make hop hd (hK _ _ (ti_make hI hl hu))⟩

theorem go_ins {d d0 s0 : Nat} {x : Int} {F : List Nat ⊕ Bool} (hg : o.guard = none) (hop : o.op = .insert 41 (.tmp 9) (.const (.int .i64 x)) (.tmp s0)) (hd : o.dst = none) (hi : (d, x) ∈ insTab) (hF : (x, F) ∈ formTab) (hw : (Lit.int .i64 x).wf = true) (t0 : (d0, s0, .inr (.inr F)) ∈ slotTab) (e0 : waitsOn o d0 = true) (e9 : waitsOn o 0 = true) : GO W0 b1 b2 b3 b4 Q d o := by
  refine ⟨hg, fun listed a w hl hu hall hI K' hK => ?_⟩
  obtain ⟨v, m, hv⟩ := hI.sl _ t0 (dep e0 hall)
  obtain ⟨r, w', h9, hr, hT⟩ := ti_ins (r := 0) hI hl hu (dep e9 hall) hi hF hw hv
  exact op_insert hop hd h9 m hr (hK _ _ hT)

theorem go_mv (hg : o.guard = none) (hop : o.op = .move (.tmp 9)) (hd : o.dst = some 67) (e0 : waitsOn o 0 = true) : GO W0 b1 b2 b3 b4 Q 72 o := by
  refine ⟨hg, fun listed a w hl hu hall hI K' hK => ?_⟩
  obtain ⟨r, L, m1, _⟩ := hI.mp (dep e0 hall)
  exact op_move (.inl hop) hd m1 (hK _ _ (ti_mv hI hl (dep e0 hall) m1))

theorem go_as (hg : o.guard = none) (hop : o.op = .assign (.tmp 67)) (hd : o.dst = some 0) (e0 : waitsOn o 0 = true) (e72 : waitsOn o 72 = true) : GO W0 b1 b2 b3 b4 Q 73 o := by
  refine ⟨hg, fun listed a w hl hu hall hI K' hK => ?_⟩
  obtain ⟨r, L, m1, _⟩ := hI.mp (dep e0 hall)
  have h67 := hI.mv (dep e72 hall)
  rw [m1] at h67
  exact op_move (.inr hop) hd h67 (hK _ _ (ti_as hI hl (dep e0 hall) m1))

theorem go_slice1 {d j d0 s0 k0 : Nat} (hg : o.guard = none) (hop : o.op = .buildSlice 84 1 #[(0, .tmp s0)]) (hd : o.dst = some j) (ht : (d, j, .inr (.inl [k0])) ∈ slotTab) (t0 : (d0, s0, .inl k0) ∈ slotTab) (e0 : waitsOn o d0 = true) : GO W0 b1 b2 b3 b4 Q d o := by
  refine ⟨hg, fun listed a w hl hu hall hI K' hK => ?_⟩
  obtain ⟨v0, m0, g0, x0, y0, F0, u0, rfl, q0⟩ := hI.sl _ t0 (dep e0 hall)
  refine op_slice1 hop hd m0 (hK _ _ (ti_put hI hl ((Below.refl _ _).alloc (Nat.le_refl _) _) ht ⟨w.heap.size, rfl, ?_⟩))
  intro i K hi
  match i, hi with
  | 0, hi =>
    obtain rfl : K = k0 := by simpa using hi.symm
    exact ⟨g0, x0, y0, .func F0 #[] u0, by rw [World.cell?_alloc_new]; rfl, by rw [World.cell?_alloc_new]; rfl, q0.kept (kept_below ((Below.refl _ _).alloc (Nat.le_refl _) _))⟩
  | i + 1, hi => simp at hi

theorem go_slice2 {d j d0 d1 s0 s1 k0 k1 : Nat} (hg : o.guard = none) (hop : o.op = .buildSlice 84 2 #[(0, .tmp s0), (1, .tmp s1)]) (hd : o.dst = some j) (ht : (d, j, .inr (.inl [k0, k1])) ∈ slotTab) (t0 : (d0, s0, .inl k0) ∈ slotTab) (t1 : (d1, s1, .inl k1) ∈ slotTab) (e0 : waitsOn o d0 = true) (e1 : waitsOn o d1 = true) : GO W0 b1 b2 b3 b4 Q d o := by
  refine ⟨hg, fun listed a w hl hu hall hI K' hK => ?_⟩
  obtain ⟨v0, m0, g0, x0, y0, F0, u0, rfl, q0⟩ := hI.sl _ t0 (dep e0 hall)
  obtain ⟨v1, m1, g1, x1, y1, F1, u1, rfl, q1⟩ := hI.sl _ t1 (dep e1 hall)
  refine op_slice2 hop hd m0 m1 (hK _ _ (ti_put hI hl ((Below.refl _ _).alloc (Nat.le_refl _) _) ht ⟨w.heap.size, rfl, ?_⟩))
  intro i K hi
  match i, hi with
  | 0, hi =>
    obtain rfl : K = k0 := by simpa using hi.symm
    exact ⟨g0, x0, y0, .func F0 #[] u0, by rw [World.cell?_alloc_new]; rfl, by rw [World.cell?_alloc_new]; rfl, q0.kept (kept_below ((Below.refl _ _).alloc (Nat.le_refl _) _))⟩
  | 1, hi =>
    obtain rfl : K = k1 := by simpa using hi.symm
    exact ⟨g1, x1, y1, .func F1 #[] u1, by rw [World.cell?_alloc_new]; rfl, by rw [World.cell?_alloc_new]; rfl, q1.kept (kept_below ((Below.refl _ _).alloc (Nat.le_refl _) _))⟩
  | i + 2, hi => simp at hi

theorem go_slice3 {d j d0 d1 d2 s0 s1 s2 k0 k1 k2 : Nat} (hg : o.guard = none) (hop : o.op = .buildSlice 84 3 #[(0, .tmp s0), (1, .tmp s1), (2, .tmp s2)]) (hd : o.dst = some j) (ht : (d, j, .inr (.inl [k0, k1, k2])) ∈ slotTab) (t0 : (d0, s0, .inl k0) ∈ slotTab) (t1 : (d1, s1, .inl k1) ∈ slotTab) (t2 : (d2, s2, .inl k2) ∈ slotTab) (e0 : waitsOn o d0 = true) (e1 : waitsOn o d1 = true) (e2 : waitsOn o d2 = true) : GO W0 b1 b2 b3 b4 Q d o := by
  refine ⟨hg, fun listed a w hl hu hall hI K' hK => ?_⟩
  obtain ⟨v0, m0, g0, x0, y0, F0, u0, rfl, q0⟩ := hI.sl _ t0 (dep e0 hall)
  obtain ⟨v1, m1, g1, x1, y1, F1, u1, rfl, q1⟩ := hI.sl _ t1 (dep e1 hall)
  obtain ⟨v2, m2, g2, x2, y2, F2, u2, rfl, q2⟩ := hI.sl _ t2 (dep e2 hall)
  refine op_slice3 hop hd m0 m1 m2 (hK _ _ (ti_put hI hl ((Below.refl _ _).alloc (Nat.le_refl _) _) ht ⟨w.heap.size, rfl, ?_⟩))
  intro i K hi
  match i, hi with
  | 0, hi =>
    obtain rfl : K = k0 := by simpa using hi.symm
    exact ⟨g0, x0, y0, .func F0 #[] u0, by rw [World.cell?_alloc_new]; rfl, by rw [World.cell?_alloc_new]; rfl, q0.kept (kept_below ((Below.refl _ _).alloc (Nat.le_refl _) _))⟩
  | 1, hi =>
    obtain rfl : K = k1 := by simpa using hi.symm
    exact ⟨g1, x1, y1, .func F1 #[] u1, by rw [World.cell?_alloc_new]; rfl, by rw [World.cell?_alloc_new]; rfl, q1.kept (kept_below ((Below.refl _ _).alloc (Nat.le_refl _) _))⟩
  | 2, hi =>
    obtain rfl : K = k2 := by simpa using hi.symm
    exact ⟨g2, x2, y2, .func F2 #[] u2, by rw [World.cell?_alloc_new]; rfl, by rw [World.cell?_alloc_new]; rfl, q2.kept (kept_below ((Below.refl _ _).alloc (Nat.le_refl _) _))⟩
  | i + 3, hi => simp at hi

theorem go_slice4 {d j d0 d1 d2 d3 s0 s1 s2 s3 k0 k1 k2 k3 : Nat} (hg : o.guard = none) (hop : o.op = .buildSlice 84 4 #[(0, .tmp s0), (1, .tmp s1), (2, .tmp s2), (3, .tmp s3)]) (hd : o.dst = some j) (ht : (d, j, .inr (.inl [k0, k1, k2, k3])) ∈ slotTab) (t0 : (d0, s0, .inl k0) ∈ slotTab) (t1 : (d1, s1, .inl k1) ∈ slotTab) (t2 : (d2, s2, .inl k2) ∈ slotTab) (t3 : (d3, s3, .inl k3) ∈ slotTab) (e0 : waitsOn o d0 = true) (e1 : waitsOn o d1 = true) (e2 : waitsOn o d2 = true) (e3 : waitsOn o d3 = true) : GO W0 b1 b2 b3 b4 Q d o := by
  refine ⟨hg, fun listed a w hl hu hall hI K' hK => ?_⟩
  obtain ⟨v0, m0, g0, x0, y0, F0, u0, rfl, q0⟩ := hI.sl _ t0 (dep e0 hall)
  obtain ⟨v1, m1, g1, x1, y1, F1, u1, rfl, q1⟩ := hI.sl _ t1 (dep e1 hall)
  obtain ⟨v2, m2, g2, x2, y2, F2, u2, rfl, q2⟩ := hI.sl _ t2 (dep e2 hall)
  obtain ⟨v3, m3, g3, x3, y3, F3, u3, rfl, q3⟩ := hI.sl _ t3 (dep e3 hall)
  refine op_slice4 hop hd m0 m1 m2 m3 (hK _ _ (ti_put hI hl ((Below.refl _ _).alloc (Nat.le_refl _) _) ht ⟨w.heap.size, rfl, ?_⟩))
  intro i K hi
  match i, hi with
  | 0, hi =>
    obtain rfl : K = k0 := by simpa using hi.symm
    exact ⟨g0, x0, y0, .func F0 #[] u0, by rw [World.cell?_alloc_new]; rfl, by rw [World.cell?_alloc_new]; rfl, q0.kept (kept_below ((Below.refl _ _).alloc (Nat.le_refl _) _))⟩
  | 1, hi =>
    obtain rfl : K = k1 := by simpa using hi.symm
    exact ⟨g1, x1, y1, .func F1 #[] u1, by rw [World.cell?_alloc_new]; rfl, by rw [World.cell?_alloc_new]; rfl, q1.kept (kept_below ((Below.refl _ _).alloc (Nat.le_refl _) _))⟩
  | 2, hi =>
    obtain rfl : K = k2 := by simpa using hi.symm
    exact ⟨g2, x2, y2, .func F2 #[] u2, by rw [World.cell?_alloc_new]; rfl, by rw [World.cell?_alloc_new]; rfl, q2.kept (kept_below ((Below.refl _ _).alloc (Nat.le_refl _) _))⟩
  | 3, hi =>
    obtain rfl : K = k3 := by simpa using hi.symm
    exact ⟨g3, x3, y3, .func F3 #[] u3, by rw [World.cell?_alloc_new]; rfl, by rw [World.cell?_alloc_new]; rfl, q3.kept (kept_below ((Below.refl _ _).alloc (Nat.le_refl _) _))⟩
  | i + 4, hi => simp at hi

theorem go_slice6 {d j d0 d1 d2 d3 d4 d5 s0 s1 s2 s3 s4 s5 k0 k1 k2 k3 k4 k5 : Nat} (hg : o.guard = none) (hop : o.op = .buildSlice 84 6 #[(0, .tmp s0), (1, .tmp s1), (2, .tmp s2), (3, .tmp s3), (4, .tmp s4), (5, .tmp s5)]) (hd : o.dst = some j) (ht : (d, j, .inr (.inl [k0, k1, k2, k3, k4, k5])) ∈ slotTab) (t0 : (d0, s0, .inl k0) ∈ slotTab) (t1 : (d1, s1, .inl k1) ∈ slotTab) (t2 : (d2, s2, .inl k2) ∈ slotTab) (t3 : (d3, s3, .inl k3) ∈ slotTab) (t4 : (d4, s4, .inl k4) ∈ slotTab) (t5 : (d5, s5, .inl k5) ∈ slotTab) (e0 : waitsOn o d0 = true) (e1 : waitsOn o d1 = true) (e2 : waitsOn o d2 = true) (e3 : waitsOn o d3 = true) (e4 : waitsOn o d4 = true) (e5 : waitsOn o d5 = true) : GO W0 b1 b2 b3 b4 Q d o := by
  refine ⟨hg, fun listed a w hl hu hall hI K' hK => ?_⟩
  obtain ⟨v0, m0, g0, x0, y0, F0, u0, rfl, q0⟩ := hI.sl _ t0 (dep e0 hall)
  obtain ⟨v1, m1, g1, x1, y1, F1, u1, rfl, q1⟩ := hI.sl _ t1 (dep e1 hall)
  obtain ⟨v2, m2, g2, x2, y2, F2, u2, rfl, q2⟩ := hI.sl _ t2 (dep e2 hall)
  obtain ⟨v3, m3, g3, x3, y3, F3, u3, rfl, q3⟩ := hI.sl _ t3 (dep e3 hall)
  obtain ⟨v4, m4, g4, x4, y4, F4, u4, rfl, q4⟩ := hI.sl _ t4 (dep e4 hall)
  obtain ⟨v5, m5, g5, x5, y5, F5, u5, rfl, q5⟩ := hI.sl _ t5 (dep e5 hall)
  refine op_slice6 hop hd m0 m1 m2 m3 m4 m5 (hK _ _ (ti_put hI hl ((Below.refl _ _).alloc (Nat.le_refl _) _) ht ⟨w.heap.size, rfl, ?_⟩))
  intro i K hi
  match i, hi with
  | 0, hi =>
    obtain rfl : K = k0 := by simpa using hi.symm
    exact ⟨g0, x0, y0, .func F0 #[] u0, by rw [World.cell?_alloc_new]; rfl, by rw [World.cell?_alloc_new]; rfl, q0.kept (kept_below ((Below.refl _ _).alloc (Nat.le_refl _) _))⟩
  | 1, hi =>
    obtain rfl : K = k1 := by simpa using hi.symm
    exact ⟨g1, x1, y1, .func F1 #[] u1, by rw [World.cell?_alloc_new]; rfl, by rw [World.cell?_alloc_new]; rfl, q1.kept (kept_below ((Below.refl _ _).alloc (Nat.le_refl _) _))⟩
  | 2, hi =>
    obtain rfl : K = k2 := by simpa using hi.symm
    exact ⟨g2, x2, y2, .func F2 #[] u2, by rw [World.cell?_alloc_new]; rfl, by rw [World.cell?_alloc_new]; rfl, q2.kept (kept_below ((Below.refl _ _).alloc (Nat.le_refl _) _))⟩
  | 3, hi =>
    obtain rfl : K = k3 := by simpa using hi.symm
    exact ⟨g3, x3, y3, .func F3 #[] u3, by rw [World.cell?_alloc_new]; rfl, by rw [World.cell?_alloc_new]; rfl, q3.kept (kept_below ((Below.refl _ _).alloc (Nat.le_refl _) _))⟩
  | 4, hi =>
    obtain rfl : K = k4 := by simpa using hi.symm
    exact ⟨g4, x4, y4, .func F4 #[] u4, by rw [World.cell?_alloc_new]; rfl, by rw [World.cell?_alloc_new]; rfl, q4.kept (kept_below ((Below.refl _ _).alloc (Nat.le_refl _) _))⟩
  | 5, hi =>
    obtain rfl : K = k5 := by simpa using hi.symm
    exact ⟨g5, x5, y5, .func F5 #[] u5, by rw [World.cell?_alloc_new]; rfl, by rw [World.cell?_alloc_new]; rfl, q5.kept (kept_below ((Below.refl _ _).alloc (Nat.le_refl _) _))⟩
  | i + 6, hi => simp at hi

theorem go_slice7 {d j d0 d1 d2 d3 d4 d5 d6 s0 s1 s2 s3 s4 s5 s6 k0 k1 k2 k3 k4 k5 k6 : Nat} (hg : o.guard = none) (hop : o.op = .buildSlice 84 7 #[(0, .tmp s0), (1, .tmp s1), (2, .tmp s2), (3, .tmp s3), (4, .tmp s4), (5, .tmp s5), (6, .tmp s6)]) (hd : o.dst = some j) (ht : (d, j, .inr (.inl [k0, k1, k2, k3, k4, k5, k6])) ∈ slotTab) (t0 : (d0, s0, .inl k0) ∈ slotTab) (t1 : (d1, s1, .inl k1) ∈ slotTab) (t2 : (d2, s2, .inl k2) ∈ slotTab) (t3 : (d3, s3, .inl k3) ∈ slotTab) (t4 : (d4, s4, .inl k4) ∈ slotTab) (t5 : (d5, s5, .inl k5) ∈ slotTab) (t6 : (d6, s6, .inl k6) ∈ slotTab) (e0 : waitsOn o d0 = true) (e1 : waitsOn o d1 = true) (e2 : waitsOn o d2 = true) (e3 : waitsOn o d3 = true) (e4 : waitsOn o d4 = true) (e5 : waitsOn o d5 = true) (e6 : waitsOn o d6 = true) : GO W0 b1 b2 b3 b4 Q d o := by
  refine ⟨hg, fun listed a w hl hu hall hI K' hK => ?_⟩
  obtain ⟨v0, m0, g0, x0, y0, F0, u0, rfl, q0⟩ := hI.sl _ t0 (dep e0 hall)
  obtain ⟨v1, m1, g1, x1, y1, F1, u1, rfl, q1⟩ := hI.sl _ t1 (dep e1 hall)
  obtain ⟨v2, m2, g2, x2, y2, F2, u2, rfl, q2⟩ := hI.sl _ t2 (dep e2 hall)
  obtain ⟨v3, m3, g3, x3, y3, F3, u3, rfl, q3⟩ := hI.sl _ t3 (dep e3 hall)
  obtain ⟨v4, m4, g4, x4, y4, F4, u4, rfl, q4⟩ := hI.sl _ t4 (dep e4 hall)
  obtain ⟨v5, m5, g5, x5, y5, F5, u5, rfl, q5⟩ := hI.sl _ t5 (dep e5 hall)
  obtain ⟨v6, m6, g6, x6, y6, F6, u6, rfl, q6⟩ := hI.sl _ t6 (dep e6 hall)
  refine op_slice7 hop hd m0 m1 m2 m3 m4 m5 m6 (hK _ _ (ti_put hI hl ((Below.refl _ _).alloc (Nat.le_refl _) _) ht ⟨w.heap.size, rfl, ?_⟩))
  intro i K hi
  match i, hi with
  | 0, hi =>
    obtain rfl : K = k0 := by simpa using hi.symm
    exact ⟨g0, x0, y0, .func F0 #[] u0, by rw [World.cell?_alloc_new]; rfl, by rw [World.cell?_alloc_new]; rfl, q0.kept (kept_below ((Below.refl _ _).alloc (Nat.le_refl _) _))⟩
  | 1, hi =>
    obtain rfl : K = k1 := by simpa using hi.symm
    exact ⟨g1, x1, y1, .func F1 #[] u1, by rw [World.cell?_alloc_new]; rfl, by rw [World.cell?_alloc_new]; rfl, q1.kept (kept_below ((Below.refl _ _).alloc (Nat.le_refl _) _))⟩
  | 2, hi =>
    obtain rfl : K = k2 := by simpa using hi.symm
    exact ⟨g2, x2, y2, .func F2 #[] u2, by rw [World.cell?_alloc_new]; rfl, by rw [World.cell?_alloc_new]; rfl, q2.kept (kept_below ((Below.refl _ _).alloc (Nat.le_refl _) _))⟩
  | 3, hi =>
    obtain rfl : K = k3 := by simpa using hi.symm
    exact ⟨g3, x3, y3, .func F3 #[] u3, by rw [World.cell?_alloc_new]; rfl, by rw [World.cell?_alloc_new]; rfl, q3.kept (kept_below ((Below.refl _ _).alloc (Nat.le_refl _) _))⟩
  | 4, hi =>
    obtain rfl : K = k4 := by simpa using hi.symm
    exact ⟨g4, x4, y4, .func F4 #[] u4, by rw [World.cell?_alloc_new]; rfl, by rw [World.cell?_alloc_new]; rfl, q4.kept (kept_below ((Below.refl _ _).alloc (Nat.le_refl _) _))⟩
  | 5, hi =>
    obtain rfl : K = k5 := by simpa using hi.symm
    exact ⟨g5, x5, y5, .func F5 #[] u5, by rw [World.cell?_alloc_new]; rfl, by rw [World.cell?_alloc_new]; rfl, q5.kept (kept_below ((Below.refl _ _).alloc (Nat.le_refl _) _))⟩
  | 6, hi =>
    obtain rfl : K = k6 := by simpa using hi.symm
    exact ⟨g6, x6, y6, .func F6 #[] u6, by rw [World.cell?_alloc_new]; rfl, by rw [World.cell?_alloc_new]; rfl, q6.kept (kept_below ((Below.refl _ _).alloc (Nat.le_refl _) _))⟩
  | i + 7, hi => simp at hi
end
end Go.Proofs.YtephbegencpllaaGreatDoor
