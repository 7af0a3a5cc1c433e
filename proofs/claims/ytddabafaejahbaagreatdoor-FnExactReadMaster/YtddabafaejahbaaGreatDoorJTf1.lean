import Derived.Test.YtddabafaejahbaaGreatDoorJRv3
import Derived.Laws.EntriesVeiled
import Derived.Test.YtddabafaejahbaaGreatDoorJSCheck
import Derived.Test.YtddabafaejahbaaGreatDoorJTxt8
import Derived.Test.YtddabafaejahbaaGreatDoorJOwnT
import Derived.Test.YtddabafaejahbaaGreatDoorJMath
/- The operations of textForms' map literal, each by itself. -/
namespace Go.Proofs.YtddabafaejahbaaGreatDoor
open Go.RowKit
set_option linter.unusedVariables false
section
variable {o : Oper} {a : Act} {w : World} {K : Act → World → Prop} {Q : Exit → Act → World → Prop}
theorem op_load {t j b : Nat} {g F : Fn} {x y u : Array Value} (hop : o.op = .load 113 (.tmp t)) (hd : o.dst = some j) (ht : a.tmps[t]? = some (.pointer (some ⟨b, 0, none⟩)))
 (h0 : w.cell? ⟨b, 0, none⟩ = some (.func g x y)) (h1 : w.cell? ⟨b, 1, none⟩ = some (.func F #[] u)) (hK : K (a.put (some j) (.agg #[.func g x y, .func F #[] u])) w) : Oper.wp Tryz.prog o a w K Q := by
 have ht2 : a.tmps.getD t undef = .pointer (some ⟨b, 0, none⟩) := by rw [Array.getD_eq_getD_getElem?, ht]; rfl
 obtain ⟨dst, op, ty, pos, after, guard⟩ := o; simp only at hop hd
 subst hop hd; unfold Oper.wp execOp; simp [go_sem, ht2, h0, h1, Result.andThen]
 exact hK
set_option maxRecDepth 100000 in
theorem op_slice1 {j s0 : Nat} {g0 F0 : Fn} {x0 y0 u0 : Array Value} (hop : o.op = .buildSlice 155 1 #[(0, .tmp s0)]) (hd : o.dst = some j) (h0 : a.tmps[s0]? = some (.agg #[.func g0 x0 y0, .func F0 #[] u0]))
 (hK : K (a.put (some j) (.slice (some ⟨w.heap.size, 0, none⟩) 1 1)) (w.alloc (.cells #[.func g0 x0 y0, .func F0 #[] u0] 113))) : Oper.wp Tryz.prog o a w K Q := by
 obtain ⟨dst, op, ty, pos, after, guard⟩ := o; simp only at hop hd
 subst hop hd; unfold Oper.wp execOp; simp [go_sem, h0, Result.andThen]
 exact hK
set_option maxRecDepth 100000 in
theorem op_slice2 {j s0 s1 : Nat} {g0 F0 g1 F1 : Fn} {x0 y0 u0 x1 y1 u1 : Array Value} (hop : o.op = .buildSlice 155 2 #[(0, .tmp s0), (1, .tmp s1)]) (hd : o.dst = some j) (h0 : a.tmps[s0]? = some (.agg #[.func g0 x0 y0, .func F0 #[] u0])) (h1 : a.tmps[s1]? = some (.agg #[.func g1 x1 y1, .func F1 #[] u1]))
 (hK : K (a.put (some j) (.slice (some ⟨w.heap.size, 0, none⟩) 2 2)) (w.alloc (.cells #[.func g0 x0 y0, .func F0 #[] u0, .func g1 x1 y1, .func F1 #[] u1] 113))) : Oper.wp Tryz.prog o a w K Q := by
 obtain ⟨dst, op, ty, pos, after, guard⟩ := o; simp only at hop hd
 subst hop hd; unfold Oper.wp execOp; simp [go_sem, h0, h1, Result.andThen]
 exact hK
set_option maxRecDepth 100000 in
theorem op_slice3 {j s0 s1 s2 : Nat} {g0 F0 g1 F1 g2 F2 : Fn} {x0 y0 u0 x1 y1 u1 x2 y2 u2 : Array Value} (hop : o.op = .buildSlice 155 3 #[(0, .tmp s0), (1, .tmp s1), (2, .tmp s2)]) (hd : o.dst = some j) (h0 : a.tmps[s0]? = some (.agg #[.func g0 x0 y0, .func F0 #[] u0])) (h1 : a.tmps[s1]? = some (.agg #[.func g1 x1 y1, .func F1 #[] u1])) (h2 : a.tmps[s2]? = some (.agg #[.func g2 x2 y2, .func F2 #[] u2]))
 (hK : K (a.put (some j) (.slice (some ⟨w.heap.size, 0, none⟩) 3 3)) (w.alloc (.cells #[.func g0 x0 y0, .func F0 #[] u0, .func g1 x1 y1, .func F1 #[] u1, .func g2 x2 y2, .func F2 #[] u2] 113))) : Oper.wp Tryz.prog o a w K Q := by
 obtain ⟨dst, op, ty, pos, after, guard⟩ := o; simp only at hop hd
 subst hop hd; unfold Oper.wp execOp; simp [go_sem, h0, h1, h2, Result.andThen]
 exact hK
set_option maxRecDepth 100000 in
theorem op_slice4 {j s0 s1 s2 s3 : Nat} {g0 F0 g1 F1 g2 F2 g3 F3 : Fn} {x0 y0 u0 x1 y1 u1 x2 y2 u2 x3 y3 u3 : Array Value} (hop : o.op = .buildSlice 155 4 #[(0, .tmp s0), (1, .tmp s1), (2, .tmp s2), (3, .tmp s3)]) (hd : o.dst = some j) (h0 : a.tmps[s0]? = some (.agg #[.func g0 x0 y0, .func F0 #[] u0])) (h1 : a.tmps[s1]? = some (.agg #[.func g1 x1 y1, .func F1 #[] u1])) (h2 : a.tmps[s2]? = some (.agg #[.func g2 x2 y2, .func F2 #[] u2])) (h3 : a.tmps[s3]? = some (.agg #[.func g3 x3 y3, .func F3 #[] u3]))
 (hK : K (a.put (some j) (.slice (some ⟨w.heap.size, 0, none⟩) 4 4)) (w.alloc (.cells #[.func g0 x0 y0, .func F0 #[] u0, .func g1 x1 y1, .func F1 #[] u1, .func g2 x2 y2, .func F2 #[] u2, .func g3 x3 y3, .func F3 #[] u3] 113))) : Oper.wp Tryz.prog o a w K Q := by
 obtain ⟨dst, op, ty, pos, after, guard⟩ := o; simp only at hop hd
 subst hop hd; unfold Oper.wp execOp; simp [go_sem, h0, h1, h2, h3, Result.andThen]
 exact hK
set_option maxRecDepth 100000 in
theorem op_slice6 {j s0 s1 s2 s3 s4 s5 : Nat} {g0 F0 g1 F1 g2 F2 g3 F3 g4 F4 g5 F5 : Fn} {x0 y0 u0 x1 y1 u1 x2 y2 u2 x3 y3 u3 x4 y4 u4 x5 y5 u5 : Array Value} (hop : o.op = .buildSlice 155 6 #[(0, .tmp s0), (1, .tmp s1), (2, .tmp s2), (3, .tmp s3), (4, .tmp s4), (5, .tmp s5)]) (hd : o.dst = some j) (h0 : a.tmps[s0]? = some (.agg #[.func g0 x0 y0, .func F0 #[] u0])) (h1 : a.tmps[s1]? = some (.agg #[.func g1 x1 y1, .func F1 #[] u1])) (h2 : a.tmps[s2]? = some (.agg #[.func g2 x2 y2, .func F2 #[] u2])) (h3 : a.tmps[s3]? = some (.agg #[.func g3 x3 y3, .func F3 #[] u3])) (h4 : a.tmps[s4]? = some (.agg #[.func g4 x4 y4, .func F4 #[] u4])) (h5 : a.tmps[s5]? = some (.agg #[.func g5 x5 y5, .func F5 #[] u5]))
 (hK : K (a.put (some j) (.slice (some ⟨w.heap.size, 0, none⟩) 6 6)) (w.alloc (.cells #[.func g0 x0 y0, .func F0 #[] u0, .func g1 x1 y1, .func F1 #[] u1, .func g2 x2 y2, .func F2 #[] u2, .func g3 x3 y3, .func F3 #[] u3, .func g4 x4 y4, .func F4 #[] u4, .func g5 x5 y5, .func F5 #[] u5] 113))) : Oper.wp Tryz.prog o a w K Q := by
 obtain ⟨dst, op, ty, pos, after, guard⟩ := o; simp only at hop hd
 subst hop hd; unfold Oper.wp execOp; simp [go_sem, h0, h1, h2, h3, h4, h5, Result.andThen]
 exact hK
set_option maxRecDepth 100000 in
theorem op_slice7 {j s0 s1 s2 s3 s4 s5 s6 : Nat} {g0 F0 g1 F1 g2 F2 g3 F3 g4 F4 g5 F5 g6 F6 : Fn} {x0 y0 u0 x1 y1 u1 x2 y2 u2 x3 y3 u3 x4 y4 u4 x5 y5 u5 x6 y6 u6 : Array Value} (hop : o.op = .buildSlice 155 7 #[(0, .tmp s0), (1, .tmp s1), (2, .tmp s2), (3, .tmp s3), (4, .tmp s4), (5, .tmp s5), (6, .tmp s6)]) (hd : o.dst = some j) (h0 : a.tmps[s0]? = some (.agg #[.func g0 x0 y0, .func F0 #[] u0])) (h1 : a.tmps[s1]? = some (.agg #[.func g1 x1 y1, .func F1 #[] u1])) (h2 : a.tmps[s2]? = some (.agg #[.func g2 x2 y2, .func F2 #[] u2])) (h3 : a.tmps[s3]? = some (.agg #[.func g3 x3 y3, .func F3 #[] u3])) (h4 : a.tmps[s4]? = some (.agg #[.func g4 x4 y4, .func F4 #[] u4])) (h5 : a.tmps[s5]? = some (.agg #[.func g5 x5 y5, .func F5 #[] u5])) (h6 : a.tmps[s6]? = some (.agg #[.func g6 x6 y6, .func F6 #[] u6]))
 (hK : K (a.put (some j) (.slice (some ⟨w.heap.size, 0, none⟩) 7 7)) (w.alloc (.cells #[.func g0 x0 y0, .func F0 #[] u0, .func g1 x1 y1, .func F1 #[] u1, .func g2 x2 y2, .func F2 #[] u2, .func g3 x3 y3, .func F3 #[] u3, .func g4 x4 y4, .func F4 #[] u4, .func g5 x5 y5, .func F5 #[] u5, .func g6 x6 y6, .func F6 #[] u6] 113))) : Oper.wp Tryz.prog o a w K Q := by
 obtain ⟨dst, op, ty, pos, after, guard⟩ := o; simp only at hop hd
 subst hop hd; unfold Oper.wp execOp; simp [go_sem, h0, h1, h2, h3, h4, h5, h6, Result.andThen]
 exact hK
theorem op_call {j F : Nat} {args : Array Operand} {tys : Array TypeId} {vs : Array Value} {R : Value → World → Prop} (hop : o.op = .call { callee := .value (.func F), args := args, argTypes := tys }) (hd : o.dst = some j) (hev : args.map a.eval = vs)
 (hent : (callFunc F vs).run Tryz.prog w = .ok (.enter F vs) w) (hc : Calls Tryz.prog F vs w fun e w' => ∃ v, e = .returned v ∧ R v w') (hK : ∀ v w', R v w' → K (a.put (some j) v) w') : Oper.wp Tryz.prog o a w K Q := by
 obtain ⟨dst, op, ty, pos, after, guard⟩ := o; simp only at hop hd
 subst hop hd; unfold Oper.wp execOp; simp only [go_sem, resolve, invoke, Sem.run_bind, Sem.run_pure, Result.andThen_ok]; rw [hev]; have e : (#[] ++ vs ++ #[] : Array Value) = vs := by simp
 rw [e, hent, Oper.upon_enter]; refine hc.mono ?_; rintro e w' ⟨v, rfl, hr⟩; exact hK v w' hr
theorem op_make {j : Nat} (hop : o.op = .makeMap 55 none) (hd : o.dst = some j) (hK : K (a.put (some j) (.map (some w.heap.size))) (w.alloc (.map #[] 0))) : Oper.wp Tryz.prog o a w K Q := by
 obtain ⟨dst, op, ty, pos, after, guard⟩ := o; simp only at hop hd
 subst hop hd; unfold Oper.wp execOp; simp [go_sem, Instr.makeMap, Result.andThen]
 exact hK
theorem op_move {j s : Nat} {v : Value} (hop : o.op = .move (.tmp s) ∨ o.op = .assign (.tmp s)) (hd : o.dst = some j) (hs : a.tmps[s]? = some v) (hK : K (a.put (some j) v) w) : Oper.wp Tryz.prog o a w K Q := by
 have e : a.tmps.getD s undef = v := by rw [Array.getD_eq_getD_getElem?, hs]; rfl
 obtain ⟨dst, op, ty, pos, after, guard⟩ := o; simp only at hop hd
 subst hd
 rcases hop with rfl | rfl
 · unfold Oper.wp execOp; simp [go_sem, e]
   exact hK
 · unfold Oper.wp execOp; simp [go_sem, e]
   exact hK
theorem op_insert {s r : Nat} {x : Int} {v : Value} {w' : World} (hop : o.op = .insert 55 (.tmp 9) (.const (.int .i64 x)) (.tmp s)) (hd : o.dst = none) (h9 : a.tmps[9]? = some (.map (some r))) (hs : a.tmps[s]? = some v)
 (hr : (Instr.mapUpdate 55 (.map (some r)) (.int .i64 x) v).run Tryz.prog w = .ok () w') (hK : K a w') : Oper.wp Tryz.prog o a w K Q := by
 have e9 : a.tmps.getD 9 undef = .map (some r) := by rw [Array.getD_eq_getD_getElem?, h9]; rfl
 have e : a.tmps.getD s undef = v := by rw [Array.getD_eq_getD_getElem?, hs]; rfl
 obtain ⟨dst, op, ty, pos, after, guard⟩ := o; simp only at hop hd
 subst hop hd; unfold Oper.wp execOp; simp [go_sem, e9, e, hr, Result.andThen, Act.put]
 exact hK
end
/-- Which operation leaves what in which slot. -/
def slotTabR : List (Nat × Nat × SkR) := [(1, 10, .inl 4), (2, 11, .inr (.inl [4])), (3, 12, .inr (.inr (.inl [4]))), (5, 13, .inl 5), (6, 14, .inr (.inl [5])), (7, 15, .inr (.inr (.inl [5]))), (9, 16, .inl 0), (10, 17, .inr (.inl [0])), (11, 18, .inr (.inr (.inl [0]))), (13, 19, .inl 0), (14, 20, .inr (.inl [0])), (15, 21, .inr (.inr (.inl [0]))), (17, 22, .inl 0), (18, 23, .inr (.inl [0])), (19, 24, .inr (.inr (.inl [0]))), (21, 25, .inl 0), (22, 26, .inr (.inl [0])), (23, 27, .inr (.inr (.inl [0]))), (25, 28, .inl 9), (26, 29, .inl 0), (27, 30, .inr (.inl [9, 0])), (28, 31, .inr (.inr (.inl [9, 0]))), (30, 32, .inl 0), (31, 33, .inl 0), (32, 34, .inl 11), (33, 35, .inl 6), (34, 36, .inl 6), (35, 37, .inl 6), (36, 38, .inl 6), (37, 39, .inr (.inl [0, 0, 11, 6, 6, 6, 6])), (38, 40, .inr (.inr (.inl [0, 0, 11, 6, 6, 6, 6]))), (40, 41, .inl 9), (41, 42, .inl 9), (42, 43, .inl 9), (43, 44, .inl 0), (44, 45, .inr (.inl [9, 9, 9, 0])), (45, 46, .inr (.inr (.inl [9, 9, 9, 0]))), (47, 47, .inl 1), (48, 48, .inr (.inr (.inr false))), (50, 49, .inl 1), (51, 50, .inl 1), (52, 51, .inr (.inl [1, 1])), (53, 52, .inr (.inr (.inl [1, 1]))), (55, 53, .inl 9), (56, 54, .inl 9), (57, 55, .inl 1), (58, 56, .inl 1), (59, 57, .inl 1), (60, 58, .inl 0), (61, 59, .inr (.inl [9, 9, 1, 1, 1, 0])), (62, 60, .inr (.inr (.inl [9, 9, 1, 1, 1, 0]))), (64, 61, .inl 8), (65, 62, .inl 2), (66, 63, .inl 3), (67, 64, .inr (.inl [8, 2, 3])), (68, 65, .inr (.inr (.inl [8, 2, 3]))), (70, 66, .inr (.inr (.inr true)))]
/-- Which operation lays which key into the map. -/
def insTabR : List (Nat × Int) := [(4, 1), (8, 28), (12, 2), (16, 5), (20, 12), (24, 39), (29, 15), (39, 6), (46, 33), (49, 16), (54, 13), (63, 35), (69, 257), (71, 47)]
def slotFineR : Bool := slotTabR.all fun x => decide (1 ≤ x.1) && decide (x.1 ≤ 70) && decide (10 ≤ x.2.1) && decide (x.2.1 ≤ 66) && (slotTabR.all fun y => (!(x.1 == y.1) || decide (x = y)) && (!(x.2.1 == y.2.1) || x.1 == y.1)) && (insTabR.all fun y => !(y.1 == x.1))
theorem slot_fineR : slotFineR = true := by decide +kernel
def insFineR : Bool := insTabR.all fun x => decide (1 ≤ x.1) && decide (x.1 ≤ 71) && (insTabR.all fun y => (x.1 == y.1) == (x.2 == y.2))
theorem ins_fineR : insFineR = true := by decide +kernel
theorem slot_factsR {x : Nat × Nat × SkR} (h : x ∈ slotTabR) : 1 ≤ x.1 ∧ x.1 ≤ 70 ∧ 10 ≤ x.2.1 ∧ x.2.1 ≤ 66 ∧ (∀ y ∈ slotTabR, (x.1 = y.1 → x = y) ∧ (x.2.1 = y.2.1 → x.1 = y.1)) ∧ ∀ y ∈ insTabR, y.1 ≠ x.1 := by
 have h1 := List.all_eq_true.1 slot_fineR x h; simp only [Bool.and_eq_true, decide_eq_true_eq, List.all_eq_true] at h1; obtain ⟨⟨⟨⟨⟨a1, a2⟩, a3⟩, a4⟩, a5⟩, a6⟩ := h1; refine ⟨a1, a2, a3, a4, fun y hy => ?_, fun y hy e => ?_⟩
 · have := a5 y hy; simp only [Bool.or_eq_true, Bool.not_eq_true', beq_eq_false_iff_ne, beq_iff_eq, decide_eq_true_eq] at this; exact ⟨fun e => this.1.resolve_left (fun n => n e), fun e => this.2.resolve_left (fun n => n e)⟩
 · have := a6 y hy; simp [e] at this
theorem ins_factsR {x : Nat × Int} (h : x ∈ insTabR) : 1 ≤ x.1 ∧ x.1 ≤ 71 ∧ ∀ y ∈ insTabR, (x.1 = y.1 ↔ x.2 = y.2) := by
 have h1 := List.all_eq_true.1 ins_fineR x h; simp only [Bool.and_eq_true, decide_eq_true_eq, List.all_eq_true] at h1; obtain ⟨⟨a1, a2⟩, a3⟩ := h1; refine ⟨a1, a2, fun y hy => ?_⟩; have := a3 y hy; simp only [beq_iff_eq] at this; constructor
 · intro e; have h2 : (x.1 == y.1) = true := by simp [e]
   rw [h2] at this; simpa using this.symm
 · intro e; have h2 : (x.2 == y.2) = true := by simp [e]
   rw [h2] at this; simpa using this
/-- What holds while the operations come up. -/
structure TIR (W0 : World) (b1 b2 b3 b4 : Nat) (listed : Array Bool) (a : Act) (w : World) : Prop where
 sz : a.tmps.size = 68
 df : a.defers = []
 p1 : a.tmps[1]? = some (.pointer (some ⟨b1, 0, none⟩))
 p2 : a.tmps[2]? = some (.pointer (some ⟨b2, 0, none⟩))
 p3 : a.tmps[3]? = some (.pointer (some ⟨b3, 0, none⟩))
 p4 : a.tmps[4]? = some (.pointer (some ⟨b4, 0, none⟩))
 be : Below W0.heap.size W0 w
 sl : ∀ x ∈ slotTabR, listed.getD x.1 false = true → ∃ v, a.tmps[x.2.1]? = some v ∧ SVr w x.2.2 v
 mp : listed.getD 0 false = true → ∃ r L, a.tmps[9]? = some (.map (some r)) ∧ W0.heap.size ≤ r ∧ IMap w r L ∧ (∀ p ∈ L, ∃ F, (p.1, F) ∈ formTabR ∧ TFr w F p.2) ∧ (∀ x ∈ insTabR, (∃ v, (x.2, v) ∈ L) ↔ listed.getD x.1 false = true)
 dn : ∀ d, ((∃ x, (d, x) ∈ insTabR) ∨ d = 72 ∨ d = 73) → listed.getD d false = true → listed.getD 0 false = true
 mv : listed.getD 72 false = true → a.tmps[67]? = a.tmps[9]?
 asg : listed.getD 73 false = true → a.tmps[0]? = a.tmps[9]?
theorem gsetR {listed : Array Bool} {d x : Nat} (hd : d < listed.size) : (listed.setIfInBounds d true).getD x false = true ↔ x = d ∨ listed.getD x false = true := by
 rw [Array.getD_eq_getD_getElem?, Array.getD_eq_getD_getElem?, Array.getElem?_setIfInBounds]
 by_cases e : d = x
 · subst e; simp [hd]
 · rw [if_neg e]; constructor
   · exact fun h => .inr h
   · rintro (h | h)
     · exact absurd h.symm e
     · exact h
theorem put_getR {a : Act} {j i : Nat} {v : Value} (hj : j < a.tmps.size) : (a.put (some j) v).tmps[i]? = if j = i then some v else a.tmps[i]? := by
 show (a.tmps.setIfInBounds j v)[i]? = _
 rw [Array.getElem?_setIfInBounds]
 by_cases e : j = i
 · subst e; simp [hj]
 · rw [if_neg e, if_neg e]
section
variable {b1 b2 b3 b4 : Nat} {W0 : World} {listed : Array Bool} {a : Act} {w w' : World}
theorem ti_putR {d j : Nat} {s : SkR} {v : Value} (h : TIR W0 b1 b2 b3 b4 listed a w) (hl : listed.size = 74) (hb : Below w.heap.size w w') (ht : (d, j, s) ∈ slotTabR) (hv : SVr w' s v) : TIR W0 b1 b2 b3 b4 (listed.setIfInBounds d true) (a.put (some j) v) w' := by
 obtain ⟨f1, f2, f3, f4, f5, f6⟩ := slot_factsR ht; simp only at f1 f2 f3 f4 f5 f6
 have hj : j < a.tmps.size := by rw [h.sz]; omega
 have hd : d < listed.size := by omega
 have hk := keptR_below hb; have far : ∀ i, j ≠ i → (a.put (some j) v).tmps[i]? = a.tmps[i]? := fun i hi => by rw [put_getR hj, if_neg hi]
 refine ⟨by show (a.tmps.setIfInBounds j v).size = 68; simpa using h.sz, h.df, by rw [far 1 (by omega)]; exact h.p1, by rw [far 2 (by omega)]; exact h.p2, by rw [far 3 (by omega)]; exact h.p3, by rw [far 4 (by omega)]; exact h.p4, h.be.trans (hb.mono h.be.size), ?_, ?_, ?_, ?_, ?_⟩
 · intro x hx hlx
   rcases (gsetR hd).1 hlx with e | e
   · have := (f5 x hx).1 e.symm; subst this; exact ⟨v, by rw [put_getR hj, if_pos rfl], hv⟩
   · obtain ⟨v', hv1, hv2⟩ := h.sl x hx e
     by_cases e2 : d = x.1
     · have := (f5 x hx).1 e2; subst this; exact ⟨v, by rw [put_getR hj, if_pos rfl], hv⟩
     · refine ⟨v', ?_, hv2.kept hk⟩; rw [far _ (fun e3 => e2 ((f5 x hx).2 e3))]; exact hv1
 · intro h0
   rcases (gsetR hd).1 h0 with e | e
   · omega
   · obtain ⟨r, L, m1, m2, m3, m4, m5⟩ := h.mp e; refine ⟨r, L, by rw [far 9 (by omega)]; exact m1, m2, m3.kept (hb.block r m3.lt), fun p hp => ?_, fun x hx => ?_⟩
     · obtain ⟨F, q1, q2⟩ := m4 p hp; exact ⟨F, q1, q2.kept hk⟩
     · rw [m5 x hx, gsetR hd]; have := f6 x hx; constructor
       · exact fun h => .inr h
       · rintro (h | h)
         · exact absurd h this
         · exact h
 · intro y hy hly
   rcases (gsetR hd).1 hly with e | e
   · rcases hy with ⟨x, hx⟩ | rfl | rfl
     · exact absurd e (f6 _ hx)
     · omega
     · omega
   · exact (gsetR hd).2 (.inr (h.dn y hy e))
 · intro h0
   rcases (gsetR hd).1 h0 with e | e
   · omega
   · rw [far 67 (by omega), far 9 (by omega)]; exact h.mv e
 · intro h0
   rcases (gsetR hd).1 h0 with e | e
   · omega
   · rw [far 0 (by omega), far 9 (by omega)]; exact h.asg e
theorem ti_insR {d r : Nat} {x : Int} {v : Value} {F : List Nat ⊕ Bool} (h : TIR W0 b1 b2 b3 b4 listed a w) (hl : listed.size = 74) (hu : listed.getD d true = false) (h0 : listed.getD 0 false = true) (hi : (d, x) ∈ insTabR) (hF : (x, F) ∈ formTabR) (hw : (Lit.int .i64 x).wf = true) (hv : TFr w F v) :
 ∃ r w', a.tmps[9]? = some (.map (some r)) ∧ (Instr.mapUpdate 55 (.map (some r)) (.int .i64 x) v).run Tryz.prog w = .ok () w' ∧ TIR W0 b1 b2 b3 b4 (listed.setIfInBounds d true) a w' := by
 obtain ⟨f1, f2, f3⟩ := ins_factsR hi; simp only at f1 f2 f3
 have hd : d < listed.size := by omega
 have hud : ¬ listed.getD d false = true := by
  rw [Array.getD_eq_getD_getElem?, Array.getElem?_eq_getElem hd] at hu ⊢; simp at hu ⊢; exact hu
 obtain ⟨r, L, m1, m2, m3, m4, m5⟩ := h.mp h0
 have hnew : ∀ p ∈ L, p.1 ≠ x := by
  intro p hp e; apply hud; rw [← m5 (d, x) hi]; exact ⟨p.2, by rw [← e]; exact hp⟩
 obtain ⟨w', q1, q2, q3⟩ := m3.put (P := Tryz.prog) (t := 55) (k := 2) (e := 53) Tryz.underlying2 Tryz.underlying55 hw v hnew; have hk := keptR_map m3 q3; refine ⟨r, w', m1, q1, h.sz, h.df, h.p1, h.p2, h.p3, h.p4, h.be.grown q3 h.be.size (fun k hk => by simp at hk; omega), ?_, ?_, ?_, ?_, ?_⟩
 · intro y hy hly
   rcases (gsetR hd).1 hly with e | e
   · exact absurd e.symm ((slot_factsR hy).2.2.2.2.2 (d, x) hi)
   · obtain ⟨v', hv1, hv2⟩ := h.sl y hy e; exact ⟨v', hv1, hv2.kept hk⟩
 · intro _; refine ⟨r, L ++ [(x, v)], m1, m2, q2, fun p hp => ?_, fun y hy => ?_⟩
   · rcases List.mem_append.1 hp with hp | hp
     · obtain ⟨F', z1, z2⟩ := m4 p hp; exact ⟨F', z1, z2.kept hk⟩
     · simp at hp; subst hp; exact ⟨F, hF, hv.kept hk⟩
   · rw [gsetR hd, ← m5 y hy]; constructor
     · rintro ⟨u, hu2⟩
       rcases List.mem_append.1 hu2 with hp | hp
       · exact .inr ⟨u, hp⟩
       · simp at hp; exact .inl ((f3 y hy).2 hp.1.symm).symm
     · rintro (e | ⟨u, hp⟩)
       · exact ⟨v, List.mem_append.2 (.inr (by simp [((f3 y hy).1 e.symm)]))⟩
       · exact ⟨u, List.mem_append.2 (.inl hp)⟩
 · intro _ _ _; exact (gsetR hd).2 (.inr h0)
 · intro e
   rcases (gsetR hd).1 e with e | e
   · omega
   · exact h.mv e
 · intro e
   rcases (gsetR hd).1 e with e | e
   · omega
   · exact h.asg e
theorem unlR {d : Nat} (hd : d < listed.size) (hu : listed.getD d true = false) : ¬ listed.getD d false = true := by
 rw [Array.getD_eq_getD_getElem?, Array.getElem?_eq_getElem hd] at hu ⊢; simp at hu ⊢; exact hu
theorem ti_makeR (h : TIR W0 b1 b2 b3 b4 listed a w) (hl : listed.size = 74) (hu : listed.getD 0 true = false) : TIR W0 b1 b2 b3 b4 (listed.setIfInBounds 0 true) (a.put (some 9) (.map (some w.heap.size))) (w.alloc (.map #[] 0)) := by
 have hj : 9 < a.tmps.size := by rw [h.sz]; omega
 have hd : 0 < listed.size := by omega
 have h0 := unlR hd hu; have hn : ∀ x ∈ insTabR, ¬ listed.getD x.1 false = true := fun x hx e => h0 (h.dn x.1 (.inl ⟨x.2, hx⟩) e)
 have hn2 : ¬ listed.getD 72 false = true := fun e => h0 (h.dn 72 (.inr (.inl rfl)) e)
 have hn3 : ¬ listed.getD 73 false = true := fun e => h0 (h.dn 73 (.inr (.inr rfl)) e)
 have hb : Below w.heap.size w (w.alloc (.map #[] 0)) := (Below.refl _ _).alloc (Nat.le_refl _) _; have hk := keptR_below hb; have far : ∀ i, 9 ≠ i → (a.put (some 9) (.map (some w.heap.size))).tmps[i]? = a.tmps[i]? := fun i hi => by rw [put_getR hj, if_neg hi]
 refine ⟨by show (a.tmps.setIfInBounds 9 _).size = 68; simpa using h.sz, h.df, by rw [far 1 (by omega)]; exact h.p1, by rw [far 2 (by omega)]; exact h.p2, by rw [far 3 (by omega)]; exact h.p3, by rw [far 4 (by omega)]; exact h.p4, h.be.trans (hb.mono h.be.size), ?_, ?_, ?_, ?_, ?_⟩
 · intro x hx hlx; obtain ⟨f1, f2, f3, f4, f5, f6⟩ := slot_factsR hx
   rcases (gsetR hd).1 hlx with e | e
   · omega
   · obtain ⟨v', hv1, hv2⟩ := h.sl x hx e; exact ⟨v', by rw [far _ (by omega)]; exact hv1, hv2.kept hk⟩
 · intro _; refine ⟨w.heap.size, [], by rw [put_getR hj, if_pos rfl], h.be.size, imap_made w, fun p hp => (by cases hp), fun x hx => ?_⟩; rw [gsetR hd]; constructor
   · rintro ⟨v, hv⟩; cases hv
   · rintro (e | e)
     · have := (ins_factsR hx).1; omega
     · exact absurd e (hn x hx)
 · intro _ _ _; exact (gsetR hd).2 (.inl rfl)
 · intro e
   rcases (gsetR hd).1 e with e | e
   · omega
   · exact absurd e hn2
 · intro e
   rcases (gsetR hd).1 e with e | e
   · omega
   · exact absurd e hn3
theorem ti_mvR {v : Value} (h : TIR W0 b1 b2 b3 b4 listed a w) (hl : listed.size = 74) (h0 : listed.getD 0 false = true) (h9 : a.tmps[9]? = some v) : TIR W0 b1 b2 b3 b4 (listed.setIfInBounds 72 true) (a.put (some 67) v) w := by
 have hj : 67 < a.tmps.size := by rw [h.sz]; omega
 have hd : 72 < listed.size := by omega
 have far : ∀ i, 67 ≠ i → (a.put (some 67) v).tmps[i]? = a.tmps[i]? := fun i hi => by rw [put_getR hj, if_neg hi]
 refine ⟨by show (a.tmps.setIfInBounds 67 _).size = 68; simpa using h.sz, h.df, by rw [far 1 (by omega)]; exact h.p1, by rw [far 2 (by omega)]; exact h.p2, by rw [far 3 (by omega)]; exact h.p3, by rw [far 4 (by omega)]; exact h.p4, h.be, ?_, ?_, ?_, ?_, ?_⟩
 · intro x hx hlx; obtain ⟨f1, f2, f3, f4, f5, f6⟩ := slot_factsR hx
   rcases (gsetR hd).1 hlx with e | e
   · omega
   · obtain ⟨v', hv1, hv2⟩ := h.sl x hx e; exact ⟨v', by rw [far _ (by omega)]; exact hv1, hv2⟩
 · intro _; obtain ⟨r, L, m1, m2, m3, m4, m5⟩ := h.mp h0; refine ⟨r, L, by rw [far 9 (by omega)]; exact m1, m2, m3, m4, fun x hx => ?_⟩; rw [m5 x hx, gsetR hd]; have := (ins_factsR hx).2.1; constructor
   · exact fun h => .inr h
   · rintro (h | h)
     · omega
     · exact h
 · intro _ _ _; exact (gsetR hd).2 (.inr h0)
 · intro _; rw [put_getR hj, if_pos rfl, far 9 (by omega), h9]
 · intro e
   rcases (gsetR hd).1 e with e | e
   · omega
   · rw [far 0 (by omega), far 9 (by omega)]; exact h.asg e
theorem ti_asR {v : Value} (h : TIR W0 b1 b2 b3 b4 listed a w) (hl : listed.size = 74) (h0 : listed.getD 0 false = true) (h9 : a.tmps[9]? = some v) : TIR W0 b1 b2 b3 b4 (listed.setIfInBounds 73 true) (a.put (some 0) v) w := by
 have hj : 0 < a.tmps.size := by rw [h.sz]; omega
 have hd : 73 < listed.size := by omega
 have far : ∀ i, 0 ≠ i → (a.put (some 0) v).tmps[i]? = a.tmps[i]? := fun i hi => by rw [put_getR hj, if_neg hi]
 refine ⟨by show (a.tmps.setIfInBounds 0 _).size = 68; simpa using h.sz, h.df, by rw [far 1 (by omega)]; exact h.p1, by rw [far 2 (by omega)]; exact h.p2, by rw [far 3 (by omega)]; exact h.p3, by rw [far 4 (by omega)]; exact h.p4, h.be, ?_, ?_, ?_, ?_, ?_⟩
 · intro x hx hlx; obtain ⟨f1, f2, f3, f4, f5, f6⟩ := slot_factsR hx
   rcases (gsetR hd).1 hlx with e | e
   · omega
   · obtain ⟨v', hv1, hv2⟩ := h.sl x hx e; exact ⟨v', by rw [far _ (by omega)]; exact hv1, hv2⟩
 · intro _; obtain ⟨r, L, m1, m2, m3, m4, m5⟩ := h.mp h0; refine ⟨r, L, by rw [far 9 (by omega)]; exact m1, m2, m3, m4, fun x hx => ?_⟩; rw [m5 x hx, gsetR hd]; have := (ins_factsR hx).2.1; constructor
   · exact fun h => .inr h
   · rintro (h | h)
     · omega
     · exact h
 · intro _ _ _; exact (gsetR hd).2 (.inr h0)
 · intro e
   rcases (gsetR hd).1 e with e | e
   · omega
   · rw [far 67 (by omega), far 9 (by omega)]; exact h.mv e
 · intro _; rw [put_getR hj, if_pos rfl, far 9 (by omega), h9]
end
/-- An operation waits for another. -/
def waitsOnR (o : Oper) (d : Nat) : Bool := o.after.any fun e => Region.binds .any e && e.on == d
theorem depR {o : Oper} {d : Nat} {listed : Array Bool} (h : waitsOnR o d = true) (hall : ∀ e ∈ o.after, Region.binds .any e = true → listed.getD e.on false = true) : listed.getD d false = true := by
 simp only [waitsOnR, Array.any_eq_true', Bool.and_eq_true, beq_iff_eq] at h; obtain ⟨e, he, hb, rfl⟩ := h; exact hall e he hb
/-- Operation i, wherever it comes up, leaves what is held. -/
def GOR (W0 : World) (b1 b2 b3 b4 : Nat) (Q : Exit → Act → World → Prop) (i : Nat) (o : Oper) : Prop := o.guard = none ∧ ∀ (listed : Array Bool) (a : Act) (w : World), listed.size = 74 → listed.getD i true = false → (∀ e ∈ o.after, Region.binds .any e = true → listed.getD e.on false = true) → TIR W0 b1 b2 b3 b4 listed a w →
 ∀ K' : Act → World → Prop, (∀ a w, TIR W0 b1 b2 b3 b4 (listed.setIfInBounds i true) a w → K' a w) → Oper.wp Tryz.prog o a w K' Q
/-- Of each of these operations, from number n on. -/
def AllFromR (G : Nat → Oper → Prop) : Nat → List Oper → Prop
 | _, [] => True
 | n, o :: r => G n o ∧ AllFromR G (n + 1) r
theorem all_getR {G : Nat → Oper → Prop} : ∀ (l : List Oper) (n i : Nat) (o : Oper), AllFromR G n l → l[i]? = some o → G (n + i) o
 | [], _, _, _, _, h => by simp at h
 | x :: r, n, 0, o, hA, h => by simp at h; subst h; exact hA.1
 | x :: r, n, i + 1, o, hA, h => by
   have := all_getR r (n + 1) i o hA.2 (by simpa using h); rw [show n + (i + 1) = n + 1 + i by omega]; exact this
theorem all_appendR {G : Nat → Oper → Prop} : ∀ (l1 l2 : List Oper) (n : Nat), AllFromR G n l1 → AllFromR G (n + l1.length) l2 → AllFromR G n (l1.append l2)
 | [], _, _, _, h => h
 | x :: r, l2, n, h1, h2 => ⟨h1.1, all_appendR r l2 (n + 1) h1.2 (by rw [show n + 1 + r.length = n + (x :: r).length by simp; omega]; exact h2)⟩
/-- A form lies in a variable. -/
def FVcR (w : World) (b K : Nat) : Prop := ∃ g x y F u, w.cell? ⟨b, 0, none⟩ = some (.func g x y) ∧ w.cell? ⟨b, 1, none⟩ = some (.func F #[] u) ∧ RVal w K (.func g x y)
section
variable {W0 : World} {b1 b2 b3 b4 : Nat} {Q : Exit → Act → World → Prop} {o : Oper}
theorem go_loadR {d j t b K : Nat} (hg : o.guard = none) (hop : o.op = .load 113 (.tmp t)) (hd : o.dst = some j) (ht : (d, j, .inl K) ∈ slotTabR) (hp : ∀ {listed : Array Bool} {a : Act} {w : World}, TIR W0 b1 b2 b3 b4 listed a w → a.tmps[t]? = some (.pointer (some ⟨b, 0, none⟩))) (hv : FVcR W0 b K) : GOR W0 b1 b2 b3 b4 Q d o := by
 refine ⟨hg, fun listed a w hl hu hall hI K' hK => ?_⟩; obtain ⟨g, x, y, F, u, c0, c1, hw⟩ := hv; have k := keptR_below hI.be; exact op_load hop hd (hp hI) (k _ _ c0) (k _ _ c1) (hK _ _ (ti_putR hI hl (Below.refl _ _) ht ⟨g, x, y, F, u, rfl, hw.kept k⟩))
theorem go_mkR {d j F : Nat} {s : SkR} {args : Array Operand} {tys : Array TypeId} {vs : Array Value} (hg : o.guard = none) (hop : o.op = .call { callee := .value (.func F), args := args, argTypes := tys }) (hd : o.dst = some j) (ht : (d, j, s) ∈ slotTabR) (hev : ∀ a : Act, args.map a.eval = vs)
 (hent : ∀ w : World, (callFunc F vs).run Tryz.prog w = .ok (.enter F vs) w) (hc : ∀ w : World, Calls Tryz.prog F vs w fun e w' => (∃ f, e = .returned f ∧ SVr w' s f) ∧ Below w.heap.size w w') : GOR W0 b1 b2 b3 b4 Q d o := by
 refine ⟨hg, fun listed a w hl hu hall hI K' hK => ?_⟩; refine op_call (R := fun v w' => SVr w' s v ∧ Below w.heap.size w w') hop hd (hev a) (hent w) ((hc w).mono ?_) ?_
 · rintro e w' ⟨⟨f, h1, h2⟩, h3⟩; exact ⟨f, h1, h2, h3⟩
 · rintro v w' ⟨h1, h2⟩; exact hK _ _ (ti_putR hI hl h2 ht h1)
theorem just_entersR (V : Value) (w : World) : (callFunc 62 #[V]).run Tryz.prog w = .ok (.enter 62 #[V]) w := by kernel_rfl
theorem many_entersR (V : Value) (w : World) : (callFunc 68 #[V]).run Tryz.prog w = .ok (.enter 68 #[V]) w := by kernel_rfl
theorem go_justR {d j d0 s0 : Nat} {ks : List Nat} {tys : Array TypeId} (hg : o.guard = none) (hop : o.op = .call { callee := .value (.func 62), args := #[.tmp s0], argTypes := tys }) (hd : o.dst = some j) (ht : (d, j, .inr (.inr (.inl ks))) ∈ slotTabR) (t0 : (d0, s0, .inr (.inl ks)) ∈ slotTabR) (e0 : waitsOnR o d0 = true) : GOR W0 b1 b2 b3 b4 Q d o := by
 refine ⟨hg, fun listed a w hl hu hall hI K' hK => ?_⟩; obtain ⟨v, m, g, rfl, hf⟩ := hI.sl _ t0 (depR e0 hall); simp only at m
 have hev : (#[.tmp s0] : Array Operand).map a.eval = #[.slice (some ⟨g, 0, none⟩) ks.length ks.length] := by
  have e : a.tmps.getD s0 undef = .slice (some ⟨g, 0, none⟩) ks.length ks.length := by rw [Array.getD_eq_getD_getElem?, m]; rfl
  simp [Act.eval, e]
 refine op_call (R := fun v w' => TFr w' (.inl ks) v ∧ Below w.heap.size w w') hop hd hev (just_entersR _ w) ((justWordsR_any _ w _ _ _ rfl).mono ?_) ?_
 · rintro e w' ⟨⟨gc, F, y, rfl, hc⟩, hb⟩; exact ⟨_, rfl, ⟨gc, F, y, g, _, rfl, hc, hf.kept (keptR_below hb)⟩, hb⟩
 · rintro v w' ⟨h1, h2⟩; exact hK _ _ (ti_putR hI hl h2 ht h1)
theorem go_manyR {d j d0 s0 : Nat} {tys : Array TypeId} (hg : o.guard = none) (hop : o.op = .call { callee := .value (.func 68), args := #[.tmp s0], argTypes := tys }) (hd : o.dst = some j) (ht : (d, j, .inr (.inr (.inr false))) ∈ slotTabR) (t0 : (d0, s0, .inl 1) ∈ slotTabR) (e0 : waitsOnR o d0 = true) : GOR W0 b1 b2 b3 b4 Q d o := by
 refine ⟨hg, fun listed a w hl hu hall hI K' hK => ?_⟩; obtain ⟨v, m, g, x, y, F, u, rfl, hq⟩ := hI.sl _ t0 (depR e0 hall); simp only at m
 have hq2 : Value.func g x y = .func (.func 99) #[] #[] := hq; rw [hq2] at m
 have hev : (#[.tmp s0] : Array Operand).map a.eval = #[.agg #[.func (.func 99) #[] #[], .func F #[] u]] := by
  have e : a.tmps.getD s0 undef = .agg #[.func (.func 99) #[] #[], .func F #[] u] := by rw [Array.getD_eq_getD_getElem?, m]; rfl
  simp [Act.eval, e]
 refine op_call (R := fun v w' => TFr w' (.inr false) v ∧ Below w.heap.size w w') hop hd hev (many_entersR _ w) ((manyWordsR_any w _ _ _ _ _ _).mono ?_) ?_
 · rintro e w' ⟨⟨gc, F, y, rfl, hc, hc2⟩, hb⟩; exact ⟨_, rfl, ⟨gc, F, y, rfl, hc, _, _, hc2⟩, hb⟩
 · rintro v w' ⟨h1, h2⟩; exact hK _ _ (ti_putR hI hl h2 ht h1)
theorem go_makeR (hg : o.guard = none) (hop : o.op = .makeMap 55 none) (hd : o.dst = some 9) : GOR W0 b1 b2 b3 b4 Q 0 o :=
 ⟨hg, fun listed a w hl hu hall hI K' hK => op_make hop hd (hK _ _ (ti_makeR hI hl hu))⟩
theorem go_insR {d d0 s0 : Nat} {x : Int} {F : List Nat ⊕ Bool} (hg : o.guard = none) (hop : o.op = .insert 55 (.tmp 9) (.const (.int .i64 x)) (.tmp s0)) (hd : o.dst = none) (hi : (d, x) ∈ insTabR) (hF : (x, F) ∈ formTabR) (hw : (Lit.int .i64 x).wf = true) (t0 : (d0, s0, .inr (.inr F)) ∈ slotTabR) (e0 : waitsOnR o d0 = true) (e9 : waitsOnR o 0 = true) : GOR W0 b1 b2 b3 b4 Q d o := by
 refine ⟨hg, fun listed a w hl hu hall hI K' hK => ?_⟩; obtain ⟨v, m, hv⟩ := hI.sl _ t0 (depR e0 hall); obtain ⟨r, w', h9, hr, hT⟩ := ti_insR (r := 0) hI hl hu (depR e9 hall) hi hF hw hv; exact op_insert hop hd h9 m hr (hK _ _ hT)
theorem go_mvR (hg : o.guard = none) (hop : o.op = .move (.tmp 9)) (hd : o.dst = some 67) (e0 : waitsOnR o 0 = true) : GOR W0 b1 b2 b3 b4 Q 72 o := by
 refine ⟨hg, fun listed a w hl hu hall hI K' hK => ?_⟩; obtain ⟨r, L, m1, _⟩ := hI.mp (depR e0 hall); exact op_move (.inl hop) hd m1 (hK _ _ (ti_mvR hI hl (depR e0 hall) m1))
theorem go_asR (hg : o.guard = none) (hop : o.op = .assign (.tmp 67)) (hd : o.dst = some 0) (e0 : waitsOnR o 0 = true) (e72 : waitsOnR o 72 = true) : GOR W0 b1 b2 b3 b4 Q 73 o := by
 refine ⟨hg, fun listed a w hl hu hall hI K' hK => ?_⟩; obtain ⟨r, L, m1, _⟩ := hI.mp (depR e0 hall); have h67 := hI.mv (depR e72 hall); rw [m1] at h67; exact op_move (.inr hop) hd h67 (hK _ _ (ti_asR hI hl (depR e0 hall) m1))
theorem go_slice1R {d j d0 s0 k0 : Nat} (hg : o.guard = none) (hop : o.op = .buildSlice 155 1 #[(0, .tmp s0)]) (hd : o.dst = some j) (ht : (d, j, .inr (.inl [k0])) ∈ slotTabR) (t0 : (d0, s0, .inl k0) ∈ slotTabR) (e0 : waitsOnR o d0 = true) : GOR W0 b1 b2 b3 b4 Q d o := by
 refine ⟨hg, fun listed a w hl hu hall hI K' hK => ?_⟩; obtain ⟨v0, m0, g0, x0, y0, F0, u0, rfl, q0⟩ := hI.sl _ t0 (depR e0 hall); refine op_slice1 hop hd m0 (hK _ _ (ti_putR hI hl ((Below.refl _ _).alloc (Nat.le_refl _) _) ht ⟨w.heap.size, rfl, ?_⟩)); intro i K hi
 match i, hi with
 | 0, hi =>
   obtain rfl : K = k0 := by simpa using hi.symm
   exact ⟨g0, x0, y0, F0, u0, by rw [World.cell?_alloc_new]; rfl, by rw [World.cell?_alloc_new]; rfl, q0.kept (keptR_below ((Below.refl _ _).alloc (Nat.le_refl _) _))⟩
 | i + 1, hi => simp at hi
theorem go_slice2R {d j d0 d1 s0 s1 k0 k1 : Nat} (hg : o.guard = none) (hop : o.op = .buildSlice 155 2 #[(0, .tmp s0), (1, .tmp s1)]) (hd : o.dst = some j) (ht : (d, j, .inr (.inl [k0, k1])) ∈ slotTabR) (t0 : (d0, s0, .inl k0) ∈ slotTabR) (t1 : (d1, s1, .inl k1) ∈ slotTabR) (e0 : waitsOnR o d0 = true) (e1 : waitsOnR o d1 = true) : GOR W0 b1 b2 b3 b4 Q d o := by
 refine ⟨hg, fun listed a w hl hu hall hI K' hK => ?_⟩; obtain ⟨v0, m0, g0, x0, y0, F0, u0, rfl, q0⟩ := hI.sl _ t0 (depR e0 hall); obtain ⟨v1, m1, g1, x1, y1, F1, u1, rfl, q1⟩ := hI.sl _ t1 (depR e1 hall); refine op_slice2 hop hd m0 m1 (hK _ _ (ti_putR hI hl ((Below.refl _ _).alloc (Nat.le_refl _) _) ht ⟨w.heap.size, rfl, ?_⟩)); intro i K hi
 match i, hi with
 | 0, hi =>
   obtain rfl : K = k0 := by simpa using hi.symm
   exact ⟨g0, x0, y0, F0, u0, by rw [World.cell?_alloc_new]; rfl, by rw [World.cell?_alloc_new]; rfl, q0.kept (keptR_below ((Below.refl _ _).alloc (Nat.le_refl _) _))⟩
 | 1, hi =>
   obtain rfl : K = k1 := by simpa using hi.symm
   exact ⟨g1, x1, y1, F1, u1, by rw [World.cell?_alloc_new]; rfl, by rw [World.cell?_alloc_new]; rfl, q1.kept (keptR_below ((Below.refl _ _).alloc (Nat.le_refl _) _))⟩
 | i + 2, hi => simp at hi
theorem go_slice3R {d j d0 d1 d2 s0 s1 s2 k0 k1 k2 : Nat} (hg : o.guard = none) (hop : o.op = .buildSlice 155 3 #[(0, .tmp s0), (1, .tmp s1), (2, .tmp s2)]) (hd : o.dst = some j) (ht : (d, j, .inr (.inl [k0, k1, k2])) ∈ slotTabR) (t0 : (d0, s0, .inl k0) ∈ slotTabR) (t1 : (d1, s1, .inl k1) ∈ slotTabR) (t2 : (d2, s2, .inl k2) ∈ slotTabR) (e0 : waitsOnR o d0 = true) (e1 : waitsOnR o d1 = true) (e2 : waitsOnR o d2 = true) : GOR W0 b1 b2 b3 b4 Q d o := by
 refine ⟨hg, fun listed a w hl hu hall hI K' hK => ?_⟩; obtain ⟨v0, m0, g0, x0, y0, F0, u0, rfl, q0⟩ := hI.sl _ t0 (depR e0 hall); obtain ⟨v1, m1, g1, x1, y1, F1, u1, rfl, q1⟩ := hI.sl _ t1 (depR e1 hall); obtain ⟨v2, m2, g2, x2, y2, F2, u2, rfl, q2⟩ := hI.sl _ t2 (depR e2 hall); refine op_slice3 hop hd m0 m1 m2 (hK _ _ (ti_putR hI hl ((Below.refl _ _).alloc (Nat.le_refl _) _) ht ⟨w.heap.size, rfl, ?_⟩)); intro i K hi
 match i, hi with
 | 0, hi =>
   obtain rfl : K = k0 := by simpa using hi.symm
   exact ⟨g0, x0, y0, F0, u0, by rw [World.cell?_alloc_new]; rfl, by rw [World.cell?_alloc_new]; rfl, q0.kept (keptR_below ((Below.refl _ _).alloc (Nat.le_refl _) _))⟩
 | 1, hi =>
   obtain rfl : K = k1 := by simpa using hi.symm
   exact ⟨g1, x1, y1, F1, u1, by rw [World.cell?_alloc_new]; rfl, by rw [World.cell?_alloc_new]; rfl, q1.kept (keptR_below ((Below.refl _ _).alloc (Nat.le_refl _) _))⟩
 | 2, hi =>
   obtain rfl : K = k2 := by simpa using hi.symm
   exact ⟨g2, x2, y2, F2, u2, by rw [World.cell?_alloc_new]; rfl, by rw [World.cell?_alloc_new]; rfl, q2.kept (keptR_below ((Below.refl _ _).alloc (Nat.le_refl _) _))⟩
 | i + 3, hi => simp at hi
theorem go_slice4R {d j d0 d1 d2 d3 s0 s1 s2 s3 k0 k1 k2 k3 : Nat} (hg : o.guard = none) (hop : o.op = .buildSlice 155 4 #[(0, .tmp s0), (1, .tmp s1), (2, .tmp s2), (3, .tmp s3)]) (hd : o.dst = some j) (ht : (d, j, .inr (.inl [k0, k1, k2, k3])) ∈ slotTabR) (t0 : (d0, s0, .inl k0) ∈ slotTabR) (t1 : (d1, s1, .inl k1) ∈ slotTabR) (t2 : (d2, s2, .inl k2) ∈ slotTabR) (t3 : (d3, s3, .inl k3) ∈ slotTabR) (e0 : waitsOnR o d0 = true) (e1 : waitsOnR o d1 = true) (e2 : waitsOnR o d2 = true) (e3 : waitsOnR o d3 = true) : GOR W0 b1 b2 b3 b4 Q d o := by
 refine ⟨hg, fun listed a w hl hu hall hI K' hK => ?_⟩; obtain ⟨v0, m0, g0, x0, y0, F0, u0, rfl, q0⟩ := hI.sl _ t0 (depR e0 hall); obtain ⟨v1, m1, g1, x1, y1, F1, u1, rfl, q1⟩ := hI.sl _ t1 (depR e1 hall); obtain ⟨v2, m2, g2, x2, y2, F2, u2, rfl, q2⟩ := hI.sl _ t2 (depR e2 hall); obtain ⟨v3, m3, g3, x3, y3, F3, u3, rfl, q3⟩ := hI.sl _ t3 (depR e3 hall); refine op_slice4 hop hd m0 m1 m2 m3 (hK _ _ (ti_putR hI hl ((Below.refl _ _).alloc (Nat.le_refl _) _) ht ⟨w.heap.size, rfl, ?_⟩)); intro i K hi
 match i, hi with
 | 0, hi =>
   obtain rfl : K = k0 := by simpa using hi.symm
   exact ⟨g0, x0, y0, F0, u0, by rw [World.cell?_alloc_new]; rfl, by rw [World.cell?_alloc_new]; rfl, q0.kept (keptR_below ((Below.refl _ _).alloc (Nat.le_refl _) _))⟩
 | 1, hi =>
   obtain rfl : K = k1 := by simpa using hi.symm
   exact ⟨g1, x1, y1, F1, u1, by rw [World.cell?_alloc_new]; rfl, by rw [World.cell?_alloc_new]; rfl, q1.kept (keptR_below ((Below.refl _ _).alloc (Nat.le_refl _) _))⟩
 | 2, hi =>
   obtain rfl : K = k2 := by simpa using hi.symm
   exact ⟨g2, x2, y2, F2, u2, by rw [World.cell?_alloc_new]; rfl, by rw [World.cell?_alloc_new]; rfl, q2.kept (keptR_below ((Below.refl _ _).alloc (Nat.le_refl _) _))⟩
 | 3, hi =>
   obtain rfl : K = k3 := by simpa using hi.symm
   exact ⟨g3, x3, y3, F3, u3, by rw [World.cell?_alloc_new]; rfl, by rw [World.cell?_alloc_new]; rfl, q3.kept (keptR_below ((Below.refl _ _).alloc (Nat.le_refl _) _))⟩
 | i + 4, hi => simp at hi
theorem go_slice6R {d j d0 d1 d2 d3 d4 d5 s0 s1 s2 s3 s4 s5 k0 k1 k2 k3 k4 k5 : Nat} (hg : o.guard = none) (hop : o.op = .buildSlice 155 6 #[(0, .tmp s0), (1, .tmp s1), (2, .tmp s2), (3, .tmp s3), (4, .tmp s4), (5, .tmp s5)]) (hd : o.dst = some j) (ht : (d, j, .inr (.inl [k0, k1, k2, k3, k4, k5])) ∈ slotTabR) (t0 : (d0, s0, .inl k0) ∈ slotTabR) (t1 : (d1, s1, .inl k1) ∈ slotTabR) (t2 : (d2, s2, .inl k2) ∈ slotTabR) (t3 : (d3, s3, .inl k3) ∈ slotTabR) (t4 : (d4, s4, .inl k4) ∈ slotTabR) (t5 : (d5, s5, .inl k5) ∈ slotTabR) (e0 : waitsOnR o d0 = true) (e1 : waitsOnR o d1 = true) (e2 : waitsOnR o d2 = true) (e3 : waitsOnR o d3 = true) (e4 : waitsOnR o d4 = true) (e5 : waitsOnR o d5 = true) : GOR W0 b1 b2 b3 b4 Q d o := by
 refine ⟨hg, fun listed a w hl hu hall hI K' hK => ?_⟩; obtain ⟨v0, m0, g0, x0, y0, F0, u0, rfl, q0⟩ := hI.sl _ t0 (depR e0 hall); obtain ⟨v1, m1, g1, x1, y1, F1, u1, rfl, q1⟩ := hI.sl _ t1 (depR e1 hall); obtain ⟨v2, m2, g2, x2, y2, F2, u2, rfl, q2⟩ := hI.sl _ t2 (depR e2 hall); obtain ⟨v3, m3, g3, x3, y3, F3, u3, rfl, q3⟩ := hI.sl _ t3 (depR e3 hall); obtain ⟨v4, m4, g4, x4, y4, F4, u4, rfl, q4⟩ := hI.sl _ t4 (depR e4 hall); obtain ⟨v5, m5, g5, x5, y5, F5, u5, rfl, q5⟩ := hI.sl _ t5 (depR e5 hall); refine op_slice6 hop hd m0 m1 m2 m3 m4 m5 (hK _ _ (ti_putR hI hl ((Below.refl _ _).alloc (Nat.le_refl _) _) ht ⟨w.heap.size, rfl, ?_⟩)); intro i K hi
 match i, hi with
 | 0, hi =>
   obtain rfl : K = k0 := by simpa using hi.symm
   exact ⟨g0, x0, y0, F0, u0, by rw [World.cell?_alloc_new]; rfl, by rw [World.cell?_alloc_new]; rfl, q0.kept (keptR_below ((Below.refl _ _).alloc (Nat.le_refl _) _))⟩
 | 1, hi =>
   obtain rfl : K = k1 := by simpa using hi.symm
   exact ⟨g1, x1, y1, F1, u1, by rw [World.cell?_alloc_new]; rfl, by rw [World.cell?_alloc_new]; rfl, q1.kept (keptR_below ((Below.refl _ _).alloc (Nat.le_refl _) _))⟩
 | 2, hi =>
   obtain rfl : K = k2 := by simpa using hi.symm
   exact ⟨g2, x2, y2, F2, u2, by rw [World.cell?_alloc_new]; rfl, by rw [World.cell?_alloc_new]; rfl, q2.kept (keptR_below ((Below.refl _ _).alloc (Nat.le_refl _) _))⟩
 | 3, hi =>
   obtain rfl : K = k3 := by simpa using hi.symm
   exact ⟨g3, x3, y3, F3, u3, by rw [World.cell?_alloc_new]; rfl, by rw [World.cell?_alloc_new]; rfl, q3.kept (keptR_below ((Below.refl _ _).alloc (Nat.le_refl _) _))⟩
 | 4, hi =>
   obtain rfl : K = k4 := by simpa using hi.symm
   exact ⟨g4, x4, y4, F4, u4, by rw [World.cell?_alloc_new]; rfl, by rw [World.cell?_alloc_new]; rfl, q4.kept (keptR_below ((Below.refl _ _).alloc (Nat.le_refl _) _))⟩
 | 5, hi =>
   obtain rfl : K = k5 := by simpa using hi.symm
   exact ⟨g5, x5, y5, F5, u5, by rw [World.cell?_alloc_new]; rfl, by rw [World.cell?_alloc_new]; rfl, q5.kept (keptR_below ((Below.refl _ _).alloc (Nat.le_refl _) _))⟩
 | i + 6, hi => simp at hi
theorem go_slice7R {d j d0 d1 d2 d3 d4 d5 d6 s0 s1 s2 s3 s4 s5 s6 k0 k1 k2 k3 k4 k5 k6 : Nat} (hg : o.guard = none) (hop : o.op = .buildSlice 155 7 #[(0, .tmp s0), (1, .tmp s1), (2, .tmp s2), (3, .tmp s3), (4, .tmp s4), (5, .tmp s5), (6, .tmp s6)]) (hd : o.dst = some j) (ht : (d, j, .inr (.inl [k0, k1, k2, k3, k4, k5, k6])) ∈ slotTabR) (t0 : (d0, s0, .inl k0) ∈ slotTabR) (t1 : (d1, s1, .inl k1) ∈ slotTabR) (t2 : (d2, s2, .inl k2) ∈ slotTabR) (t3 : (d3, s3, .inl k3) ∈ slotTabR) (t4 : (d4, s4, .inl k4) ∈ slotTabR) (t5 : (d5, s5, .inl k5) ∈ slotTabR) (t6 : (d6, s6, .inl k6) ∈ slotTabR) (e0 : waitsOnR o d0 = true) (e1 : waitsOnR o d1 = true) (e2 : waitsOnR o d2 = true) (e3 : waitsOnR o d3 = true) (e4 : waitsOnR o d4 = true) (e5 : waitsOnR o d5 = true) (e6 : waitsOnR o d6 = true) : GOR W0 b1 b2 b3 b4 Q d o := by
 refine ⟨hg, fun listed a w hl hu hall hI K' hK => ?_⟩; obtain ⟨v0, m0, g0, x0, y0, F0, u0, rfl, q0⟩ := hI.sl _ t0 (depR e0 hall); obtain ⟨v1, m1, g1, x1, y1, F1, u1, rfl, q1⟩ := hI.sl _ t1 (depR e1 hall); obtain ⟨v2, m2, g2, x2, y2, F2, u2, rfl, q2⟩ := hI.sl _ t2 (depR e2 hall); obtain ⟨v3, m3, g3, x3, y3, F3, u3, rfl, q3⟩ := hI.sl _ t3 (depR e3 hall); obtain ⟨v4, m4, g4, x4, y4, F4, u4, rfl, q4⟩ := hI.sl _ t4 (depR e4 hall); obtain ⟨v5, m5, g5, x5, y5, F5, u5, rfl, q5⟩ := hI.sl _ t5 (depR e5 hall); obtain ⟨v6, m6, g6, x6, y6, F6, u6, rfl, q6⟩ := hI.sl _ t6 (depR e6 hall); refine op_slice7 hop hd m0 m1 m2 m3 m4 m5 m6 (hK _ _ (ti_putR hI hl ((Below.refl _ _).alloc (Nat.le_refl _) _) ht ⟨w.heap.size, rfl, ?_⟩)); intro i K hi
 match i, hi with
 | 0, hi =>
   obtain rfl : K = k0 := by simpa using hi.symm
   exact ⟨g0, x0, y0, F0, u0, by rw [World.cell?_alloc_new]; rfl, by rw [World.cell?_alloc_new]; rfl, q0.kept (keptR_below ((Below.refl _ _).alloc (Nat.le_refl _) _))⟩
 | 1, hi =>
   obtain rfl : K = k1 := by simpa using hi.symm
   exact ⟨g1, x1, y1, F1, u1, by rw [World.cell?_alloc_new]; rfl, by rw [World.cell?_alloc_new]; rfl, q1.kept (keptR_below ((Below.refl _ _).alloc (Nat.le_refl _) _))⟩
 | 2, hi =>
   obtain rfl : K = k2 := by simpa using hi.symm
   exact ⟨g2, x2, y2, F2, u2, by rw [World.cell?_alloc_new]; rfl, by rw [World.cell?_alloc_new]; rfl, q2.kept (keptR_below ((Below.refl _ _).alloc (Nat.le_refl _) _))⟩
 | 3, hi =>
   obtain rfl : K = k3 := by simpa using hi.symm
   exact ⟨g3, x3, y3, F3, u3, by rw [World.cell?_alloc_new]; rfl, by rw [World.cell?_alloc_new]; rfl, q3.kept (keptR_below ((Below.refl _ _).alloc (Nat.le_refl _) _))⟩
 | 4, hi =>
   obtain rfl : K = k4 := by simpa using hi.symm
   exact ⟨g4, x4, y4, F4, u4, by rw [World.cell?_alloc_new]; rfl, by rw [World.cell?_alloc_new]; rfl, q4.kept (keptR_below ((Below.refl _ _).alloc (Nat.le_refl _) _))⟩
 | 5, hi =>
   obtain rfl : K = k5 := by simpa using hi.symm
   exact ⟨g5, x5, y5, F5, u5, by rw [World.cell?_alloc_new]; rfl, by rw [World.cell?_alloc_new]; rfl, q5.kept (keptR_below ((Below.refl _ _).alloc (Nat.le_refl _) _))⟩
 | 6, hi =>
   obtain rfl : K = k6 := by simpa using hi.symm
   exact ⟨g6, x6, y6, F6, u6, by rw [World.cell?_alloc_new]; rfl, by rw [World.cell?_alloc_new]; rfl, q6.kept (keptR_below ((Below.refl _ _).alloc (Nat.le_refl _) _))⟩
 | i + 7, hi => simp at hi
end
theorem fv_openR {P : Program} {f : FuncId} {args : Array Value} {W : World} {K : Nat} (h : Calls P f args W fun e w' => (∃ v, e = .returned v ∧ RFv w' K v) ∧ Below W.heap.size W w') :
 Calls P f args W fun e w' => (∃ g x y F u, e = .returned (.agg #[.func g x y, .func F #[] u]) ∧ RVal w' K (.func g x y)) ∧ Below W.heap.size W w' := by
 refine h.mono ?_; rintro e w' ⟨⟨v, rfl, hv⟩, hb⟩; obtain ⟨g, x, y, F, u, rfl, hw⟩ := hv; exact ⟨⟨g, x, y, F, u, rfl, hw⟩, hb⟩
theorem fv_slotR {P : Program} {f : FuncId} {args : Array Value} {W : World} {K : Nat} (h : Calls P f args W fun e w' => (∃ v, e = .returned v ∧ RFv w' K v) ∧ Below W.heap.size W w') :
 Calls P f args W fun e w' => (∃ v, e = .returned v ∧ SVr w' (.inl K) v) ∧ Below W.heap.size W w' := by
 refine h.mono ?_; rintro e w' ⟨⟨v, rfl, hv⟩, hb⟩; exact ⟨⟨v, rfl, hv⟩, hb⟩
theorem m_a4R (w : World) : Calls Tryz.prog 63 #[.int .i64 4, .func (.func 64) #[] #[], .func (.func 65) #[] #[]] w fun e w' => (∃ v, e = .returned v ∧ SVr w' (.inl 4) v) ∧ Below w.heap.size w w' := fv_slotR (addressWordR4_any w)
theorem m_a6R (w : World) : Calls Tryz.prog 63 #[.int .i64 16, .func (.func 66) #[] #[], .func (.func 67) #[] #[]] w fun e w' => (∃ v, e = .returned v ∧ SVr w' (.inl 5) v) ∧ Below w.heap.size w w' := fv_slotR (addressWordR6_any w)
theorem m_n4R (w : World) : Calls Tryz.prog 60 #[.int .i64 4] w fun e w' => (∃ v, e = .returned v ∧ SVr w' (.inl 11) v) ∧ Below w.heap.size w w' := fv_slotR (numberWordR_any 4 w)
theorem m_n1R (w : World) : Calls Tryz.prog 60 #[.int .i64 1] w fun e w' => (∃ v, e = .returned v ∧ SVr w' (.inl 8) v) ∧ Below w.heap.size w w' := fv_slotR (numberWordR_any 1 w)
theorem m_tagR (w : World) : Calls Tryz.prog 69 #[] w fun e w' => (∃ v, e = .returned v ∧ SVr w' (.inl 2) v) ∧ Below w.heap.size w w' := fv_slotR (tagWordR_any w)
theorem m_restR (w : World) : Calls Tryz.prog 70 #[] w fun e w' => (∃ v, e = .returned v ∧ SVr w' (.inl 3) v) ∧ Below w.heap.size w w' := fv_slotR (restWordR_any w)
theorem four_formsR (w : World) (T : TypeId) (a1 c1 a2 c2 a3 c3 a4 c4 : Value) : ∀ W, W = ((((w.alloc (.cells #[a1, c1] T)).alloc (.cells #[a2, c2] T)).alloc (.cells #[a3, c3] T)).alloc (.cells #[a4, c4] T)) →
 (W.cell? ⟨w.heap.size, 0, none⟩ = some a1 ∧ W.cell? ⟨w.heap.size, 1, none⟩ = some c1) ∧ (W.cell? ⟨w.heap.size + 1, 0, none⟩ = some a2 ∧ W.cell? ⟨w.heap.size + 1, 1, none⟩ = some c2) ∧
 (W.cell? ⟨w.heap.size + 1 + 1, 0, none⟩ = some a3 ∧ W.cell? ⟨w.heap.size + 1 + 1, 1, none⟩ = some c3) ∧ (W.cell? ⟨w.heap.size + 1 + 1 + 1, 0, none⟩ = some a4 ∧ W.cell? ⟨w.heap.size + 1 + 1 + 1, 1, none⟩ = some c4) := by
 rintro W rfl; have s1 : (w.alloc (.cells #[a1, c1] T)).heap.size = w.heap.size + 1 := by simp
 have s2 : ((w.alloc (.cells #[a1, c1] T)).alloc (.cells #[a2, c2] T)).heap.size = w.heap.size + 1 + 1 := by simp
 have s3 : (((w.alloc (.cells #[a1, c1] T)).alloc (.cells #[a2, c2] T)).alloc (.cells #[a3, c3] T)).heap.size = w.heap.size + 1 + 1 + 1 := by simp
 have kk : ∀ (V : World) (o : Obj), KeptR V (V.alloc o) := fun V o => keptR_below ((Below.refl _ _).alloc (Nat.le_refl _) o)
 have n1 := fun i => World.cell?_alloc_new w #[a1, c1] T i
 have n2 := fun i => World.cell?_alloc_new (w.alloc (.cells #[a1, c1] T)) #[a2, c2] T i
 have n3 := fun i => World.cell?_alloc_new ((w.alloc (.cells #[a1, c1] T)).alloc (.cells #[a2, c2] T)) #[a3, c3] T i
 have n4 := fun i => World.cell?_alloc_new (((w.alloc (.cells #[a1, c1] T)).alloc (.cells #[a2, c2] T)).alloc (.cells #[a3, c3] T)) #[a4, c4] T i
 rw [s1] at n2; rw [s2] at n3; rw [s3] at n4; exact ⟨⟨kk _ _ _ _ (kk _ _ _ _ (kk _ _ _ _ (n1 0))), kk _ _ _ _ (kk _ _ _ _ (kk _ _ _ _ (n1 1)))⟩, ⟨kk _ _ _ _ (kk _ _ _ _ (n2 0)), kk _ _ _ _ (kk _ _ _ _ (n2 1))⟩, ⟨kk _ _ _ _ (n3 0), kk _ _ _ _ (n3 1)⟩, ⟨n4 0, n4 1⟩⟩
theorem m_ntR (w : World) : Calls Tryz.prog 71 #[] w fun e w' => (∃ v, e = .returned v ∧ SVr w' (.inr (.inr (.inr true))) v) ∧ Below w.heap.size w w' := by
 refine (nameAndTypesR_any w).mono ?_; rintro e w' ⟨⟨gc, b, F, y, rfl, hc, hc2⟩, hb⟩; exact ⟨⟨_, rfl, gc, b, F, y, rfl, hc, hc2⟩, hb⟩
theorem none_listedR {n x : Nat} : ¬ (Array.replicate n false).getD x false = true := by
 rw [Array.getD_eq_getD_getElem?, Array.getElem?_replicate]
 split <;> simp
theorem region_goR {l : List Oper} {Q : Exit → Act → World → Prop} {id : Nat} {a : Act} {w : World} {b1 b2 b3 b4 : Nat} (hm : Tryz.prog.follows .mixedOrders = true) (hsz : l.length = 74) (hb : edgesBack l.toArray = true) (hA : AllFromR (GOR w.drew b1 b2 b3 b4 Q) 0 l)
 (hstart : TIR w.drew b1 b2 b3 b4 (Array.replicate 74 false) a w.drew)
 (hend : ∀ (a : Act) (w' : World) (r : Nat) (L : List (Int × Value)), a.defers = [] → a.tmps.size = 68 → a.tmps[0]? = some (.map (some r)) → IMap w' r L → (∀ p ∈ L, ∃ F, (p.1, F) ∈ formTabR ∧ TFr w' F p.2) → (∀ x ∈ insTabR, ∃ v, (x.2, v) ∈ L) → Below w.heap.size w w' → Q .normal a w') : (Code.region id l.toArray true).wp Tryz.prog Q a w := by
 have hz : l.toArray.size = 74 := by simpa using hsz
 refine wp_region_inv (fun listed a w' => TIR w.drew b1 b2 b3 b4 listed a w') hm (by rw [hz]; exact hstart) ?_ ?_
 · intro listed a w' i o hs ho hu hall hI; have ho' : l[i]? = some o := by rw [← ho]; simp
   obtain ⟨hg, hG⟩ := all_getR l 0 i o hA ho'; rw [Nat.zero_add] at hG; refine wpOp_step ho (fun K' hK => ?_); rw [if_pos (by simp [Region.wanted, hg])]; exact hG listed a w' (hs.trans hz) hu hall hI K' hK
 · intro listed a w' hs hr hI; have hall := all_listed hb hs hr
   have hl : ∀ i, i < 74 → listed.getD i false = true := by
    intro i hi; have h1 := hall i (by omega); rw [Array.getD_eq_getD_getElem?, Array.getElem?_eq_getElem (by omega)] at h1 ⊢; simpa using h1
   obtain ⟨r, L, m1, m2, m3, m4, m5⟩ := hI.mp (hl 0 (by omega)); have h0 := hI.asg (hl 73 (by omega)); rw [m1] at h0; exact hend a w' r L hI.df hI.sz h0 m3 m4 (fun x hx => (m5 x hx).2 (hl x.1 (by have := (ins_factsR hx).2.1; omega))) (show Below w.heap.size w w' from (Below.refl w.heap.size w).drew.trans hI.be)
set_option maxRecDepth 100000 in
set_option maxHeartbeats 3200000 in
theorem textForms_anyR (w : World) : Calls Tryz.prog 26 #[] w fun e w' => (∃ r L, e = .returned (.map (some r)) ∧ IMap w' r L ∧ (∀ p ∈ L, ∃ F, (p.1, F) ∈ formTabR ∧ TFr w' F p.2) ∧ ∀ x ∈ insTabR, ∃ v, (x.2, v) ∈ L) ∧ Below w.heap.size w w' := by
 have h0 := fun W => fv_openR (nameWordR_any W)
 have h1 := fun W => fv_openR (textWordR_any W)
 have h2 := fun W => fv_openR (numberWordR_any 2 W)
 have h3 := fun W => fv_openR (timeWordR_any W)
 rw [show ((2 : Nat) : Int) = 2 from rfl] at h2; go_enter Tryz.func26, Tryz.ntmps26; go_wp2_with (first | (go_at_call 58; refine (h0 _).mono ?_; rintro e w1 ⟨⟨g1, x1, y1, F1, u1, rfl, q1⟩, b1⟩) | (go_at_call 59; refine (h1 _).mono ?_; rintro e w2 ⟨⟨g2, x2, y2, F2, u2, rfl, q2⟩, b2⟩) | (go_at_call 60; refine (h2 _).mono ?_; rintro e w3 ⟨⟨g3, x3, y3, F3, u3, rfl, q3⟩, b3⟩) | (go_at_call 61; refine (h3 _).mono ?_; rintro e w4 ⟨⟨g4, x4, y4, F4, u4, rfl, q4⟩, b4⟩))
 have bA : Below w4.heap.size w4 ((((w4.alloc (.cells #[.func g1 x1 y1, .func F1 #[] u1] 113)).alloc (.cells #[.func g2 x2 y2, .func F2 #[] u2] 113)).alloc (.cells #[.func g3 x3 y3, .func F3 #[] u3] 113)).alloc (.cells #[.func g4 x4 y4, .func F4 #[] u4] 113)) := ((((Below.refl _ _).alloc (Nat.le_refl _) _).alloc (by simp) _).alloc (by simp; omega) _).alloc (by simp; omega) _; have k4 := keptR_below bA; have k3 := (keptR_below b4).trans k4; have k2 := (keptR_below b3).trans k3; have k1 := (keptR_below b2).trans k2; obtain ⟨⟨z10, z11⟩, ⟨z20, z21⟩, ⟨z30, z31⟩, ⟨z40, z41⟩⟩ := four_formsR w4 113 (.func g1 x1 y1) (.func F1 #[] u1) (.func g2 x2 y2) (.func F2 #[] u2) (.func g3 x3 y3) (.func F3 #[] u3) (.func g4 x4 y4) (.func F4 #[] u4) _ rfl; have c1 : FVcR ((((w4.alloc (.cells #[.func g1 x1 y1, .func F1 #[] u1] 113)).alloc (.cells #[.func g2 x2 y2, .func F2 #[] u2] 113)).alloc (.cells #[.func g3 x3 y3, .func F3 #[] u3] 113)).alloc (.cells #[.func g4 x4 y4, .func F4 #[] u4] 113)).drew w4.heap.size 0 := ⟨g1, x1, y1, F1, u1, z10, z11, q1.kept k1⟩; have c2 : FVcR ((((w4.alloc (.cells #[.func g1 x1 y1, .func F1 #[] u1] 113)).alloc (.cells #[.func g2 x2 y2, .func F2 #[] u2] 113)).alloc (.cells #[.func g3 x3 y3, .func F3 #[] u3] 113)).alloc (.cells #[.func g4 x4 y4, .func F4 #[] u4] 113)).drew (w4.heap.size + 1) 1 := ⟨g2, x2, y2, F2, u2, z20, z21, q2.kept k2⟩; have c3 : FVcR ((((w4.alloc (.cells #[.func g1 x1 y1, .func F1 #[] u1] 113)).alloc (.cells #[.func g2 x2 y2, .func F2 #[] u2] 113)).alloc (.cells #[.func g3 x3 y3, .func F3 #[] u3] 113)).alloc (.cells #[.func g4 x4 y4, .func F4 #[] u4] 113)).drew (w4.heap.size + 1 + 1) 9 := ⟨g3, x3, y3, F3, u3, z30, z31, q3.kept k3⟩; have c4 : FVcR ((((w4.alloc (.cells #[.func g1 x1 y1, .func F1 #[] u1] 113)).alloc (.cells #[.func g2 x2 y2, .func F2 #[] u2] 113)).alloc (.cells #[.func g3 x3 y3, .func F3 #[] u3] 113)).alloc (.cells #[.func g4 x4 y4, .func F4 #[] u4] 113)).drew (w4.heap.size + 1 + 1 + 1) 6 := ⟨g4, x4, y4, F4, u4, z40, z41, q4.kept k4⟩; have bw := Nm.below_two (Nm.below_two (Nm.below_two (Nm.below_two b1 b2) b3) b4) bA; generalize ((((w4.alloc (.cells #[.func g1 x1 y1, .func F1 #[] u1] 113)).alloc (.cells #[.func g2 x2 y2, .func F2 #[] u2] 113)).alloc (.cells #[.func g3 x3 y3, .func F3 #[] u3] 113)).alloc (.cells #[.func g4 x4 y4, .func F4 #[] u4] 113)) = WW at *; generalize w4.heap.size = B at *; clear z10 z11 z20 z21 z30 z31 z40 z41 k1 k2 k3 k4 b1 b2 b3 b4 bA q1 q2 q3 q4 h0 h1 h2 h3; refine region_goR (b1 := B) (b2 := B + 1) (b3 := B + 1 + 1) (b4 := B + 1 + 1 + 1) (by kernel_rfl) (by kernel_rfl) (by kernel_rfl) (all_appendR _ _ 0 ?_ ?_) ⟨rfl, rfl, rfl, rfl, rfl, rfl, Below.refl _ _, fun x hx h => absurd h none_listedR, fun h => absurd h none_listedR, fun _ _ h => absurd h none_listedR, fun h => absurd h none_listedR, fun h => absurd h none_listedR⟩ ?_
 · exact ⟨go_makeR rfl rfl rfl,
    go_mkR (d := 1) (s := .inl 4) rfl rfl rfl (List.mem_of_getElem? (i := 0) rfl) (fun a => by first | rfl | simp [Act.eval]) (fun w => by kernel_rfl) m_a4R,
    go_slice1R (d := 2) (d0 := 1) (k0 := 4) rfl rfl rfl (List.mem_of_getElem? (i := 1) rfl) (List.mem_of_getElem? (i := 0) rfl) (by kernel_rfl),
    go_justR (d := 3) (d0 := 2) (ks := [4]) rfl rfl rfl (List.mem_of_getElem? (i := 2) rfl) (List.mem_of_getElem? (i := 1) rfl) (by kernel_rfl),
    go_insR (d := 4) (d0 := 3) (x := 1) (F := (.inl [4])) rfl rfl rfl (List.mem_of_getElem? (i := 0) rfl) (List.mem_of_getElem? (i := 0) rfl) (by decide) (List.mem_of_getElem? (i := 2) rfl) (by kernel_rfl) (by kernel_rfl),
    go_mkR (d := 5) (s := .inl 5) rfl rfl rfl (List.mem_of_getElem? (i := 3) rfl) (fun a => by first | rfl | simp [Act.eval]) (fun w => by kernel_rfl) m_a6R,
    go_slice1R (d := 6) (d0 := 5) (k0 := 5) rfl rfl rfl (List.mem_of_getElem? (i := 4) rfl) (List.mem_of_getElem? (i := 3) rfl) (by kernel_rfl),
    go_justR (d := 7) (d0 := 6) (ks := [5]) rfl rfl rfl (List.mem_of_getElem? (i := 5) rfl) (List.mem_of_getElem? (i := 4) rfl) (by kernel_rfl),
    go_insR (d := 8) (d0 := 7) (x := 28) (F := (.inl [5])) rfl rfl rfl (List.mem_of_getElem? (i := 1) rfl) (List.mem_of_getElem? (i := 1) rfl) (by decide) (List.mem_of_getElem? (i := 5) rfl) (by kernel_rfl) (by kernel_rfl),
    go_loadR (d := 9) (K := 0) rfl rfl rfl (List.mem_of_getElem? (i := 6) rfl) (fun h => h.p1) c1,
    go_slice1R (d := 10) (d0 := 9) (k0 := 0) rfl rfl rfl (List.mem_of_getElem? (i := 7) rfl) (List.mem_of_getElem? (i := 6) rfl) (by kernel_rfl),
    go_justR (d := 11) (d0 := 10) (ks := [0]) rfl rfl rfl (List.mem_of_getElem? (i := 8) rfl) (List.mem_of_getElem? (i := 7) rfl) (by kernel_rfl),
    go_insR (d := 12) (d0 := 11) (x := 2) (F := (.inl [0])) rfl rfl rfl (List.mem_of_getElem? (i := 2) rfl) (List.mem_of_getElem? (i := 2) rfl) (by decide) (List.mem_of_getElem? (i := 8) rfl) (by kernel_rfl) (by kernel_rfl),
    go_loadR (d := 13) (K := 0) rfl rfl rfl (List.mem_of_getElem? (i := 9) rfl) (fun h => h.p1) c1,
    go_slice1R (d := 14) (d0 := 13) (k0 := 0) rfl rfl rfl (List.mem_of_getElem? (i := 10) rfl) (List.mem_of_getElem? (i := 9) rfl) (by kernel_rfl),
    go_justR (d := 15) (d0 := 14) (ks := [0]) rfl rfl rfl (List.mem_of_getElem? (i := 11) rfl) (List.mem_of_getElem? (i := 10) rfl) (by kernel_rfl),
    go_insR (d := 16) (d0 := 15) (x := 5) (F := (.inl [0])) rfl rfl rfl (List.mem_of_getElem? (i := 3) rfl) (List.mem_of_getElem? (i := 3) rfl) (by decide) (List.mem_of_getElem? (i := 11) rfl) (by kernel_rfl) (by kernel_rfl),
    go_loadR (d := 17) (K := 0) rfl rfl rfl (List.mem_of_getElem? (i := 12) rfl) (fun h => h.p1) c1,
    go_slice1R (d := 18) (d0 := 17) (k0 := 0) rfl rfl rfl (List.mem_of_getElem? (i := 13) rfl) (List.mem_of_getElem? (i := 12) rfl) (by kernel_rfl),
    go_justR (d := 19) (d0 := 18) (ks := [0]) rfl rfl rfl (List.mem_of_getElem? (i := 14) rfl) (List.mem_of_getElem? (i := 13) rfl) (by kernel_rfl),
    go_insR (d := 20) (d0 := 19) (x := 12) (F := (.inl [0])) rfl rfl rfl (List.mem_of_getElem? (i := 4) rfl) (List.mem_of_getElem? (i := 4) rfl) (by decide) (List.mem_of_getElem? (i := 14) rfl) (by kernel_rfl) (by kernel_rfl),
    go_loadR (d := 21) (K := 0) rfl rfl rfl (List.mem_of_getElem? (i := 15) rfl) (fun h => h.p1) c1,
    go_slice1R (d := 22) (d0 := 21) (k0 := 0) rfl rfl rfl (List.mem_of_getElem? (i := 16) rfl) (List.mem_of_getElem? (i := 15) rfl) (by kernel_rfl),
    go_justR (d := 23) (d0 := 22) (ks := [0]) rfl rfl rfl (List.mem_of_getElem? (i := 17) rfl) (List.mem_of_getElem? (i := 16) rfl) (by kernel_rfl),
    go_insR (d := 24) (d0 := 23) (x := 39) (F := (.inl [0])) rfl rfl rfl (List.mem_of_getElem? (i := 5) rfl) (List.mem_of_getElem? (i := 5) rfl) (by decide) (List.mem_of_getElem? (i := 17) rfl) (by kernel_rfl) (by kernel_rfl),
    go_loadR (d := 25) (K := 9) rfl rfl rfl (List.mem_of_getElem? (i := 18) rfl) (fun h => h.p3) c3,
    go_loadR (d := 26) (K := 0) rfl rfl rfl (List.mem_of_getElem? (i := 19) rfl) (fun h => h.p1) c1,
    go_slice2R (d := 27) (d0 := 25) (k0 := 9) (d1 := 26) (k1 := 0) rfl rfl rfl (List.mem_of_getElem? (i := 20) rfl) (List.mem_of_getElem? (i := 18) rfl) (List.mem_of_getElem? (i := 19) rfl) (by kernel_rfl) (by kernel_rfl),
    go_justR (d := 28) (d0 := 27) (ks := [9, 0]) rfl rfl rfl (List.mem_of_getElem? (i := 21) rfl) (List.mem_of_getElem? (i := 20) rfl) (by kernel_rfl),
    go_insR (d := 29) (d0 := 28) (x := 15) (F := (.inl [9, 0])) rfl rfl rfl (List.mem_of_getElem? (i := 6) rfl) (List.mem_of_getElem? (i := 6) rfl) (by decide) (List.mem_of_getElem? (i := 21) rfl) (by kernel_rfl) (by kernel_rfl),
    go_loadR (d := 30) (K := 0) rfl rfl rfl (List.mem_of_getElem? (i := 22) rfl) (fun h => h.p1) c1,
    go_loadR (d := 31) (K := 0) rfl rfl rfl (List.mem_of_getElem? (i := 23) rfl) (fun h => h.p1) c1,
    go_mkR (d := 32) (s := .inl 11) rfl rfl rfl (List.mem_of_getElem? (i := 24) rfl) (fun a => by simp [Act.eval]) (fun w => by kernel_rfl) m_n4R,
    go_loadR (d := 33) (K := 6) rfl rfl rfl (List.mem_of_getElem? (i := 25) rfl) (fun h => h.p4) c4,
    go_loadR (d := 34) (K := 6) rfl rfl rfl (List.mem_of_getElem? (i := 26) rfl) (fun h => h.p4) c4,
    go_loadR (d := 35) (K := 6) rfl rfl rfl (List.mem_of_getElem? (i := 27) rfl) (fun h => h.p4) c4,
    go_loadR (d := 36) (K := 6) rfl rfl rfl (List.mem_of_getElem? (i := 28) rfl) (fun h => h.p4) c4, trivial⟩
 · exact ⟨go_slice7R (d := 37) (d0 := 30) (k0 := 0) (d1 := 31) (k1 := 0) (d2 := 32) (k2 := 11) (d3 := 33) (k3 := 6) (d4 := 34) (k4 := 6) (d5 := 35) (k5 := 6) (d6 := 36) (k6 := 6) rfl rfl rfl (List.mem_of_getElem? (i := 29) rfl) (List.mem_of_getElem? (i := 22) rfl) (List.mem_of_getElem? (i := 23) rfl) (List.mem_of_getElem? (i := 24) rfl) (List.mem_of_getElem? (i := 25) rfl) (List.mem_of_getElem? (i := 26) rfl) (List.mem_of_getElem? (i := 27) rfl) (List.mem_of_getElem? (i := 28) rfl) (by kernel_rfl) (by kernel_rfl) (by kernel_rfl) (by kernel_rfl) (by kernel_rfl) (by kernel_rfl) (by kernel_rfl),
    go_justR (d := 38) (d0 := 37) (ks := [0, 0, 11, 6, 6, 6, 6]) rfl rfl rfl (List.mem_of_getElem? (i := 30) rfl) (List.mem_of_getElem? (i := 29) rfl) (by kernel_rfl),
    go_insR (d := 39) (d0 := 38) (x := 6) (F := (.inl [0, 0, 11, 6, 6, 6, 6])) rfl rfl rfl (List.mem_of_getElem? (i := 7) rfl) (List.mem_of_getElem? (i := 7) rfl) (by decide) (List.mem_of_getElem? (i := 30) rfl) (by kernel_rfl) (by kernel_rfl),
    go_loadR (d := 40) (K := 9) rfl rfl rfl (List.mem_of_getElem? (i := 31) rfl) (fun h => h.p3) c3,
    go_loadR (d := 41) (K := 9) rfl rfl rfl (List.mem_of_getElem? (i := 32) rfl) (fun h => h.p3) c3,
    go_loadR (d := 42) (K := 9) rfl rfl rfl (List.mem_of_getElem? (i := 33) rfl) (fun h => h.p3) c3,
    go_loadR (d := 43) (K := 0) rfl rfl rfl (List.mem_of_getElem? (i := 34) rfl) (fun h => h.p1) c1,
    go_slice4R (d := 44) (d0 := 40) (k0 := 9) (d1 := 41) (k1 := 9) (d2 := 42) (k2 := 9) (d3 := 43) (k3 := 0) rfl rfl rfl (List.mem_of_getElem? (i := 35) rfl) (List.mem_of_getElem? (i := 31) rfl) (List.mem_of_getElem? (i := 32) rfl) (List.mem_of_getElem? (i := 33) rfl) (List.mem_of_getElem? (i := 34) rfl) (by kernel_rfl) (by kernel_rfl) (by kernel_rfl) (by kernel_rfl),
    go_justR (d := 45) (d0 := 44) (ks := [9, 9, 9, 0]) rfl rfl rfl (List.mem_of_getElem? (i := 36) rfl) (List.mem_of_getElem? (i := 35) rfl) (by kernel_rfl),
    go_insR (d := 46) (d0 := 45) (x := 33) (F := (.inl [9, 9, 9, 0])) rfl rfl rfl (List.mem_of_getElem? (i := 8) rfl) (List.mem_of_getElem? (i := 8) rfl) (by decide) (List.mem_of_getElem? (i := 36) rfl) (by kernel_rfl) (by kernel_rfl),
    go_loadR (d := 47) (K := 1) rfl rfl rfl (List.mem_of_getElem? (i := 37) rfl) (fun h => h.p2) c2,
    go_manyR (d := 48) (d0 := 47) rfl rfl rfl (List.mem_of_getElem? (i := 38) rfl) (List.mem_of_getElem? (i := 37) rfl) (by kernel_rfl),
    go_insR (d := 49) (d0 := 48) (x := 16) (F := (.inr false)) rfl rfl rfl (List.mem_of_getElem? (i := 9) rfl) (List.mem_of_getElem? (i := 9) rfl) (by decide) (List.mem_of_getElem? (i := 38) rfl) (by kernel_rfl) (by kernel_rfl),
    go_loadR (d := 50) (K := 1) rfl rfl rfl (List.mem_of_getElem? (i := 39) rfl) (fun h => h.p2) c2,
    go_loadR (d := 51) (K := 1) rfl rfl rfl (List.mem_of_getElem? (i := 40) rfl) (fun h => h.p2) c2,
    go_slice2R (d := 52) (d0 := 50) (k0 := 1) (d1 := 51) (k1 := 1) rfl rfl rfl (List.mem_of_getElem? (i := 41) rfl) (List.mem_of_getElem? (i := 39) rfl) (List.mem_of_getElem? (i := 40) rfl) (by kernel_rfl) (by kernel_rfl),
    go_justR (d := 53) (d0 := 52) (ks := [1, 1]) rfl rfl rfl (List.mem_of_getElem? (i := 42) rfl) (List.mem_of_getElem? (i := 41) rfl) (by kernel_rfl),
    go_insR (d := 54) (d0 := 53) (x := 13) (F := (.inl [1, 1])) rfl rfl rfl (List.mem_of_getElem? (i := 10) rfl) (List.mem_of_getElem? (i := 10) rfl) (by decide) (List.mem_of_getElem? (i := 42) rfl) (by kernel_rfl) (by kernel_rfl),
    go_loadR (d := 55) (K := 9) rfl rfl rfl (List.mem_of_getElem? (i := 43) rfl) (fun h => h.p3) c3,
    go_loadR (d := 56) (K := 9) rfl rfl rfl (List.mem_of_getElem? (i := 44) rfl) (fun h => h.p3) c3,
    go_loadR (d := 57) (K := 1) rfl rfl rfl (List.mem_of_getElem? (i := 45) rfl) (fun h => h.p2) c2,
    go_loadR (d := 58) (K := 1) rfl rfl rfl (List.mem_of_getElem? (i := 46) rfl) (fun h => h.p2) c2,
    go_loadR (d := 59) (K := 1) rfl rfl rfl (List.mem_of_getElem? (i := 47) rfl) (fun h => h.p2) c2,
    go_loadR (d := 60) (K := 0) rfl rfl rfl (List.mem_of_getElem? (i := 48) rfl) (fun h => h.p1) c1,
    go_slice6R (d := 61) (d0 := 55) (k0 := 9) (d1 := 56) (k1 := 9) (d2 := 57) (k2 := 1) (d3 := 58) (k3 := 1) (d4 := 59) (k4 := 1) (d5 := 60) (k5 := 0) rfl rfl rfl (List.mem_of_getElem? (i := 49) rfl) (List.mem_of_getElem? (i := 43) rfl) (List.mem_of_getElem? (i := 44) rfl) (List.mem_of_getElem? (i := 45) rfl) (List.mem_of_getElem? (i := 46) rfl) (List.mem_of_getElem? (i := 47) rfl) (List.mem_of_getElem? (i := 48) rfl) (by kernel_rfl) (by kernel_rfl) (by kernel_rfl) (by kernel_rfl) (by kernel_rfl) (by kernel_rfl),
    go_justR (d := 62) (d0 := 61) (ks := [9, 9, 1, 1, 1, 0]) rfl rfl rfl (List.mem_of_getElem? (i := 50) rfl) (List.mem_of_getElem? (i := 49) rfl) (by kernel_rfl),
    go_insR (d := 63) (d0 := 62) (x := 35) (F := (.inl [9, 9, 1, 1, 1, 0])) rfl rfl rfl (List.mem_of_getElem? (i := 11) rfl) (List.mem_of_getElem? (i := 11) rfl) (by decide) (List.mem_of_getElem? (i := 50) rfl) (by kernel_rfl) (by kernel_rfl),
    go_mkR (d := 64) (s := .inl 8) rfl rfl rfl (List.mem_of_getElem? (i := 51) rfl) (fun a => by simp [Act.eval]) (fun w => by kernel_rfl) m_n1R,
    go_mkR (d := 65) (s := .inl 2) rfl rfl rfl (List.mem_of_getElem? (i := 52) rfl) (fun a => by simp) (fun w => by kernel_rfl) m_tagR,
    go_mkR (d := 66) (s := .inl 3) rfl rfl rfl (List.mem_of_getElem? (i := 53) rfl) (fun a => by simp) (fun w => by kernel_rfl) m_restR,
    go_slice3R (d := 67) (d0 := 64) (k0 := 8) (d1 := 65) (k1 := 2) (d2 := 66) (k2 := 3) rfl rfl rfl (List.mem_of_getElem? (i := 54) rfl) (List.mem_of_getElem? (i := 51) rfl) (List.mem_of_getElem? (i := 52) rfl) (List.mem_of_getElem? (i := 53) rfl) (by kernel_rfl) (by kernel_rfl) (by kernel_rfl),
    go_justR (d := 68) (d0 := 67) (ks := [8, 2, 3]) rfl rfl rfl (List.mem_of_getElem? (i := 55) rfl) (List.mem_of_getElem? (i := 54) rfl) (by kernel_rfl),
    go_insR (d := 69) (d0 := 68) (x := 257) (F := (.inl [8, 2, 3])) rfl rfl rfl (List.mem_of_getElem? (i := 12) rfl) (List.mem_of_getElem? (i := 12) rfl) (by decide) (List.mem_of_getElem? (i := 55) rfl) (by kernel_rfl) (by kernel_rfl),
    go_mkR (d := 70) (s := .inr (.inr (.inr true))) rfl rfl rfl (List.mem_of_getElem? (i := 56) rfl) (fun a => by simp) (fun w => by kernel_rfl) m_ntR,
    go_insR (d := 71) (d0 := 70) (x := 47) (F := (.inr true)) rfl rfl rfl (List.mem_of_getElem? (i := 13) rfl) (List.mem_of_getElem? (i := 13) rfl) (by decide) (List.mem_of_getElem? (i := 56) rfl) (by kernel_rfl) (by kernel_rfl),
    go_mvR rfl rfl rfl (by kernel_rfl),
    go_asR rfl rfl rfl (by kernel_rfl) (by kernel_rfl), trivial⟩
 · intro a w' r L hdf hsz h0 hM hF hI hb; rename_i hk; refine hk _ _ ?_; go_wp2_with fail
   refine bodyPost_ret (v := .map (some r)) ?_ hdf ⟨⟨r, L, rfl, hM, hF, hI⟩, Nm.below_two bw hb⟩; simp [results, Tryz.results26, go_sem, h0]
/-- Bytes of one's own as a string. -/
theorem conv_any {W : World} {B m : Nat} {v : Value} {l : List UInt8} (h : W.ownsRow B 5 1 v m (Nm.bys l)) : (convert 87 9 v).run Tryz.prog W = .ok (.string ⟨l.toArray⟩) W := by
 rcases Nat.eq_zero_or_pos m with h0 | hp
 · subst h0; have hl0 : l = [] := List.length_eq_zero_iff.1 (by have := h.1; rw [Nm.bys_length] at this; omega); subst hl0
   rcases h.2 with ⟨rfl, _⟩ | ⟨g, cp, cur, rfl, _⟩
   · rw [run_convert_bytes_string _ 87 9 5 _ _ _ Tryz.underlying87 Tryz.underlying5 Tryz.underlying9]; rfl
   · exact run_convert_bytes_back (P := Tryz.prog) W 87 9 5 ⟨g, 0, none⟩ cp [] Tryz.underlying87 Tryz.underlying5 Tryz.underlying9 (by intro j hj; simp at hj)
 · obtain ⟨g, cp, rfl, hcv⟩ := Nm.conv_own (P := Tryz.prog) (src := 87) (dst := 9) Tryz.underlying87 Tryz.underlying5 Tryz.underlying9 h hp; exact hcv
theorem hex_byte {a b : Int} (ha : 0 ≤ a) (ha2 : a < 16) (hb : 0 ≤ b) (hb2 : b < 16) : ((UInt8.ofNat (16 * a + b).toNat).toNat : Int) = 16 * a + b := by
 rw [UInt8.toNat_ofNat']; omega
theorem no_quote {ws : List Wrd} {j : Nat} {x : Wrd} (h : ws[j]? = some x) (hq : x.2 = false) (ha : ∀ y ∈ ws.take j, y.2 = false) : ∀ y ∈ ws.take (j + 1), y.2 = false := by
 have hl := List.getElem?_eq_some_iff.1 h; intro y hy; rw [List.take_succ_eq_append_getElem hl.1, hl.2] at hy
 rcases List.mem_append.1 hy with hy | hy
 · exact ha y hy
 · rw [List.mem_singleton] at hy; rw [hy]; exact hq
set_option maxRecDepth 100000 in
set_option maxHeartbeats 4000000 in
theorem l03Plain_any (t : Int) (v : Value) (ws : List Wrd) (w : World) (h : CRow w v ws.length 2 (wdVs ws)) (hn : ws.length ≤ 1048576) (hz : wsz ws ≤ 1048576) :
 Calls Tryz.prog 17 #[.int .i64 t, v] w fun e w' => e = .returned (strV (plainS t ws)) ∧ Below w.heap.size w w' := by
 obtain ⟨i0, hi, hz0, hz1, hz2⟩ := info_parts Tryz.infoU8x; obtain ⟨_, a, cap, rfl, hcap, hmx, hc⟩ := h; obtain ⟨R, HR⟩ : ∃ R, Hid (R = plainS t ws) := ⟨_, rfl⟩; rw [← HR.out]; have HZ := Nm.hide hz; clear hz; go_enter Tryz.func17, Tryz.ntmps17; go_wp2
 go_loop [6, 7] (fun d i => ∃ j : Nat, j ≤ ws.length ∧ i = .int .i64 (j : Int) ∧ d = .string (dgs (ws.take j)) ∧ Hid (∀ y ∈ ws.take j, y.2 = false)) (fun _ i => ws.length - (intOf i).toNat)
 case atStart => exact ⟨0, Nat.zero_le _, rfl, by simp [dgs], by intro y hy; simp at hy⟩
 case round =>
  obtain ⟨j, hj, rfl, rfl, HQ⟩ := hrel
  by_cases hlt : j < ws.length
  · obtain ⟨x, hx⟩ : ∃ x, ws[j]? = some x := ⟨_, List.getElem?_eq_getElem hlt⟩; obtain ⟨b, off, rfl, hcell⟩ := hc (by omega); have c0 : w.cell? ⟨b, off + j * 2, none⟩ = some (.string x.1) := hcell _ _ (wdVs_at ws j 0 x hx (by decide)); have c1 : w.cell? ⟨b, off + j * 2 + 1, none⟩ = some (.bool x.2) := hcell _ _ (wdVs_at ws j 1 x hx (by decide)); have i1 : (0 : Int) ≤ (j : Int) := by omega
    have i2 : (j : Int) < (ws.length : Int) := by omega
    have hsm := dgs_step_le hx; have hzz := HZ.out; have hsum : (dgs (ws.take j)).size + x.1.size ≤ 9223372036854775807 := by omega
    cases hq : x.2 with
    | true =>
      rw [hq] at c1; have HN : Hid (R = (⟨#[]⟩, 15)) := by show _ = _; rw [HR.out]; exact plain_q (List.mem_of_getElem? hx) hq
      clear hcell hc hx HQ hsm hzz hsum; generalize dgs (ws.take j) = D at *; go_wp2; go_ret2; rw [HN.out]
      exact ⟨rfl, Below.refl _ _⟩
    | false =>
      rw [hq] at c1; have HN := Nm.hide (no_quote hx hq HQ.out)
      by_cases h0 : 0 < j
      · have HD := Nm.hide (dgs_step hx h0); have i3 : (0 : Int) < (j : Int) := by omega
        clear hcell hc hx HQ hsm hzz; generalize dgs (ws.take j) = D at *; go_wp2
        go_round
        case rel => exact ⟨j + 1, by omega, by go_num, by rw [HD.out], HN⟩
        case measure => simp [intOf]; omega
      · have HD : Hid (dgs (ws.take j) = dgs (ws.take (j + 1))) := by
         have e : j = 0 := by omega
         subst e; show _ = _
         rw [dgs_one]; rfl
        have d3 : decide ((0 : Int) < (j : Int)) = false := by simp; omega
        clear hcell hc hx HQ hsm hzz hsum; go_wp2
        go_round
        case rel => exact ⟨j + 1, by omega, by go_num, by rw [HD.out], HN⟩
        case measure => simp [intOf]; omega
  · have hjn : j = ws.length := by omega
    subst hjn; rw [List.take_length] at HQ ⊢; have hdz : (dgs ws).size ≤ 1048576 := Nat.le_trans (dgs_size ws) HZ.out
    by_cases h0 : ws.length = 0
    · have HN : Hid (R = (⟨#[]⟩, 15)) := by
       show _ = _
       rw [HR.out, List.length_eq_zero_iff.1 h0]; rfl
      have e0 : ((ws.length : Int) == 0) = true := by simp; exact List.length_eq_zero_iff.1 h0
      clear h0 hc HQ; generalize dgs ws = D at *; generalize ws.length = n at *; go_wp2; go_ret2; rw [HN.out]; exact ⟨rfl, Below.refl _ _⟩
    · obtain ⟨x, xs, hxs⟩ := List.exists_cons_of_ne_nil (show ws ≠ [] from fun e => h0 (by rw [e]; rfl)); have hx : ws[0]? = some x := by rw [hxs]; rfl
      obtain ⟨b, off, rfl, hcell⟩ := hc (by omega); have c0 : w.cell? ⟨b, off, none⟩ = some (.string x.1) := hcell _ _ (wdVs_at ws 0 0 x hx (by decide)); have e0 : ((ws.length : Int) == 0) = false := by rw [beq_eq_false_iff_ne]; omega
      have i1 : (0 : Int) < (ws.length : Int) := by omega
      have hnum := fun W => l03Number_any x.1 10 W (by decide)
      cases hO : numO x.1 10 with
      | none =>
        have HN : Hid (R = (⟨#[]⟩, 15)) := by
         show _ = _
         rw [HR.out, hxs]; exact plain_num (by rw [← hxs]; exact HQ.out) hO
        rw [hO] at hnum; simp only [numV, Option.getD_none, Option.isSome_none] at hnum; clear h0 hc HQ hcell hx hxs hO; generalize dgs ws = D at *; generalize ws.length = n at *; go_wp2_with (go_at_call 37; refine (hnum _).mono ?_; rintro e w1 ⟨rfl, hw⟩; obtain rfl : w = w1 := hw.symm; clear hw)
        go_ret2; rw [HN.out]
        exact ⟨rfl, Below.refl _ _⟩
      | some n =>
        have hnl := numO_lt hO
        have HP : Hid (R = plainT t n (dgs ws)) := by
         show _ = _
         rw [HR.out]; have := plain_some (t := t) (by rw [← hxs]; exact HQ.out) hO; rw [hxs]; exact this
        rw [hO] at hnum; simp only [numV, Option.getD_some, Option.isSome_some] at hnum; clear h0 hc HQ hcell hx hxs hO HR HZ; generalize dgs ws = D at *; generalize ws.length = m at *
        by_cases h2 : D.size = 2 * n
        · have b2 : ((D.size : Int) != 2 * (n : Int)) = false := by simp; omega
          have hst := hx_start D.data.toList; go_wp2_with (go_at_call 37; refine (hnum _).mono ?_; rintro e w1 ⟨rfl, hw⟩; obtain rfl : w = w1 := hw.symm; clear hw)
          clear hnum c0 e0 i1; have hJ0 : Hid (∃ k : Nat, 0 = 2 * k ∧ k ≤ n ∧ ([] : List UInt8).length = k ∧ HX D.data.toList k []) := ⟨0, rfl, Nat.zero_le _, rfl, hst⟩; clear hst
          go_loopw [10, 11] (fun v i wr => ∃ (J m : Nat) (l : List UInt8), J ≤ D.size ∧ m ≤ J ∧ i = .int .i64 (J : Int) ∧ Hid (∃ k : Nat, J = 2 * k ∧ k ≤ n ∧ l.length = k ∧ HX D.data.toList k l) ∧ Hid (l.length = m) ∧ wr.ownsRow w.heap.size 5 1 v m (Nm.bys l) ∧ Below w.heap.size w wr)
           (fun _ i _ => D.size - (intOf i).toNat)
          case atStart => exact ⟨0, 0, [], Nat.zero_le _, Nat.zero_le _, rfl, hJ0, rfl, World.ownsRow_made w #[] 0 (Nat.le_refl _) (by decide) rfl, (Below.refl _ _).alloc (Nat.le_refl _) _⟩
          case round =>
           obtain ⟨J, m, l, hJ, hmJ, rfl, HK, HL, hown, hbel⟩ := hrel; clear hJ0; have hsz := hbel.size
           by_cases hlt : J < D.size
           · have hlt1 : J + 1 < D.size := by
              obtain ⟨k, e1, _, _, _⟩ := HK.out; omega
             have i1 : (0 : Int) ≤ (J : Int) := by omega
             have i2 : (J : Int) < (D.size : Int) := by omega
             have i3 : (J : Int) + 1 < (D.size : Int) := by omega
             have hxa := fun W => l03Hex_any D[J] W
             have hxb := fun W => l03Hex_any D[J + 1] W
             have va := hexV_lt D[J]; have vb := hexV_lt D[J + 1]
             have HBD : Hid (hexV D[J] < 0 ∨ hexV D[J + 1] < 0 → R = (⟨#[]⟩, 15)) := by
              intro hb; obtain ⟨k, e1, _, _, e2⟩ := HK.out; subst e1; rw [HP.out, plainT, if_neg (by simpa using h2), hx_bad e2 hlt1 hb]
             have HST : Hid (¬ (hexV D[J] < 0 ∨ hexV D[J + 1] < 0) → ∃ k : Nat, J + 2 = 2 * k ∧ k ≤ n ∧ (l ++ [UInt8.ofNat (16 * hexV D[J] + hexV D[J + 1]).toNat]).length = k ∧ HX D.data.toList k (l ++ [UInt8.ofNat (16 * hexV D[J] + hexV D[J + 1]).toNat])) := by
              intro hb; obtain ⟨k, e1, e3, e4, e2⟩ := HK.out; subst e1; exact ⟨k + 1, by omega, by omega, by simp [e4], hx_step e2 hlt1 hb⟩
             clear HK HP; generalize hexV D[J] = A at *; generalize hexV D[J + 1] = B at *
             by_cases ha : A < 0
             · have d1 : decide (A < 0) = true := by simp; exact ha
               have HN := Nm.hide (HBD.out (.inl ha)); clear HBD HST ha h2 b2 hown; go_wp2_with (go_at_call 38; (with_reducible first | refine (hxa _).mono ?_ | refine (hxb _).mono ?_); rintro e w1 ⟨rfl, hw⟩; obtain rfl : wr = w1 := hw.symm; clear hw)
               go_ret2; rw [HN.out]; exact ⟨rfl, hbel⟩
             · have d1 : decide (A < 0) = false := by simp; omega
               by_cases hb : B < 0
               · have d2 : decide (B < 0) = true := by simp; exact hb
                 have HN := Nm.hide (HBD.out (.inr hb)); clear HBD HST ha hb h2 b2 hown; go_wp2_with (go_at_call 38; (with_reducible first | refine (hxa _).mono ?_ | refine (hxb _).mono ?_); rintro e w1 ⟨rfl, hw⟩; obtain rfl : wr = w1 := hw.symm; clear hw)
                 go_ret2; rw [HN.out]; exact ⟨rfl, hbel⟩
               · have d2 : decide (B < 0) = false := by simp; omega
                 have HST2 := Nm.hide (HST.out (by omega)); have HC := Nm.hide (hex_byte (a := A) (b := B) (by omega) (by omega) (by omega) (by omega)); have a0 : 0 ≤ A := by omega
                 have a1 : A < 16 := by omega
                 have b0 : 0 ≤ B := by omega
                 have b1 : B < 16 := by omega
                 generalize UInt8.ofNat (16 * A + B).toNat = c at *; clear HBD HST ha hb h2 b2 va vb; have HL2 : Hid ((l ++ [c]).length = m + 1) := by show _ = _; rw [List.length_append, HL.out]; rfl
                 clear HL; go_wp2_with (first | (go_at_call 38; (with_reducible first | refine (hxa _).mono ?_ | refine (hxb _).mono ?_); rintro e w1 ⟨rfl, hw⟩; obtain rfl : wr = w1 := hw.symm; clear hw) | (at_builtin; refine wpList_append_own _ rfl (.tmp 76) (.tmp 82) 87 rfl w.heap.size 5 i0 (.int .u8 0) 1 1 Tryz.underlying87 hi hz0 hz1 hz2 rfl (by decide) _ _ _ rfl (hown.alloc _) ⟨wr.heap.size, 0, none⟩ 1 1 [.int .u8 (16 * A + B)] rfl rfl (cell_new1 _ _ _) (Nm.one_cell _ rfl) (by unfold maxLen; omega) (by omega) (by simp; omega) ?_))
                 intro v' w4 hown' hgrow _; rw [← HC.out] at hown'; obtain ⟨X, HX, o4, b4, z4⟩ := one_step (c := c) hsz hown hbel _ hown' hgrow; clear hown' hgrow hown hbel; go_wp2; go_roundw
                 case rel => exact ⟨J + 2, m + 1, X, by omega, by omega, by go_num, by rw [HX.out]; exact HST2, by rw [HX.out]; exact HL2, o4, b4⟩
                 case measure => simp [intOf]; omega
           · have hJD : J = D.size := by omega
             have HE : Hid (hxL D.data.toList = some l) := by
              obtain ⟨k, e1, e3, e4, e2⟩ := HK.out; exact hx_end e2 (by simp; omega)
             subst hJD
             have HQ : Hid (plainT t n D = if cutCode t ⟨l.toArray⟩ = 0 then (⟨l.toArray⟩, 0) else (⟨#[]⟩, 7)) := by
              show _ = _
              rw [plainT, if_neg (by simpa using h2), HE.out]
             have hck := fun W => specCheckData_any t ⟨l.toArray⟩ W
             obtain ⟨L, HLL, hcv0⟩ : ∃ L, Hid (L = (⟨l.toArray⟩ : ByteArray)) ∧ ∀ W, W.ownsRow w.heap.size 5 1 u10 m (Nm.bys l) → (convert 87 9 u10).run Tryz.prog W = .ok (.string L) W := ⟨_, rfl, fun W hW => conv_any hW⟩; rw [← HLL.out] at hck HQ; clear HL HK HE; have hcv := hcv0 wr hown; obtain ⟨ua, uc, rfl⟩ := own_sl hown
             by_cases hc0 : cutCode t L = 0
             · have HN : Hid (R = (L, 0)) := by show _ = _; rw [HP.out, HQ.out, if_pos hc0]
               rw [hc0] at hck; clear hc0 HQ HP h2 b2; go_wp2_with (go_at_call 39; refine (hck _).mono ?_; rintro e w1 ⟨rfl, hb1⟩; have hcv1 := hcv0 w1 (own_below hown hb1); have hbel1 := Nm.below_two hbel hb1; clear hcv0 hcv hown hb1 hbel)
               go_ret2; rw [HN.out]; exact ⟨rfl, hbel1⟩
             · have HN : Hid (R = (⟨#[]⟩, 7)) := by show _ = _; rw [HP.out, HQ.out, if_neg hc0]
               have d7 : (cutCode t L != 0) = true := by rw [bne_iff_ne]; exact hc0
               clear hc0 HQ HP h2 b2; generalize cutCode t L = C at *; go_wp2_with (go_at_call 39; refine (hck _).mono ?_; rintro e w1 ⟨rfl, hb1⟩; have hbel1 := Nm.below_two hbel hb1; clear hcv0 hcv hown hb1 hbel)
               go_ret2; rw [HN.out]; exact ⟨rfl, hbel1⟩
        · have HN : Hid (R = (⟨#[]⟩, 15)) := by show _ = _; rw [HP.out, plainT, if_pos h2]
          have b2 : ((D.size : Int) != 2 * (n : Int)) = true := by simp; omega
          clear h2; go_wp2_with (go_at_call 37; refine (hnum _).mono ?_; rintro e w1 ⟨rfl, hw⟩; obtain rfl : w = w1 := hw.symm; clear hw)
          go_ret2; rw [HN.out]; exact ⟨rfl, Below.refl _ _⟩
end Go.Proofs.YtddabafaejahbaaGreatDoor
/- impl.hexValue by its contract. -/
namespace Go.Proofs.YtddabafaejahbaaGreatDoor
open Go.RowKit
theorem hex_low (c : UInt8) : hexV c = if Nm.digB (Nm.low c) = true then ((Nm.low c).toNat : Int) - 48 else if 97 ≤ (Nm.low c).toNat ∧ (Nm.low c).toNat ≤ 102 then ((Nm.low c).toNat : Int) - 97 + 10 else -1 := by
 by_cases hup : 65 ≤ c.toNat ∧ c.toNat ≤ 90
 · have hl := Nm.low_up hup; have d1 : Nm.digB c = false := by simp [Nm.digB]; omega
   have d2 : Nm.digB (Nm.low c) = false := by simp [Nm.digB]; omega
   unfold hexV; simp only [d1, d2, Bool.false_eq_true, if_false]; rw [if_neg (show ¬ (97 ≤ c.toNat ∧ c.toNat ≤ 102) by omega)]
   by_cases h : c.toNat ≤ 70
   · rw [if_pos (show 65 ≤ c.toNat ∧ c.toNat ≤ 70 by omega), if_pos (show 97 ≤ (Nm.low c).toNat ∧ (Nm.low c).toNat ≤ 102 by omega)]; omega
   · rw [if_neg (show ¬ (65 ≤ c.toNat ∧ c.toNat ≤ 70) by omega), if_neg (show ¬ (97 ≤ (Nm.low c).toNat ∧ (Nm.low c).toNat ≤ 102) by omega)]
 · rw [Nm.low_id hup]; unfold hexV; split
   · rfl
   · split
     · rfl
     · rw [if_neg (by omega)]
def hexR (v : Int) : Value := if 0 ≤ v then .tuple #[.int .u8 v, .bool true] else .tuple #[.int .u8 0, .bool false]
theorem hexR_yes (n : Nat) : hexR (n : Int) = .tuple #[.int .u8 (n : Int), .bool true] := by rw [hexR, if_pos (by omega)]
theorem hexR_no {v : Int} (h : v < 0) : hexR v = .tuple #[.int .u8 0, .bool false] := by rw [hexR, if_neg (by omega)]
set_option maxRecDepth 100000 in
set_option maxHeartbeats 400000 in
theorem hexValue_any (c : UInt8) (w : World) :
 Calls Tryz.prog 93 #[.int .u8 c.toNat] w fun e w' => e = .returned (hexR (hexV c)) ∧ w' = w := by
 have hf := foldByte_any c w; have hd := isDigit_any (Nm.low c) w; have hx := hex_low c; have hcl : ((Nm.low c).toNat : Int) < 256 := by have := (Nm.low c).toNat_lt; omega
 obtain ⟨R, HR⟩ : ∃ R, Hid (R = hexR (hexV c)) := ⟨_, rfl⟩; rw [← HR.out]
 cases hD : Nm.digB (Nm.low c) with
 | true =>
   have hb : 48 ≤ (Nm.low c).toNat ∧ (Nm.low c).toNat ≤ 57 := by simpa [Nm.digB] using hD
   have HN : Hid (R = .tuple #[.int .u8 (((Nm.low c).toNat : Int) - 48), .bool true]) := by
    show _ = _
    rw [HR.out, hx, if_pos hD, hexR, if_pos (by omega)]
   rw [hD] at hd; have h1 : (48 : Int) ≤ ((Nm.low c).toNat : Int) := by omega
   have h2 : ((Nm.low c).toNat : Int) ≤ 57 := by omega
   clear hD hb hx HR; generalize ((Nm.low c).toNat : Int) = d at *; go_enter Tryz.func93, Tryz.ntmps93; go_wp2_with (first | (go_at_call 154; refine hf.mono ?_; rintro e w1 ⟨rfl, hw⟩; obtain rfl : w = w1 := hw.symm; clear hw) | (go_at_call 92; refine hd.mono ?_; rintro e w1 ⟨rfl, hw⟩; obtain rfl : w = w1 := hw.symm; clear hw))
   go_ret2; rw [HN.out]
   exact ⟨rfl, rfl⟩
 | false =>
   rw [hD] at hd
   by_cases h1 : 97 ≤ (Nm.low c).toNat
   · by_cases h2 : (Nm.low c).toNat ≤ 102
     · have HN : Hid (R = .tuple #[.int .u8 (((Nm.low c).toNat : Int) - 97 + 10), .bool true]) := by
        show _ = _
        rw [HR.out, hx, if_neg (by simp [hD]), if_pos ⟨h1, h2⟩, hexR, if_pos (by omega)]
       have h1' : (97 : Int) ≤ ((Nm.low c).toNat : Int) := by omega
       have h2' : ((Nm.low c).toNat : Int) ≤ 102 := by omega
       clear hD hx HR h1 h2; generalize ((Nm.low c).toNat : Int) = d at *; go_enter Tryz.func93, Tryz.ntmps93; go_wp2_with (first | (go_at_call 154; refine hf.mono ?_; rintro e w1 ⟨rfl, hw⟩; obtain rfl : w = w1 := hw.symm; clear hw) | (go_at_call 92; refine hd.mono ?_; rintro e w1 ⟨rfl, hw⟩; obtain rfl : w = w1 := hw.symm; clear hw))
       go_ret2; rw [HN.out]; exact ⟨rfl, rfl⟩
     · have HN : Hid (R = .tuple #[.int .u8 0, .bool false]) := by
        show _ = _
        rw [HR.out, hx, if_neg (by simp [hD]), if_neg (by omega)]; rfl
       have h1' : (97 : Int) ≤ ((Nm.low c).toNat : Int) := by omega
       have h2' : (102 : Int) < ((Nm.low c).toNat : Int) := by omega
       clear hD hx HR h1 h2; generalize ((Nm.low c).toNat : Int) = d at *; go_enter Tryz.func93, Tryz.ntmps93; go_wp2_with (first | (go_at_call 154; refine hf.mono ?_; rintro e w1 ⟨rfl, hw⟩; obtain rfl : w = w1 := hw.symm; clear hw) | (go_at_call 92; refine hd.mono ?_; rintro e w1 ⟨rfl, hw⟩; obtain rfl : w = w1 := hw.symm; clear hw))
       go_ret2; rw [HN.out]; exact ⟨rfl, rfl⟩
   · have HN : Hid (R = .tuple #[.int .u8 0, .bool false]) := by
      show _ = _
      rw [HR.out, hx, if_neg (by simp [hD]), if_neg (by omega)]; rfl
     have h1' : ((Nm.low c).toNat : Int) < 97 := by omega
     clear hD hx HR h1; generalize ((Nm.low c).toNat : Int) = d at *; go_enter Tryz.func93, Tryz.ntmps93; go_wp2_with (first | (go_at_call 154; refine hf.mono ?_; rintro e w1 ⟨rfl, hw⟩; obtain rfl : w = w1 := hw.symm; clear hw) | (go_at_call 92; refine hd.mono ?_; rintro e w1 ⟨rfl, hw⟩; obtain rfl : w = w1 := hw.symm; clear hw))
     go_ret2; rw [HN.out]; exact ⟨rfl, rfl⟩
end Go.Proofs.YtddabafaejahbaaGreatDoor
