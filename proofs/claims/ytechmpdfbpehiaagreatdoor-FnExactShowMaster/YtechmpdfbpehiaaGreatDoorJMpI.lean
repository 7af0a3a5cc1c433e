import Derived.Maps.Own
import Derived.Test.YtechmpdfbpehiaaGreatDoorRows
import Derived.Test.YtechmpdfbpehiaaGreatDoorJIFm4
import Derived.Test.YtechmpdfbpehiaaGreatDoorJHexI
/- A map of the call's own with integers as keys: its entries as a list. -/
namespace Go.Proofs.YtechmpdfbpehiaaGreatDoor
open Go Go.Maps Go.MapKept Go.ChangeMaps

/-- Block r is a map with these entries. -/
def IMap (w : World) (r : Nat) (L : List (Int × Value)) : Prop := ∃ es clock, w.heap[r]? = some (.map es clock) ∧ es.toList.map (fun e => (e.key, e.val)) = L.map (fun p => (Value.int .i64 p.1, p.2)) ∧
  (∀ p ∈ L, (Lit.int .i64 p.1).wf = true) ∧ (L.map (·.1)).Nodup

theorem imap_made (w : World) : IMap (w.alloc (.map #[] 0)) w.heap.size [] :=
  ⟨#[], 0, by show (w.heap.push _)[w.heap.size]? = _; simp, rfl, by simp, by simp⟩

section
variable {P : Program} {w : World} {r : Nat} {L : List (Int × Value)} {t k e : TypeId}

theorem imap_entry {es : Array MapEntry} (h : es.toList.map (fun e => (e.key, e.val)) = L.map (fun p => (Value.int .i64 p.1, p.2))) {x : MapEntry} (hx : x ∈ es.toList) : ∃ p ∈ L, x.key = .int .i64 p.1 ∧ x.val = p.2 := by
  have : (x.key, x.val) ∈ es.toList.map (fun e => (e.key, e.val)) := List.mem_map.2 ⟨x, hx, rfl⟩
  rw [h] at this
  obtain ⟨p, hp, he⟩ := List.mem_map.1 this
  simp only [Prod.mk.injEq] at he
  exact ⟨p, hp, he.1.symm, he.2.symm⟩

theorem IMap.lt (h : IMap w r L) : r < w.heap.size := by
  obtain ⟨es, clock, hb, _⟩ := h
  obtain ⟨hlt, _⟩ := Array.getElem?_eq_some_iff.1 hb
  exact hlt

theorem IMap.kept {w' : World} (h : IMap w r L) (hb : w'.heap[r]? = w.heap[r]?) : IMap w' r L := by
  obtain ⟨es, clock, h1, h2⟩ := h
  exact ⟨es, clock, hb.trans h1, h2⟩

theorem grown_block (w : World) (r : Nat) (o : Obj) : w.grownBy (setBlock w r o) (some r) :=
  ⟨rfl, rfl, rfl, by simp [setBlock], fun k hk hne => by simp only [setBlock]; rw [Array.getElem?_setIfInBounds_ne (fun e => hne (by rw [e]))]⟩

theorem IMap.put (h : IMap w r L) (hk : P.underlying k = some (.int .i64)) (ht : P.underlying t = some (.map k e)) {x : Int} (hx : (Lit.int .i64 x).wf = true) (v : Value) (hn : ∀ p ∈ L, p.1 ≠ x) :
    ∃ w', (Instr.mapUpdate t (.map (some r)) (.int .i64 x) v).run P w = .ok () w' ∧ IMap w' r (L ++ [(x, v)]) ∧ w.grownBy w' (some r) := by
  have K : Keyed P k := int_keyed hk
  have hkey := keyOf_int_mk hk hx
  have hlt := h.lt
  obtain ⟨es, clock, hb, hes, hwf, hnd⟩ := h
  rcases K.find w hkey es.toList (fun y hy => by obtain ⟨p, hp, h1, _⟩ := imap_entry hes hy; rw [h1]; exact ⟨_, keyOf_int_mk hk (hwf p hp)⟩) with ⟨h1, h2⟩ | ⟨j, e0, h1, h2, h3⟩
  · refine ⟨setBlock w r (.map (es.push ⟨.int .i64 x, v, clock⟩) (clock + 1)), ?_, ⟨es.push ⟨.int .i64 x, v, clock⟩, clock + 1, ?_, ?_, ?_, ?_⟩, grown_block _ _ _⟩
    · simp [Instr.mapUpdate, run_underlying ht, MapKept.run_getObj_map hb, K.check w false hkey, h1, MapKept.run_setObj_map _ hb, Result.andThen, setBlock]
    · simp [setBlock, hlt]
    · rw [Array.toList_push, List.map_append, hes, List.map_append]; rfl
    · intro p hp
      rcases List.mem_append.1 hp with hp | hp
      · exact hwf p hp
      · simp at hp; subst hp; exact hx
    · rw [List.map_append, List.nodup_append]
      refine ⟨hnd, by simp, ?_⟩
      intro a ha b hb2
      simp at hb2
      subst hb2
      obtain ⟨p, hp, rfl⟩ := List.mem_map.1 ha
      exact hn p hp
  · exfalso
    obtain ⟨p, hp, h4, _⟩ := imap_entry hes (List.mem_of_getElem? h2)
    rw [h3] at h4
    simp at h4
    exact hn p hp h4.symm

theorem nodup_val {L : List (Int × Value)} (h : (L.map (·.1)).Nodup) {p q : Int × Value} (hp : p ∈ L) (hq : q ∈ L) (he : p.1 = q.1) : p = q := by
  induction L with
  | nil => cases hp
  | cons y L ih =>
    simp only [List.map_cons, List.nodup_cons] at h
    rcases List.mem_cons.1 hp with rfl | hp' <;> rcases List.mem_cons.1 hq with rfl | hq'
    · rfl
    · exact absurd (List.mem_map.2 ⟨q, hq', he.symm⟩) h.1
    · exact absurd (List.mem_map.2 ⟨p, hp', he⟩) h.1
    · exact ih h.2 hp' hq'

theorem IMap.get (h : IMap w r L) (hk : P.underlying k = some (.int .i64)) (ht : P.underlying t = some (.map k e)) {z : Value} (hz : (zeroValue e).run P w = .ok z w) {x : Int} (hx : (Lit.int .i64 x).wf = true) :
    ((∀ p ∈ L, p.1 ≠ x) ∧ (Instr.lookup t (.map (some r)) (.int .i64 x) true).run P w = .ok (.tuple #[z, .bool false]) w) ∨
    ∃ v, (x, v) ∈ L ∧ (Instr.lookup t (.map (some r)) (.int .i64 x) true).run P w = .ok (.tuple #[v, .bool true]) w := by
  have K : Keyed P k := int_keyed hk
  have hkey := keyOf_int_mk hk hx
  obtain ⟨es, clock, hb, hes, hwf, hnd⟩ := h
  rcases K.find w hkey es.toList (fun y hy => by obtain ⟨p, hp, h1, _⟩ := imap_entry hes hy; rw [h1]; exact ⟨_, keyOf_int_mk hk (hwf p hp)⟩) with ⟨h1, h2⟩ | ⟨j, e0, h1, h2, h3⟩
  · left
    refine ⟨?_, by simp [Instr.lookup, run_underlying ht, MapKept.run_getObj_map hb, K.check w _ hkey, h1, hz, Result.andThen]⟩
    intro p hp hpx
    have : (Value.int .i64 p.1, p.2) ∈ L.map (fun p => (Value.int .i64 p.1, p.2)) := List.mem_map.2 ⟨p, hp, rfl⟩
    rw [← hes] at this
    obtain ⟨y, hy, hye⟩ := List.mem_map.1 this
    simp only [Prod.mk.injEq] at hye
    exact h2 y hy (by rw [hye.1, hpx])
  · right
    obtain ⟨p, hp, h4, h5⟩ := imap_entry hes (List.mem_of_getElem? h2)
    rw [h3] at h4
    simp at h4
    refine ⟨p.2, by rw [h4]; exact hp, ?_⟩
    rw [← h5]
    simp [Instr.lookup, run_underlying ht, MapKept.run_getObj_map hb, K.check w _ hkey, h1, Result.andThen]
end
end Go.Proofs.YtechmpdfbpehiaaGreatDoor
/- The forms of data as text: what holds of their values, kept as memory grows. -/
namespace Go.Proofs.YtechmpdfbpehiaaGreatDoor
open Go.RowKit
set_option linter.unusedVariables false

/-- Every cell that is there is as it was. -/
def Kept (w w' : World) : Prop := ∀ a v, w.cell? a = some v → w'.cell? a = some v

theorem Kept.refl (w : World) : Kept w w := fun _ _ h => h
theorem Kept.trans {w w1 w2 : World} (h : Kept w w1) (h2 : Kept w1 w2) : Kept w w2 := fun a v hv => h2 a v (h a v hv)
theorem kept_below {w w' : World} (h : Below w.heap.size w w') : Kept w w' := fun a v hv => (h.cell (World.block_lt_of_cell? w _ hv)).trans hv
theorem kept_map {w w' : World} {r : Nat} {L : List (Int × Value)} (h : IMap w r L) (hg : w.grownBy w' (some r)) : Kept w w' := by
  intro a v hv
  have hlt := World.block_lt_of_cell? w _ hv
  by_cases e : a.block = r
  · obtain ⟨es, clock, hb, _⟩ := h
    rw [← e] at hb
    simp [World.cell?, hb] at hv
  · rw [World.cell?_of_block (hg.block a.block hlt (by simpa using e))]; exact hv

theorem WVal.kept {w w' : World} {K : Nat} {v : Value} (h : WVal w K v) (hk : Kept w w') : WVal w' K v := by
  match K, h with
  | 0, h => exact h
  | 1, h => exact h
  | 2, h => exact h
  | 3, h => exact h
  | 4, ⟨gs, gk, h1, h2, h3⟩ => exact ⟨gs, gk, h1, hk _ _ h2, hk _ _ h3⟩
  | 5, ⟨gs, gk, h1, h2, h3⟩ => exact ⟨gs, gk, h1, hk _ _ h2, hk _ _ h3⟩
  | k + 6, ⟨g, h1, h2⟩ => exact ⟨g, h1, hk _ _ h2⟩

/-- A form of a word: two function values, the second a writer of the kind. -/
def FV (w : World) (K : Nat) (f : Value) : Prop := ∃ g x y F u, f = .agg #[.func g x y, .func F #[] u] ∧ WVal w K (.func F #[] u)

theorem wval_func {w : World} {K : Nat} {v : Value} (h : WVal w K v) : ∃ F u, v = .func F #[] u := by
  match K, h with
  | 0, h => exact ⟨_, _, h⟩
  | 1, h => exact ⟨_, _, h⟩
  | 2, h => exact ⟨_, _, h⟩
  | 3, h => exact ⟨_, _, h⟩
  | 4, ⟨gs, gk, h1, _⟩ => exact ⟨_, _, h1⟩
  | 5, ⟨gs, gk, h1, _⟩ => exact ⟨_, _, h1⟩
  | k + 6, ⟨g, h1, _⟩ => exact ⟨_, _, h1⟩

theorem FVal.two {w : World} {K : Nat} {f : Value} (h : FVal w K f) : FV w K f := by
  obtain ⟨g, x, y, v, rfl, hv⟩ := h
  obtain ⟨F, u, rfl⟩ := wval_func hv
  exact ⟨g, x, y, F, u, rfl, hv⟩

theorem FV.kept {w w' : World} {K : Nat} {f : Value} (h : FV w K f) (hk : Kept w w') : FV w' K f := by
  obtain ⟨g, x, y, F, u, rfl, hv⟩ := h
  exact ⟨g, x, y, F, u, rfl, hv.kept hk⟩

theorem Forms.kept {w w' : World} {g : Nat} {ks : List Nat} (h : Forms w g ks) (hk : Kept w w') : Forms w' g ks := by
  intro i K hi
  obtain ⟨f, x, y, v, h1, h2, h3⟩ := h i K hi
  exact ⟨f, x, y, v, hk _ _ h1, hk _ _ h2, h3.kept hk⟩

/-- A slice of forms. -/
def SL (w : World) (ks : List Nat) (v : Value) : Prop := ∃ g, v = .slice (some ⟨g, 0, none⟩) ks.length ks.length ∧ Forms w g ks

/-- The form of a type's data: just these words; one text or more; a name and types. -/
def TFv (w : World) : List Nat ⊕ Bool → Value → Prop
  | .inl ks, v => ∃ g x y gc gf cap, v = .agg #[.func g x y, .func (.func 105) #[] #[.pointer (some ⟨gc, 0, none⟩)]] ∧ w.cell? ⟨gc, 0, none⟩ = some (.slice (some ⟨gf, 0, none⟩) ks.length cap) ∧ Forms w gf ks
  | .inr false, v => ∃ g x y gc, v = .agg #[.func g x y, .func (.func 114) #[] #[.pointer (some ⟨gc, 0, none⟩)]] ∧ w.cell? ⟨gc, 1, none⟩ = some (.func (.func 95) #[] #[])
  | .inr true, v => ∃ g x y gc, v = .agg #[.func g x y, .func (.func 122) #[] #[.pointer (some ⟨gc, 0, none⟩)]] ∧ w.cell? ⟨gc, 1, none⟩ = some (.func (.func 91) #[] #[])

theorem TFv.kept {w w' : World} {T : List Nat ⊕ Bool} {v : Value} (h : TFv w T v) (hk : Kept w w') : TFv w' T v := by
  match T, h with
  | .inl ks, ⟨g, x, y, gc, gf, cap, h1, h2, h3⟩ => exact ⟨g, x, y, gc, gf, cap, h1, hk _ _ h2, h3.kept hk⟩
  | .inr false, ⟨g, x, y, gc, h1, h2⟩ => exact ⟨g, x, y, gc, h1, hk _ _ h2⟩
  | .inr true, ⟨g, x, y, gc, h1, h2⟩ => exact ⟨g, x, y, gc, h1, hk _ _ h2⟩

/-- What a slot of textForms holds: a form of a word, a slice of such, a form of a type's data. -/
abbrev Sk := Nat ⊕ (List Nat ⊕ (List Nat ⊕ Bool))
def SV (w : World) : Sk → Value → Prop
  | .inl K, v => FV w K v
  | .inr (.inl ks), v => SL w ks v
  | .inr (.inr T), v => TFv w T v

theorem SV.kept {w w' : World} {s : Sk} {v : Value} (h : SV w s v) (hk : Kept w w') : SV w' s v := by
  match s, h with
  | .inl K, h => exact FV.kept h hk
  | .inr (.inl ks), ⟨g, h1, h2⟩ => exact ⟨g, h1, h2.kept hk⟩
  | .inr (.inr T), h => exact TFv.kept h hk

/-- The forms by type. -/
def formTab : List (Int × (List Nat ⊕ Bool)) := [(1, .inl [4]), (28, .inl [5]), (2, .inl [0]), (5, .inl [0]), (12, .inl [0]), (39, .inl [0]), (15, .inl [8, 0]), (6, .inl [0, 0, 10, 10, 10, 10, 10]), (33, .inl [8, 8, 8, 0]), (16, .inr false), (13, .inl [1, 1]), (35, .inl [8, 8, 1, 1, 1, 0]), (257, .inl [7, 2, 3]), (47, .inr true)]
end Go.Proofs.YtechmpdfbpehiaaGreatDoor
/- The operations of textForms' map literal, each by itself. -/
namespace Go.Proofs.YtechmpdfbpehiaaGreatDoor
open Go.RowKit
set_option linter.unusedVariables false

section
variable {o : Oper} {a : Act} {w : World} {K : Act → World → Prop} {Q : Exit → Act → World → Prop}

theorem op_load {t j b : Nat} {g F : Fn} {x y u : Array Value} (hop : o.op = .load 104 (.tmp t)) (hd : o.dst = some j) (ht : a.tmps[t]? = some (.pointer (some ⟨b, 0, none⟩)))
    (h0 : w.cell? ⟨b, 0, none⟩ = some (.func g x y)) (h1 : w.cell? ⟨b, 1, none⟩ = some (.func F #[] u)) (hK : K (a.put (some j) (.agg #[.func g x y, .func F #[] u])) w) : Oper.wp Tryz.prog o a w K Q := by
  have ht2 : a.tmps.getD t undef = .pointer (some ⟨b, 0, none⟩) := by rw [Array.getD_eq_getD_getElem?, ht]; rfl
  obtain ⟨dst, op, ty, pos, after, guard⟩ := o
  simp only at hop hd
  subst hop hd
  unfold Oper.wp execOp
  simp [go_sem, ht2, h0, h1, Result.andThen]
  exact hK

set_option maxRecDepth 100000 in
theorem op_slice1 {j s0 : Nat} {g0 F0 : Fn} {x0 y0 u0 : Array Value} (hop : o.op = .buildSlice 135 1 #[(0, .tmp s0)]) (hd : o.dst = some j) (h0 : a.tmps[s0]? = some (.agg #[.func g0 x0 y0, .func F0 #[] u0]))
    (hK : K (a.put (some j) (.slice (some ⟨w.heap.size, 0, none⟩) 1 1)) (w.alloc (.cells #[.func g0 x0 y0, .func F0 #[] u0] 104))) : Oper.wp Tryz.prog o a w K Q := by

  obtain ⟨dst, op, ty, pos, after, guard⟩ := o
  simp only at hop hd
  subst hop hd
  unfold Oper.wp execOp
  simp [go_sem, h0, Result.andThen]
  exact hK

set_option maxRecDepth 100000 in
theorem op_slice2 {j s0 s1 : Nat} {g0 F0 g1 F1 : Fn} {x0 y0 u0 x1 y1 u1 : Array Value} (hop : o.op = .buildSlice 135 2 #[(0, .tmp s0), (1, .tmp s1)]) (hd : o.dst = some j) (h0 : a.tmps[s0]? = some (.agg #[.func g0 x0 y0, .func F0 #[] u0])) (h1 : a.tmps[s1]? = some (.agg #[.func g1 x1 y1, .func F1 #[] u1]))
    (hK : K (a.put (some j) (.slice (some ⟨w.heap.size, 0, none⟩) 2 2)) (w.alloc (.cells #[.func g0 x0 y0, .func F0 #[] u0, .func g1 x1 y1, .func F1 #[] u1] 104))) : Oper.wp Tryz.prog o a w K Q := by

  obtain ⟨dst, op, ty, pos, after, guard⟩ := o
  simp only at hop hd
  subst hop hd
  unfold Oper.wp execOp
  simp [go_sem, h0, h1, Result.andThen]
  exact hK

set_option maxRecDepth 100000 in
theorem op_slice3 {j s0 s1 s2 : Nat} {g0 F0 g1 F1 g2 F2 : Fn} {x0 y0 u0 x1 y1 u1 x2 y2 u2 : Array Value} (hop : o.op = .buildSlice 135 3 #[(0, .tmp s0), (1, .tmp s1), (2, .tmp s2)]) (hd : o.dst = some j) (h0 : a.tmps[s0]? = some (.agg #[.func g0 x0 y0, .func F0 #[] u0])) (h1 : a.tmps[s1]? = some (.agg #[.func g1 x1 y1, .func F1 #[] u1])) (h2 : a.tmps[s2]? = some (.agg #[.func g2 x2 y2, .func F2 #[] u2]))
    (hK : K (a.put (some j) (.slice (some ⟨w.heap.size, 0, none⟩) 3 3)) (w.alloc (.cells #[.func g0 x0 y0, .func F0 #[] u0, .func g1 x1 y1, .func F1 #[] u1, .func g2 x2 y2, .func F2 #[] u2] 104))) : Oper.wp Tryz.prog o a w K Q := by

  obtain ⟨dst, op, ty, pos, after, guard⟩ := o
  simp only at hop hd
  subst hop hd
  unfold Oper.wp execOp
  simp [go_sem, h0, h1, h2, Result.andThen]
  exact hK

set_option maxRecDepth 100000 in
theorem op_slice4 {j s0 s1 s2 s3 : Nat} {g0 F0 g1 F1 g2 F2 g3 F3 : Fn} {x0 y0 u0 x1 y1 u1 x2 y2 u2 x3 y3 u3 : Array Value} (hop : o.op = .buildSlice 135 4 #[(0, .tmp s0), (1, .tmp s1), (2, .tmp s2), (3, .tmp s3)]) (hd : o.dst = some j) (h0 : a.tmps[s0]? = some (.agg #[.func g0 x0 y0, .func F0 #[] u0])) (h1 : a.tmps[s1]? = some (.agg #[.func g1 x1 y1, .func F1 #[] u1])) (h2 : a.tmps[s2]? = some (.agg #[.func g2 x2 y2, .func F2 #[] u2])) (h3 : a.tmps[s3]? = some (.agg #[.func g3 x3 y3, .func F3 #[] u3]))
    (hK : K (a.put (some j) (.slice (some ⟨w.heap.size, 0, none⟩) 4 4)) (w.alloc (.cells #[.func g0 x0 y0, .func F0 #[] u0, .func g1 x1 y1, .func F1 #[] u1, .func g2 x2 y2, .func F2 #[] u2, .func g3 x3 y3, .func F3 #[] u3] 104))) : Oper.wp Tryz.prog o a w K Q := by

  obtain ⟨dst, op, ty, pos, after, guard⟩ := o
  simp only at hop hd
  subst hop hd
  unfold Oper.wp execOp
  simp [go_sem, h0, h1, h2, h3, Result.andThen]
  exact hK

set_option maxRecDepth 100000 in
theorem op_slice6 {j s0 s1 s2 s3 s4 s5 : Nat} {g0 F0 g1 F1 g2 F2 g3 F3 g4 F4 g5 F5 : Fn} {x0 y0 u0 x1 y1 u1 x2 y2 u2 x3 y3 u3 x4 y4 u4 x5 y5 u5 : Array Value} (hop : o.op = .buildSlice 135 6 #[(0, .tmp s0), (1, .tmp s1), (2, .tmp s2), (3, .tmp s3), (4, .tmp s4), (5, .tmp s5)]) (hd : o.dst = some j) (h0 : a.tmps[s0]? = some (.agg #[.func g0 x0 y0, .func F0 #[] u0])) (h1 : a.tmps[s1]? = some (.agg #[.func g1 x1 y1, .func F1 #[] u1])) (h2 : a.tmps[s2]? = some (.agg #[.func g2 x2 y2, .func F2 #[] u2])) (h3 : a.tmps[s3]? = some (.agg #[.func g3 x3 y3, .func F3 #[] u3])) (h4 : a.tmps[s4]? = some (.agg #[.func g4 x4 y4, .func F4 #[] u4])) (h5 : a.tmps[s5]? = some (.agg #[.func g5 x5 y5, .func F5 #[] u5]))
    (hK : K (a.put (some j) (.slice (some ⟨w.heap.size, 0, none⟩) 6 6)) (w.alloc (.cells #[.func g0 x0 y0, .func F0 #[] u0, .func g1 x1 y1, .func F1 #[] u1, .func g2 x2 y2, .func F2 #[] u2, .func g3 x3 y3, .func F3 #[] u3, .func g4 x4 y4, .func F4 #[] u4, .func g5 x5 y5, .func F5 #[] u5] 104))) : Oper.wp Tryz.prog o a w K Q := by

  obtain ⟨dst, op, ty, pos, after, guard⟩ := o
  simp only at hop hd
  subst hop hd
  unfold Oper.wp execOp
  simp [go_sem, h0, h1, h2, h3, h4, h5, Result.andThen]
  exact hK

set_option maxRecDepth 100000 in
theorem op_slice7 {j s0 s1 s2 s3 s4 s5 s6 : Nat} {g0 F0 g1 F1 g2 F2 g3 F3 g4 F4 g5 F5 g6 F6 : Fn} {x0 y0 u0 x1 y1 u1 x2 y2 u2 x3 y3 u3 x4 y4 u4 x5 y5 u5 x6 y6 u6 : Array Value} (hop : o.op = .buildSlice 135 7 #[(0, .tmp s0), (1, .tmp s1), (2, .tmp s2), (3, .tmp s3), (4, .tmp s4), (5, .tmp s5), (6, .tmp s6)]) (hd : o.dst = some j) (h0 : a.tmps[s0]? = some (.agg #[.func g0 x0 y0, .func F0 #[] u0])) (h1 : a.tmps[s1]? = some (.agg #[.func g1 x1 y1, .func F1 #[] u1])) (h2 : a.tmps[s2]? = some (.agg #[.func g2 x2 y2, .func F2 #[] u2])) (h3 : a.tmps[s3]? = some (.agg #[.func g3 x3 y3, .func F3 #[] u3])) (h4 : a.tmps[s4]? = some (.agg #[.func g4 x4 y4, .func F4 #[] u4])) (h5 : a.tmps[s5]? = some (.agg #[.func g5 x5 y5, .func F5 #[] u5])) (h6 : a.tmps[s6]? = some (.agg #[.func g6 x6 y6, .func F6 #[] u6]))
    (hK : K (a.put (some j) (.slice (some ⟨w.heap.size, 0, none⟩) 7 7)) (w.alloc (.cells #[.func g0 x0 y0, .func F0 #[] u0, .func g1 x1 y1, .func F1 #[] u1, .func g2 x2 y2, .func F2 #[] u2, .func g3 x3 y3, .func F3 #[] u3, .func g4 x4 y4, .func F4 #[] u4, .func g5 x5 y5, .func F5 #[] u5, .func g6 x6 y6, .func F6 #[] u6] 104))) : Oper.wp Tryz.prog o a w K Q := by

  obtain ⟨dst, op, ty, pos, after, guard⟩ := o
  simp only at hop hd
  subst hop hd
  unfold Oper.wp execOp
  simp [go_sem, h0, h1, h2, h3, h4, h5, h6, Result.andThen]
  exact hK

theorem op_call {j F : Nat} {args : Array Operand} {tys : Array TypeId} {vs : Array Value} {R : Value → World → Prop} (hop : o.op = .call { callee := .value (.func F), args := args, argTypes := tys }) (hd : o.dst = some j) (hev : args.map a.eval = vs)
    (hent : (callFunc F vs).run Tryz.prog w = .ok (.enter F vs) w) (hc : Calls Tryz.prog F vs w fun e w' => ∃ v, e = .returned v ∧ R v w') (hK : ∀ v w', R v w' → K (a.put (some j) v) w') : Oper.wp Tryz.prog o a w K Q := by
  obtain ⟨dst, op, ty, pos, after, guard⟩ := o
  simp only at hop hd
  subst hop hd
  unfold Oper.wp execOp
  simp only [go_sem, resolve, invoke, Sem.run_bind, Sem.run_pure, Result.andThen_ok]
  rw [hev]
  have e : (#[] ++ vs ++ #[] : Array Value) = vs := by simp
  rw [e, hent, Oper.upon_enter]
  refine hc.mono ?_
  rintro e w' ⟨v, rfl, hr⟩
  exact hK v w' hr

theorem op_make {j : Nat} (hop : o.op = .makeMap 88 none) (hd : o.dst = some j) (hK : K (a.put (some j) (.map (some w.heap.size))) (w.alloc (.map #[] 0))) : Oper.wp Tryz.prog o a w K Q := by
  obtain ⟨dst, op, ty, pos, after, guard⟩ := o
  simp only at hop hd
  subst hop hd
  unfold Oper.wp execOp
  simp [go_sem, Instr.makeMap, Result.andThen]
  exact hK

theorem op_move {j s : Nat} {v : Value} (hop : o.op = .move (.tmp s) ∨ o.op = .assign (.tmp s)) (hd : o.dst = some j) (hs : a.tmps[s]? = some v) (hK : K (a.put (some j) v) w) : Oper.wp Tryz.prog o a w K Q := by
  have e : a.tmps.getD s undef = v := by rw [Array.getD_eq_getD_getElem?, hs]; rfl
  obtain ⟨dst, op, ty, pos, after, guard⟩ := o
  simp only at hop hd
  subst hd
  rcases hop with rfl | rfl
  · unfold Oper.wp execOp
    simp [go_sem, e]
    exact hK
  · unfold Oper.wp execOp
    simp [go_sem, e]
    exact hK

theorem op_insert {s r : Nat} {x : Int} {v : Value} {w' : World} (hop : o.op = .insert 88 (.tmp 9) (.const (.int .i64 x)) (.tmp s)) (hd : o.dst = none) (h9 : a.tmps[9]? = some (.map (some r))) (hs : a.tmps[s]? = some v)
    (hr : (Instr.mapUpdate 88 (.map (some r)) (.int .i64 x) v).run Tryz.prog w = .ok () w') (hK : K a w') : Oper.wp Tryz.prog o a w K Q := by
  have e9 : a.tmps.getD 9 undef = .map (some r) := by rw [Array.getD_eq_getD_getElem?, h9]; rfl
  have e : a.tmps.getD s undef = v := by rw [Array.getD_eq_getD_getElem?, hs]; rfl
  obtain ⟨dst, op, ty, pos, after, guard⟩ := o
  simp only at hop hd
  subst hop hd
  unfold Oper.wp execOp
  simp [go_sem, e9, e, hr, Result.andThen, Act.put]
  exact hK
end
end Go.Proofs.YtechmpdfbpehiaaGreatDoor
/- textForms' map literal: what holds while its operations come up, in whatever order. -/
namespace Go.Proofs.YtechmpdfbpehiaaGreatDoor
open Go.RowKit
set_option linter.unusedVariables false

/-- Which operation leaves what in which slot. -/
def slotTab : List (Nat × Nat × Sk) := [(1, 10, .inl 4), (2, 11, .inr (.inl [4])), (3, 12, .inr (.inr (.inl [4]))), (5, 13, .inl 5), (6, 14, .inr (.inl [5])), (7, 15, .inr (.inr (.inl [5]))), (9, 16, .inl 0), (10, 17, .inr (.inl [0])), (11, 18, .inr (.inr (.inl [0]))), (13, 19, .inl 0), (14, 20, .inr (.inl [0])), (15, 21, .inr (.inr (.inl [0]))), (17, 22, .inl 0), (18, 23, .inr (.inl [0])), (19, 24, .inr (.inr (.inl [0]))), (21, 25, .inl 0), (22, 26, .inr (.inl [0])), (23, 27, .inr (.inr (.inl [0]))), (25, 28, .inl 8), (26, 29, .inl 0), (27, 30, .inr (.inl [8, 0])), (28, 31, .inr (.inr (.inl [8, 0]))), (30, 32, .inl 0), (31, 33, .inl 0), (32, 34, .inl 10), (33, 35, .inl 10), (34, 36, .inl 10), (35, 37, .inl 10), (36, 38, .inl 10), (37, 39, .inr (.inl [0, 0, 10, 10, 10, 10, 10])), (38, 40, .inr (.inr (.inl [0, 0, 10, 10, 10, 10, 10]))), (40, 41, .inl 8), (41, 42, .inl 8), (42, 43, .inl 8), (43, 44, .inl 0), (44, 45, .inr (.inl [8, 8, 8, 0])), (45, 46, .inr (.inr (.inl [8, 8, 8, 0]))), (47, 47, .inl 1), (48, 48, .inr (.inr (.inr false))), (50, 49, .inl 1), (51, 50, .inl 1), (52, 51, .inr (.inl [1, 1])), (53, 52, .inr (.inr (.inl [1, 1]))), (55, 53, .inl 8), (56, 54, .inl 8), (57, 55, .inl 1), (58, 56, .inl 1), (59, 57, .inl 1), (60, 58, .inl 0), (61, 59, .inr (.inl [8, 8, 1, 1, 1, 0])), (62, 60, .inr (.inr (.inl [8, 8, 1, 1, 1, 0]))), (64, 61, .inl 7), (65, 62, .inl 2), (66, 63, .inl 3), (67, 64, .inr (.inl [7, 2, 3])), (68, 65, .inr (.inr (.inl [7, 2, 3]))), (70, 66, .inr (.inr (.inr true)))]
/-- Which operation lays which key into the map. -/
def insTab : List (Nat × Int) := [(4, 1), (8, 28), (12, 2), (16, 5), (20, 12), (24, 39), (29, 15), (39, 6), (46, 33), (49, 16), (54, 13), (63, 35), (69, 257), (71, 47)]

def slotFine : Bool := slotTab.all fun x => decide (1 ≤ x.1) && decide (x.1 ≤ 70) && decide (10 ≤ x.2.1) && decide (x.2.1 ≤ 66) && (slotTab.all fun y => (!(x.1 == y.1) || decide (x = y)) && (!(x.2.1 == y.2.1) || x.1 == y.1)) && (insTab.all fun y => !(y.1 == x.1))
theorem slot_fine : slotFine = true := by decide +kernel
def insFine : Bool := insTab.all fun x => decide (1 ≤ x.1) && decide (x.1 ≤ 71) && (insTab.all fun y => (x.1 == y.1) == (x.2 == y.2))
theorem ins_fine : insFine = true := by decide +kernel

theorem slot_facts {x : Nat × Nat × Sk} (h : x ∈ slotTab) : 1 ≤ x.1 ∧ x.1 ≤ 70 ∧ 10 ≤ x.2.1 ∧ x.2.1 ≤ 66 ∧ (∀ y ∈ slotTab, (x.1 = y.1 → x = y) ∧ (x.2.1 = y.2.1 → x.1 = y.1)) ∧ ∀ y ∈ insTab, y.1 ≠ x.1 := by
  have h1 := List.all_eq_true.1 slot_fine x h
  simp only [Bool.and_eq_true, decide_eq_true_eq, List.all_eq_true] at h1
  obtain ⟨⟨⟨⟨⟨a1, a2⟩, a3⟩, a4⟩, a5⟩, a6⟩ := h1
  refine ⟨a1, a2, a3, a4, fun y hy => ?_, fun y hy e => ?_⟩
  · have := a5 y hy
    simp only [Bool.or_eq_true, Bool.not_eq_true', beq_eq_false_iff_ne, beq_iff_eq, decide_eq_true_eq] at this
    exact ⟨fun e => this.1.resolve_left (fun n => n e), fun e => this.2.resolve_left (fun n => n e)⟩
  · have := a6 y hy
    simp [e] at this

theorem ins_facts {x : Nat × Int} (h : x ∈ insTab) : 1 ≤ x.1 ∧ x.1 ≤ 71 ∧ ∀ y ∈ insTab, (x.1 = y.1 ↔ x.2 = y.2) := by
  have h1 := List.all_eq_true.1 ins_fine x h
  simp only [Bool.and_eq_true, decide_eq_true_eq, List.all_eq_true] at h1
  obtain ⟨⟨a1, a2⟩, a3⟩ := h1
  refine ⟨a1, a2, fun y hy => ?_⟩
  have := a3 y hy
  simp only [beq_iff_eq] at this
  constructor
  · intro e
    have h2 : (x.1 == y.1) = true := by simp [e]
    rw [h2] at this
    simpa using this.symm
  · intro e
    have h2 : (x.2 == y.2) = true := by simp [e]
    rw [h2] at this
    simpa using this

/-- What holds while the operations come up. -/
structure TI (W0 : World) (b1 b2 b3 b4 : Nat) (listed : Array Bool) (a : Act) (w : World) : Prop where
  sz : a.tmps.size = 68
  df : a.defers = []
  p1 : a.tmps[1]? = some (.pointer (some ⟨b1, 0, none⟩))
  p2 : a.tmps[2]? = some (.pointer (some ⟨b2, 0, none⟩))
  p3 : a.tmps[3]? = some (.pointer (some ⟨b3, 0, none⟩))
  p4 : a.tmps[4]? = some (.pointer (some ⟨b4, 0, none⟩))
  be : Below W0.heap.size W0 w
  sl : ∀ x ∈ slotTab, listed.getD x.1 false = true → ∃ v, a.tmps[x.2.1]? = some v ∧ SV w x.2.2 v
  mp : listed.getD 0 false = true → ∃ r L, a.tmps[9]? = some (.map (some r)) ∧ W0.heap.size ≤ r ∧ IMap w r L ∧ (∀ p ∈ L, ∃ F, (p.1, F) ∈ formTab ∧ TFv w F p.2) ∧ (∀ x ∈ insTab, (∃ v, (x.2, v) ∈ L) ↔ listed.getD x.1 false = true)
  dn : ∀ d, ((∃ x, (d, x) ∈ insTab) ∨ d = 72 ∨ d = 73) → listed.getD d false = true → listed.getD 0 false = true
  mv : listed.getD 72 false = true → a.tmps[67]? = a.tmps[9]?
  asg : listed.getD 73 false = true → a.tmps[0]? = a.tmps[9]?

theorem gset {listed : Array Bool} {d x : Nat} (hd : d < listed.size) : (listed.setIfInBounds d true).getD x false = true ↔ x = d ∨ listed.getD x false = true := by
  rw [Array.getD_eq_getD_getElem?, Array.getD_eq_getD_getElem?, Array.getElem?_setIfInBounds]
  by_cases e : d = x
  · subst e; simp [hd]
  · rw [if_neg e]
    constructor
    · exact fun h => .inr h
    · rintro (h | h)
      · exact absurd h.symm e
      · exact h

theorem put_get {a : Act} {j i : Nat} {v : Value} (hj : j < a.tmps.size) : (a.put (some j) v).tmps[i]? = if j = i then some v else a.tmps[i]? := by
  show (a.tmps.setIfInBounds j v)[i]? = _
  rw [Array.getElem?_setIfInBounds]
  by_cases e : j = i
  · subst e; simp [hj]
  · rw [if_neg e, if_neg e]

section
variable {b1 b2 b3 b4 : Nat} {W0 : World} {listed : Array Bool} {a : Act} {w w' : World}

theorem ti_put {d j : Nat} {s : Sk} {v : Value} (h : TI W0 b1 b2 b3 b4 listed a w) (hl : listed.size = 74) (hb : Below w.heap.size w w') (ht : (d, j, s) ∈ slotTab) (hv : SV w' s v) : TI W0 b1 b2 b3 b4 (listed.setIfInBounds d true) (a.put (some j) v) w' := by
  obtain ⟨f1, f2, f3, f4, f5, f6⟩ := slot_facts ht
  simp only at f1 f2 f3 f4 f5 f6
  have hj : j < a.tmps.size := by rw [h.sz]; omega
  have hd : d < listed.size := by omega
  have hk := kept_below hb
  have far : ∀ i, j ≠ i → (a.put (some j) v).tmps[i]? = a.tmps[i]? := fun i hi => by rw [put_get hj, if_neg hi]
  refine ⟨by show (a.tmps.setIfInBounds j v).size = 68; simpa using h.sz, h.df, by rw [far 1 (by omega)]; exact h.p1, by rw [far 2 (by omega)]; exact h.p2, by rw [far 3 (by omega)]; exact h.p3, by rw [far 4 (by omega)]; exact h.p4, h.be.trans (hb.mono h.be.size), ?_, ?_, ?_, ?_, ?_⟩
  · intro x hx hlx
    rcases (gset hd).1 hlx with e | e
    · have := (f5 x hx).1 e.symm
      subst this
      exact ⟨v, by rw [put_get hj, if_pos rfl], hv⟩
    · obtain ⟨v', hv1, hv2⟩ := h.sl x hx e
      by_cases e2 : d = x.1
      · have := (f5 x hx).1 e2
        subst this
        exact ⟨v, by rw [put_get hj, if_pos rfl], hv⟩
      · refine ⟨v', ?_, hv2.kept hk⟩
        rw [far _ (fun e3 => e2 ((f5 x hx).2 e3))]
        exact hv1
  · intro h0
    rcases (gset hd).1 h0 with e | e
    · omega
    · obtain ⟨r, L, m1, m2, m3, m4, m5⟩ := h.mp e
      refine ⟨r, L, by rw [far 9 (by omega)]; exact m1, m2, m3.kept (hb.block r m3.lt), fun p hp => ?_, fun x hx => ?_⟩
      · obtain ⟨F, q1, q2⟩ := m4 p hp
        exact ⟨F, q1, q2.kept hk⟩
      · rw [m5 x hx, gset hd]
        have := f6 x hx
        constructor
        · exact fun h => .inr h
        · rintro (h | h)
          · exact absurd h this
          · exact h
  · intro y hy hly
    rcases (gset hd).1 hly with e | e
    · rcases hy with ⟨x, hx⟩ | rfl | rfl
      · exact absurd e (f6 _ hx)
      · omega
      · omega
    · exact (gset hd).2 (.inr (h.dn y hy e))
  · intro h0
    rcases (gset hd).1 h0 with e | e
    · omega
    · rw [far 67 (by omega), far 9 (by omega)]; exact h.mv e
  · intro h0
    rcases (gset hd).1 h0 with e | e
    · omega
    · rw [far 0 (by omega), far 9 (by omega)]; exact h.asg e

theorem ti_ins {d r : Nat} {x : Int} {v : Value} {F : List Nat ⊕ Bool} (h : TI W0 b1 b2 b3 b4 listed a w) (hl : listed.size = 74) (hu : listed.getD d true = false) (h0 : listed.getD 0 false = true) (hi : (d, x) ∈ insTab) (hF : (x, F) ∈ formTab) (hw : (Lit.int .i64 x).wf = true) (hv : TFv w F v) :
    ∃ r w', a.tmps[9]? = some (.map (some r)) ∧ (Instr.mapUpdate 88 (.map (some r)) (.int .i64 x) v).run Tryz.prog w = .ok () w' ∧ TI W0 b1 b2 b3 b4 (listed.setIfInBounds d true) a w' := by
  obtain ⟨f1, f2, f3⟩ := ins_facts hi
  simp only at f1 f2 f3
  have hd : d < listed.size := by omega
  have hud : ¬ listed.getD d false = true := by
    rw [Array.getD_eq_getD_getElem?, Array.getElem?_eq_getElem hd] at hu ⊢
    simp at hu ⊢
    exact hu
  obtain ⟨r, L, m1, m2, m3, m4, m5⟩ := h.mp h0
  have hnew : ∀ p ∈ L, p.1 ≠ x := by
    intro p hp e
    apply hud
    rw [← m5 (d, x) hi]
    exact ⟨p.2, by rw [← e]; exact hp⟩
  obtain ⟨w', q1, q2, q3⟩ := m3.put (P := Tryz.prog) (t := 88) (k := 2) (e := 86) Tryz.underlying2 Tryz.underlying88 hw v hnew
  have hk := kept_map m3 q3
  refine ⟨r, w', m1, q1, h.sz, h.df, h.p1, h.p2, h.p3, h.p4, h.be.grown q3 h.be.size (fun k hk => by simp at hk; omega), ?_, ?_, ?_, ?_, ?_⟩
  · intro y hy hly
    rcases (gset hd).1 hly with e | e
    · exact absurd e.symm ((slot_facts hy).2.2.2.2.2 (d, x) hi)
    · obtain ⟨v', hv1, hv2⟩ := h.sl y hy e
      exact ⟨v', hv1, hv2.kept hk⟩
  · intro _
    refine ⟨r, L ++ [(x, v)], m1, m2, q2, fun p hp => ?_, fun y hy => ?_⟩
    · rcases List.mem_append.1 hp with hp | hp
      · obtain ⟨F', z1, z2⟩ := m4 p hp
        exact ⟨F', z1, z2.kept hk⟩
      · simp at hp
        subst hp
        exact ⟨F, hF, hv.kept hk⟩
    · rw [gset hd, ← m5 y hy]
      constructor
      · rintro ⟨u, hu2⟩
        rcases List.mem_append.1 hu2 with hp | hp
        · exact .inr ⟨u, hp⟩
        · simp at hp
          exact .inl ((f3 y hy).2 hp.1.symm).symm
      · rintro (e | ⟨u, hp⟩)
        · exact ⟨v, List.mem_append.2 (.inr (by simp [((f3 y hy).1 e.symm)]))⟩
        · exact ⟨u, List.mem_append.2 (.inl hp)⟩
  · intro _ _ _
    exact (gset hd).2 (.inr h0)
  · intro e
    rcases (gset hd).1 e with e | e
    · omega
    · exact h.mv e
  · intro e
    rcases (gset hd).1 e with e | e
    · omega
    · exact h.asg e

theorem unl {d : Nat} (hd : d < listed.size) (hu : listed.getD d true = false) : ¬ listed.getD d false = true := by
  rw [Array.getD_eq_getD_getElem?, Array.getElem?_eq_getElem hd] at hu ⊢
  simp at hu ⊢
  exact hu

theorem ti_make (h : TI W0 b1 b2 b3 b4 listed a w) (hl : listed.size = 74) (hu : listed.getD 0 true = false) : TI W0 b1 b2 b3 b4 (listed.setIfInBounds 0 true) (a.put (some 9) (.map (some w.heap.size))) (w.alloc (.map #[] 0)) := by
  have hj : 9 < a.tmps.size := by rw [h.sz]; omega
  have hd : 0 < listed.size := by omega
  have h0 := unl hd hu
  have hn : ∀ x ∈ insTab, ¬ listed.getD x.1 false = true := fun x hx e => h0 (h.dn x.1 (.inl ⟨x.2, hx⟩) e)
  have hn2 : ¬ listed.getD 72 false = true := fun e => h0 (h.dn 72 (.inr (.inl rfl)) e)
  have hn3 : ¬ listed.getD 73 false = true := fun e => h0 (h.dn 73 (.inr (.inr rfl)) e)
  have hb : Below w.heap.size w (w.alloc (.map #[] 0)) := (Below.refl _ _).alloc (Nat.le_refl _) _
  have hk := kept_below hb
  have far : ∀ i, 9 ≠ i → (a.put (some 9) (.map (some w.heap.size))).tmps[i]? = a.tmps[i]? := fun i hi => by rw [put_get hj, if_neg hi]
  refine ⟨by show (a.tmps.setIfInBounds 9 _).size = 68; simpa using h.sz, h.df, by rw [far 1 (by omega)]; exact h.p1, by rw [far 2 (by omega)]; exact h.p2, by rw [far 3 (by omega)]; exact h.p3, by rw [far 4 (by omega)]; exact h.p4, h.be.trans (hb.mono h.be.size), ?_, ?_, ?_, ?_, ?_⟩
  · intro x hx hlx
    obtain ⟨f1, f2, f3, f4, f5, f6⟩ := slot_facts hx
    rcases (gset hd).1 hlx with e | e
    · omega
    · obtain ⟨v', hv1, hv2⟩ := h.sl x hx e
      exact ⟨v', by rw [far _ (by omega)]; exact hv1, hv2.kept hk⟩
  · intro _
    refine ⟨w.heap.size, [], by rw [put_get hj, if_pos rfl], h.be.size, imap_made w, fun p hp => (by cases hp), fun x hx => ?_⟩
    rw [gset hd]
    constructor
    · rintro ⟨v, hv⟩; cases hv
    · rintro (e | e)
      · have := (ins_facts hx).1; omega
      · exact absurd e (hn x hx)
  · intro _ _ _
    exact (gset hd).2 (.inl rfl)
  · intro e
    rcases (gset hd).1 e with e | e
    · omega
    · exact absurd e hn2
  · intro e
    rcases (gset hd).1 e with e | e
    · omega
    · exact absurd e hn3

theorem ti_mv {v : Value} (h : TI W0 b1 b2 b3 b4 listed a w) (hl : listed.size = 74) (h0 : listed.getD 0 false = true) (h9 : a.tmps[9]? = some v) : TI W0 b1 b2 b3 b4 (listed.setIfInBounds 72 true) (a.put (some 67) v) w := by
  have hj : 67 < a.tmps.size := by rw [h.sz]; omega
  have hd : 72 < listed.size := by omega
  have far : ∀ i, 67 ≠ i → (a.put (some 67) v).tmps[i]? = a.tmps[i]? := fun i hi => by rw [put_get hj, if_neg hi]
  refine ⟨by show (a.tmps.setIfInBounds 67 _).size = 68; simpa using h.sz, h.df, by rw [far 1 (by omega)]; exact h.p1, by rw [far 2 (by omega)]; exact h.p2, by rw [far 3 (by omega)]; exact h.p3, by rw [far 4 (by omega)]; exact h.p4, h.be, ?_, ?_, ?_, ?_, ?_⟩
  · intro x hx hlx
    obtain ⟨f1, f2, f3, f4, f5, f6⟩ := slot_facts hx
    rcases (gset hd).1 hlx with e | e
    · omega
    · obtain ⟨v', hv1, hv2⟩ := h.sl x hx e
      exact ⟨v', by rw [far _ (by omega)]; exact hv1, hv2⟩
  · intro _
    obtain ⟨r, L, m1, m2, m3, m4, m5⟩ := h.mp h0
    refine ⟨r, L, by rw [far 9 (by omega)]; exact m1, m2, m3, m4, fun x hx => ?_⟩
    rw [m5 x hx, gset hd]
    have := (ins_facts hx).2.1
    constructor
    · exact fun h => .inr h
    · rintro (h | h)
      · omega
      · exact h
  · intro _ _ _
    exact (gset hd).2 (.inr h0)
  · intro _
    rw [put_get hj, if_pos rfl, far 9 (by omega), h9]
  · intro e
    rcases (gset hd).1 e with e | e
    · omega
    · rw [far 0 (by omega), far 9 (by omega)]; exact h.asg e

theorem ti_as {v : Value} (h : TI W0 b1 b2 b3 b4 listed a w) (hl : listed.size = 74) (h0 : listed.getD 0 false = true) (h9 : a.tmps[9]? = some v) : TI W0 b1 b2 b3 b4 (listed.setIfInBounds 73 true) (a.put (some 0) v) w := by
  have hj : 0 < a.tmps.size := by rw [h.sz]; omega
  have hd : 73 < listed.size := by omega
  have far : ∀ i, 0 ≠ i → (a.put (some 0) v).tmps[i]? = a.tmps[i]? := fun i hi => by rw [put_get hj, if_neg hi]
  refine ⟨by show (a.tmps.setIfInBounds 0 _).size = 68; simpa using h.sz, h.df, by rw [far 1 (by omega)]; exact h.p1, by rw [far 2 (by omega)]; exact h.p2, by rw [far 3 (by omega)]; exact h.p3, by rw [far 4 (by omega)]; exact h.p4, h.be, ?_, ?_, ?_, ?_, ?_⟩
  · intro x hx hlx
    obtain ⟨f1, f2, f3, f4, f5, f6⟩ := slot_facts hx
    rcases (gset hd).1 hlx with e | e
    · omega
    · obtain ⟨v', hv1, hv2⟩ := h.sl x hx e
      exact ⟨v', by rw [far _ (by omega)]; exact hv1, hv2⟩
  · intro _
    obtain ⟨r, L, m1, m2, m3, m4, m5⟩ := h.mp h0
    refine ⟨r, L, by rw [far 9 (by omega)]; exact m1, m2, m3, m4, fun x hx => ?_⟩
    rw [m5 x hx, gset hd]
    have := (ins_facts hx).2.1
    constructor
    · exact fun h => .inr h
    · rintro (h | h)
      · omega
      · exact h
  · intro _ _ _
    exact (gset hd).2 (.inr h0)
  · intro e
    rcases (gset hd).1 e with e | e
    · omega
    · rw [far 67 (by omega), far 9 (by omega)]; exact h.mv e
  · intro _
    rw [put_get hj, if_pos rfl, far 9 (by omega), h9]
end
end Go.Proofs.YtechmpdfbpehiaaGreatDoor
