import Derived.Test.YtkiadnglbjamfaaJCRow
import Derived.Test.YtkiadnglbjamfaaJPfM
import Derived.Test.YtkiadnglbjamfaaJSplit
/- Variables that lie in blocks of their own. -/
namespace Go.Proofs.Ytkiadnglbjamfaa
open Go.RowKit
set_option linter.unusedVariables false

theorem hgr_step {w w1 w2 : World} {g : Nat} (h : w.grownBy w1 (some g)) (h2 : w1.grownBy w2 (some g)) : w.grownBy w2 (some g) :=
  ⟨h2.os.trans h.os, h2.tape.trans h.tape, h2.output.trans h.output, Nat.le_trans h.size h2.size, fun k hk hne => (h2.block k (Nat.lt_of_lt_of_le hk h.size) hne).trans (h.block k hk hne)⟩

theorem hgr_below {w w1 w2 : World} {g : Nat} (h : w.grownBy w1 (some g)) (h2 : Below w1.heap.size w1 w2) : w.grownBy w2 (some g) :=
  ⟨h2.os.trans h.os, h2.tape.trans h.tape, h2.output.trans h.output, Nat.le_trans h.size h2.size, fun k hk hne =>
    (h2.block k (Nat.lt_of_lt_of_le hk h.size)).trans (h.block k hk hne)⟩

theorem hgr_set {w w1 : World} {g b i : Nat} {v : Value} (h : w.grownBy w1 (some g)) (hb : w.heap.size ≤ b) : w.grownBy (w1.setCell ⟨b, i, none⟩ v) (some g) :=
  ⟨h.os, h.tape, h.output, by simpa using h.size, fun k hk hne => by rw [heap_setCell_other w1 ⟨b, i, none⟩ k _ (by simp; omega)]; exact h.block k hk hne⟩

/-- A variable's cells lie in block b. -/
def Blk (w : World) (b : Nat) (cs : Array Value) (T : TypeId) : Prop := w.heap[b]? = some (.cells cs T (0, 0))

theorem blk_lt {w : World} {b : Nat} {cs : Array Value} {T : TypeId} (h : Blk w b cs T) : b < w.heap.size := (Array.getElem?_eq_some_iff.1 h).1
theorem blk_grown {w w1 : World} {b : Nat} {cs : Array Value} {T : TypeId} {row : Option Nat} (h : Blk w b cs T) (hg : w.grownBy w1 row) (hr : row ≠ some b) : Blk w1 b cs T := by
  unfold Blk
  rw [hg.block b (blk_lt h) (fun e => hr e.symm)]; exact h
theorem blk_below {w w1 : World} {b : Nat} {cs : Array Value} {T : TypeId} (h : Blk w b cs T) (hb : Below w.heap.size w w1) : Blk w1 b cs T := by
  unfold Blk
  rw [hb.block b (blk_lt h)]; exact h
theorem blk_new (w : World) (cs : Array Value) (T : TypeId) : Blk (w.alloc (.cells cs T)) w.heap.size cs T := by
  unfold Blk; show (w.heap.push _)[w.heap.size]? = _; simp
theorem blk_alloc {w : World} {b : Nat} {cs : Array Value} {T : TypeId} (h : Blk w b cs T) (o : Obj) : Blk (w.alloc o) b cs T :=
  blk_below h ((Below.refl _ _).alloc (Nat.le_refl _) o)
theorem blk_cell {w : World} {b : Nat} {cs : Array Value} {T : TypeId} (h : Blk w b cs T) (i : Nat) : w.cell? ⟨b, i, none⟩ = cs[i]? := cell_of_row _ _ _ _ _ _ h
theorem blk_frozen {w : World} {b : Nat} {cs : Array Value} {T : TypeId} (h : Blk w b cs T) (i : Nat) : w.frozen? ⟨b, i, none⟩ = false := frozen_of_row w b i _ _ h
theorem blk_set {w : World} {b : Nat} {cs : Array Value} {T : TypeId} (h : Blk w b cs T) (i : Nat) (v : Value) : Blk (w.setCell ⟨b, i, none⟩ v) b (cs.setIfInBounds i v) T := heap_setCell_same w b i _ _ v h
theorem blk_far {w : World} {b c i : Nat} {cs : Array Value} {T : TypeId} {v : Value} (h : Blk w b cs T) (hne : b ≠ c) : Blk (w.setCell ⟨c, i, none⟩ v) b cs T := by
  unfold Blk
  rw [heap_setCell_other w ⟨c, i, none⟩ b _ (by simpa using hne)]; exact h

/-- Values are laid into the cells of a block from a place on. -/
def setAll (w : World) (b i : Nat) : List Value → World
  | [] => w
  | v :: vs => setAll (w.setCell ⟨b, i, none⟩ v) b (i + 1) vs

theorem setAll_same {b : Nat} {T : TypeId} : ∀ (vs old pre : List Value) (w : World), Blk w b (pre ++ old).toArray T → old.length = vs.length → Blk (setAll w b pre.length vs) b (pre ++ vs).toArray T := by
  intro vs
  induction vs with
  | nil =>
    intro old pre w h hl
    have : old = [] := List.length_eq_zero_iff.1 hl
    subst this
    exact h
  | cons v vs ih =>
    intro old pre w h hl
    cases old with
    | nil => simp at hl
    | cons x old =>
      have h2 := blk_set h pre.length v
      have e : (pre ++ x :: old).toArray.setIfInBounds pre.length v = ((pre ++ [v]) ++ old).toArray := by simp
      rw [e] at h2
      have h3 := ih old (pre ++ [v]) _ h2 (by simpa using hl)
      rw [List.length_append] at h3
      simpa [setAll] using h3

theorem setAll_new {b : Nat} {T : TypeId} {old : Array Value} (vs : List Value) {w : World} (h : Blk w b old T) (hl : old.size = vs.length) : Blk (setAll w b 0 vs) b vs.toArray T := by
  have := setAll_same vs old.toList [] w (by simpa using h) (by simpa using hl)
  simpa using this

theorem setAll_far {b c : Nat} {T : TypeId} {cs : Array Value} (hne : b ≠ c) : ∀ (vs : List Value) (i : Nat) (w : World), Blk w b cs T → Blk (setAll w c i vs) b cs T := by
  intro vs
  induction vs with
  | nil => intro i w h; exact h
  | cons v vs ih => intro i w h; exact ih (i + 1) _ (blk_far h hne)

theorem setAll_grown {w : World} {g b : Nat} (hb : w.heap.size ≤ b) : ∀ (vs : List Value) (i : Nat) (W : World), w.grownBy W (some g) → w.grownBy (setAll W b i vs) (some g) := by
  intro vs
  induction vs with
  | nil => intro i W h; exact h
  | cons v vs ih => intro i W h; exact ih (i + 1) _ (hgr_set h hb)

theorem blk_drew {w : World} {b : Nat} {cs : Array Value} {T : TypeId} (h : Blk w b cs T) : Blk w.drew b cs T := h
end Go.Proofs.Ytkiadnglbjamfaa
/- The program's links: what is held of them in memory; has, isAt, covers, strictlyUnder, isOfUse. -/
namespace Go.Proofs.Ytkiadnglbjamfaa
open Go.RowKit
set_option linter.unusedVariables false

/-- A link's three rows. -/
structure LkV (w : World) (a b c : Value) (l : Lk) : Prop where
  ro : Nm.SRow w a l.ow
  rn : Nm.SRow w b l.nx
  rt : CRow w c l.ty.length 1 (intCells l.ty)
  so : (∀ x ∈ l.ow, x.size ≤ 1000000000) ∧ l.ow.length ≤ 1000
  sn : (∀ x ∈ l.nx, x.size ≤ 1000000000) ∧ l.nx.length ≤ 1000
theorem LkV.below {w W : World} {a b c : Value} {l : Lk} (h : LkV w a b c l) (hb : Below w.heap.size w W) : LkV W a b c l := ⟨h.ro.below hb, h.rn.below hb, h.rt.below hb, h.so, h.sn⟩
theorem below_drewN (w : World) : ∀ m, Below w.heap.size w (w.drewN m)
  | 0 => Below.refl _ _
  | m + 1 => (below_drewN w m).drew

theorem has_take_n {ty : List Int} {t x : Int} {k : Nat} (h : hasB (ty.take k) t = false) (hx : ty[k]? = some x) (hne : t ≠ x) : hasB (ty.take (k + 1)) t = false := by
  rw [List.take_add_one, hx]
  simp only [hasB, List.any_append, Option.toList_some, List.any_cons, List.any_nil, Bool.or_false, Bool.or_eq_false_iff, decide_eq_false_iff_not]
  exact ⟨h, hne⟩
theorem has_y {ty : List Int} {t : Int} {k : Nat} (hx : ty[k]? = some t) : hasB ty t = true := by
  simp only [hasB, List.any_eq_true, decide_eq_true_eq]
  exact ⟨t, List.mem_of_getElem? hx, rfl⟩

set_option maxRecDepth 100000 in
set_option maxHeartbeats 800000 in
theorem index64_any (v : Value) (ty : List Int) (t : Int) (w : World) (h : CRow w v ty.length 1 (intCells ty)) :
    Calls Try.prog 72 #[v, .int .i64 t] w fun e w' => Below w.heap.size w w' ∧ ((hasB ty t = false ∧ e = .returned (.int .i64 (-1))) ∨ (hasB ty t = true ∧ ∃ k : Nat, e = .returned (.int .i64 k))) := by
  obtain ⟨_, a, cap, rfl, hcap, hmx, hc⟩ := h
  unfold maxLen at hmx
  go_enter Try.func72, Try.ntmps72
  go_wp2
  go_loopw [8] (fun i wr => ∃ k : Nat, k ≤ ty.length ∧ i = .int .i64 k ∧ hasB (ty.take k) t = false ∧ Below w.heap.size w wr) (fun i _ => ty.length - (intOf i).toNat)
  case atStart => exact ⟨0, Nat.zero_le _, rfl, rfl, Below.refl _ _⟩
  case round =>
    obtain ⟨k, hk, rfl, hno, hbel⟩ := hrel
    have HR := Nm.hide (And.intro hno hbel)
    by_cases hlt : k < ty.length
    · obtain ⟨x, hx⟩ : ∃ x, ty[k]? = some x := ⟨_, List.getElem?_eq_getElem hlt⟩
      obtain ⟨bb, off, rfl, hcell⟩ := hc (by omega)
      have hcx := hcell k (.int .i64 x) (by simp [intCells, hx])
      have hcr : wr.cell? ⟨bb, off + k, none⟩ = some (.int .i64 x) := (hbel.cell (World.block_lt_of_cell? w _ hcx)).trans hcx
      have HX := Nm.hide hx
      have i1 : (0 : Int) ≤ (k : Int) := by omega
      have i2 : (k : Int) < (ty.length : Int) := by omega
      clear hc hcell hcx hx hno hbel
      by_cases he : t = x
      · subst he
        go_wp2
        go_ret
        exact ⟨HR.out.2, .inr ⟨has_y HX.out, k, rfl⟩⟩
      · have he' : (t == x) = false := by rw [beq_eq_false_iff_ne]; exact he
        go_wp2
        go_roundw
        case rel => exact ⟨k + 1, by omega, by go_num, has_take_n HR.out.1 HX.out he, HR.out.2⟩
        case measure => simp [intOf]; omega
    · have hke : k = ty.length := by omega
      subst hke
      clear hc hno hbel
      go_wp2
      go_ret
      have := HR.out.1
      rw [List.take_length] at this
      exact ⟨HR.out.2, .inl ⟨this, rfl⟩⟩

set_option maxRecDepth 100000 in
set_option maxHeartbeats 800000 in
theorem contains64_any (v : Value) (ty : List Int) (t : Int) (w : World) (h : CRow w v ty.length 1 (intCells ty)) :
    Calls Try.prog 68 #[v, .int .i64 t] w fun e w' => e = .returned (.bool (hasB ty t)) ∧ Below w.heap.size w w' := by
  have hi := index64_any v ty t w h
  obtain ⟨_, a, cap, rfl, hcap, hmx, hc⟩ := h
  clear hc
  go_enter Try.func68, Try.ntmps68
  go_wp2_with fail
  refine hi.mono ?_
  rintro e w1 ⟨b1, ⟨hb, rfl⟩ | ⟨hb, k, rfl⟩⟩
  · have HB := Nm.hide hb
    clear hb
    go_wp2
    go_ret
    rw [HB.out]
    exact ⟨rfl, b1⟩
  · have HB := Nm.hide hb
    clear hb
    have hk : (0 : Int) ≤ (k : Int) := by omega
    go_wp2
    go_ret
    rw [HB.out]
    exact ⟨rfl, b1⟩

theorem lk_form {w : World} {a b c : Value} {l : Lk} (h : LkV w a b c l) : (∃ x y, a = .slice x l.ow.length y) ∧ (∃ x y, b = .slice x l.nx.length y) ∧ (∃ x y, c = .slice x l.ty.length y) := by
  obtain ⟨x, y, rfl, _⟩ := h.ro
  obtain ⟨x2, y2, rfl, _⟩ := h.rn
  obtain ⟨_, x3, y3, rfl, _⟩ := h.rt
  exact ⟨⟨_, _, rfl⟩, ⟨_, _, rfl⟩, ⟨_, _, rfl⟩⟩

set_option maxRecDepth 100000 in
set_option maxHeartbeats 800000 in
theorem has_any (a b c : Value) (l : Lk) (t : Int) (w : World) (h : LkV w a b c l) :
    Calls Try.prog 54 #[.agg #[a, b, c], .int .i64 t] w fun e w' => e = .returned (.bool (hasB l.ty t)) ∧ Below w.heap.size w w' := by
  have hB0 := (Below.refl w.heap.size w).alloc (Nat.le_refl _) (.cells #[a, b, c] 68)
  have hct := contains64_any c l.ty t _ (h.below hB0).rt
  obtain ⟨⟨x1, y1, rfl⟩, ⟨x2, y2, rfl⟩, ⟨x3, y3, rfl⟩⟩ := lk_form h
  clear h
  go_enter Try.func54, Try.ntmps54
  go_wp2_with fail
  refine hct.mono ?_
  rintro e w1 ⟨rfl, b1⟩
  go_wp2
  go_ret
  exact ⟨rfl, Nm.below_two hB0 b1⟩

set_option maxRecDepth 100000 in
set_option maxHeartbeats 800000 in
theorem isAt_any (a b c u : Value) (l : Lk) (x : List ByteArray) (w : World) (h : LkV w a b c l) (hu : Nm.SRow w u x) (hx : (∀ y ∈ x, y.size ≤ 1000000000) ∧ x.length ≤ 1000) :
    Calls Try.prog 53 #[.agg #[a, b, c], u] w fun e w' => e = .returned (.bool (atB l x)) ∧ Below w.heap.size w w' := by
  have hB0 := (Below.refl w.heap.size w).alloc (Nat.le_refl _) (.cells #[a, b, c] 68)
  have hcm := compare_any a u l.ow x _ (h.below hB0).ro (hu.below hB0) h.so.1 (by have := h.so.2; omega) (by have := hx.2; omega)
  obtain ⟨⟨x1, y1, rfl⟩, ⟨x2, y2, rfl⟩, ⟨x3, y3, rfl⟩⟩ := lk_form h
  obtain ⟨xu, yu, rfl, _⟩ := hu
  rw [atB]
  clear h
  generalize Nm.cmpLs l.ow x = A at *
  go_enter Try.func53, Try.ntmps53
  go_wp2_with fail
  refine hcm.mono ?_
  rintro e w1 ⟨rfl, m, rfl⟩
  go_wp2
  go_ret
  refine ⟨?_, Nm.below_two hB0 (below_drewN _ m)⟩
  first
    | rfl
    | (congr 1; congr 1; simp [BEq.beq])
end Go.Proofs.Ytkiadnglbjamfaa
