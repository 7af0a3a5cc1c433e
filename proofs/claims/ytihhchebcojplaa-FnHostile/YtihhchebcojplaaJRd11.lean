import Derived.Test.YtihhchebcojplaaJSRd
import Derived.Test.YtihhchebcojplaaJLst
import Derived.Deep.RegionHeld3
import Derived.Deep.RegionHeld2
import Derived.Test.YtihhchebcojplaaJMath
import Derived.Deep.RegionLaw
/- (*reader).message by its contract. -/
namespace Go.Proofs.Ytihhchebcojplaa
open Go.RowKit
set_option linter.unusedVariables false

theorem listsS_q {l : List UInt8} {c : Int} (h : manyS (quS l) (n16 l 4) 12 [] = .bad c) : listsS l = .bad c := by rw [listsS, h]
theorem listsS_a {l : List UInt8} {c : Int} {qs p1} (h : manyS (quS l) (n16 l 4) 12 [] = .ok qs p1) (h2 : manyS (rrS l) (n16 l 6) p1 [] = .bad c) : listsS l = .bad c := by rw [listsS, h]; simp only; rw [h2]
theorem listsS_u {l : List UInt8} {c : Int} {qs p1 an p2} (h : manyS (quS l) (n16 l 4) 12 [] = .ok qs p1) (h2 : manyS (rrS l) (n16 l 6) p1 [] = .ok an p2) (h3 : manyS (rrS l) (n16 l 8) p2 [] = .bad c) : listsS l = .bad c := by rw [listsS, h]; simp only; rw [h2]; simp only; rw [h3]
theorem listsS_e {l : List UInt8} {c : Int} {qs p1 an p2 au p3} (h : manyS (quS l) (n16 l 4) 12 [] = .ok qs p1) (h2 : manyS (rrS l) (n16 l 6) p1 [] = .ok an p2) (h3 : manyS (rrS l) (n16 l 8) p2 [] = .ok au p3) (h4 : manyS (rrS l) (n16 l 10) p3 [] = .bad c) : listsS l = .bad c := by rw [listsS, h]; simp only; rw [h2]; simp only; rw [h3]; simp only; rw [h4]
theorem listsS_ok {l : List UInt8} {qs p1 an p2 au p3 ex p4} (h : manyS (quS l) (n16 l 4) 12 [] = .ok qs p1) (h2 : manyS (rrS l) (n16 l 6) p1 [] = .ok an p2) (h3 : manyS (rrS l) (n16 l 8) p2 [] = .ok au p3) (h4 : manyS (rrS l) (n16 l 10) p3 [] = .ok ex p4) : listsS l = if p4 < l.length then .bad 10 else .ok ⟨qs, an, au, ex⟩ p4 := by rw [listsS, h]; simp only; rw [h2]; simp only; rw [h3]; simp only; rw [h4]

/-- The variables of message while the lists are read. -/
structure MSt (w W : World) (g b : Nat) (V : Value) (hd ct : Array Value) (n pos : Nat) : Prop where
  rd : Rd W g V pos
  le : pos ≤ n
  grown : w.grownBy W (some g)
  res : Blk W w.heap.size ms0 29
  hb : Blk W b hd 25
  cb : Blk W (b + 1) ct 59
  lt : w.heap.size < b
  glt : g < w.heap.size

theorem MSt.read {w W W1 : World} {g b n pos pos1 : Nat} {V : Value} {hd ct : Array Value} (h : MSt w W g b V hd ct n pos) (hg : W.grownBy W1 (some g)) (hr : Rd W1 g V pos1) (hle : pos1 ≤ n) : MSt w W1 g b V hd ct n pos1 :=
  have h1 := h.lt
  have h2 := h.glt
  ⟨hr, hle, hgr_step h.grown hg, blk_grown h.res hg (by simp; omega), blk_grown h.hb hg (by simp; omega), blk_grown h.cb hg (by simp; omega), h.lt, h.glt⟩

theorem MSt.below {w W W1 : World} {g b n pos : Nat} {V : Value} {hd ct : Array Value} (h : MSt w W g b V hd ct n pos) (hb : Below W.heap.size W W1) : MSt w W1 g b V hd ct n pos :=
  ⟨rd_below h.rd hb, h.le, hgr_below h.grown hb, blk_below h.res hb, blk_below h.hb hb, blk_below h.cb hb, h.lt, h.glt⟩

theorem MSt.alloc {w W : World} {g b n pos : Nat} {V : Value} {hd ct : Array Value} (h : MSt w W g b V hd ct n pos) (o : Obj) : MSt w (W.alloc o) g b V hd ct n pos := h.below ((Below.refl _ _).alloc (Nat.le_refl _) o)
theorem MSt.drew {w W : World} {g b n pos : Nat} {V : Value} {hd ct : Array Value} (h : MSt w W g b V hd ct n pos) : MSt w W.drew g b V hd ct n pos := h.below (Below.refl _ _).drew

theorem mst_new {w w2 : World} {g d f n : Nat} {V : Value} {l : List UInt8} (hr2 : Rd w2 g V 12) (hle : 12 ≤ n) (hg2 : w.grownBy w2 (some g)) (hb2 : Blk w2 w.heap.size ms0 29) (hglt : g < w.heap.size) :
    MSt w ((w2.alloc (.cells (hdA d f) 25)).alloc (.cells (ctA l) 59)) g w2.heap.size V (hdA d f) (ctA l) n 12 := by
  have hbb : Below w2.heap.size w2 ((w2.alloc (.cells (hdA d f) 25)).alloc (.cells (ctA l) 59)) := ((Below.refl _ _).alloc (Nat.le_refl _) _).alloc (by simp) _
  have e1 : (w2.alloc (.cells (hdA d f) 25)).heap.size = w2.heap.size + 1 := by simp
  have hcb := blk_new (w2.alloc (.cells (hdA d f) 25)) (ctA l) 59
  rw [e1] at hcb
  exact ⟨rd_below hr2 hbb, hle, hgr_below hg2 hbb, blk_below hb2 hbb, blk_alloc (blk_new w2 (hdA d f) _) _, hcb, blk_lt hb2, hglt⟩

theorem gen_world2 {Pr G : World → Prop} {W : World} (h : Pr W) (k : ∀ W, Pr W → G W) : G W := k W h

theorem row_grown {w w1 : World} {B e m g p s : Nat} {v V : Value} {xs : List Value} (h : w.ownsRow B e s v m xs) (hs : Rd w g V p) (hne : e ≠ 50) (hg : w.grownBy w1 (some g)) : w1.ownsRow B e s v m xs := h.kept hg (rowS_rd h hs hne)

/-- A call that panics, met where one way must be left to go on: that way has 'False' ahead of it. -/
theorem calls_panics {P : Program} {f : FuncId} {args : Array Value} {w : World} {R : Ending → World → Prop} {ch : List PanicEntry} (v0 : Value) (h : Calls P f args w (fun e w' => e = .panicked ch ∧ R (.panicked ch) w')) (_ : Hid False → R (.returned v0) w) : Calls P f args w R :=
  h.mono (fun e w' ⟨he, hr⟩ => he ▸ hr)
theorem calls_any {P : Program} {f : FuncId} {args : Array Value} {w : World} {R : Ending → World → Prop} (v0 : Value) (hF : Hid False) (_ : R (.returned v0) w) : Calls P f args w R := hF.out.elim

/-- Entries read in their turn, as message wants them. -/
def Turn (w : World) (g b : Nat) (V : Value) (hd ct : Array Value) (n e s m q : Nat) (cs : List Value) (W : World) (x : Ending) (W' : World) : Prop :=
  ∃ v, x = .returned v ∧ MSt w W' g b V hd ct n q ∧ W'.ownsRow w.heap.size e s v m cs ∧ W.grownBy W' (some g)

theorem blk_ne {W : World} {x y : Nat} {cs ds : Array Value} {T U : TypeId} (h : Blk W x cs T) (h2 : Blk W y ds U) (hne : T ≠ U) : x ≠ y := by
  rintro rfl
  unfold Blk at h h2
  rw [h] at h2
  simp at h2
  exact hne h2.2

theorem MSt.sets {w W : World} {g b n pos b5 : Nat} {V : Value} {hd ct cs : Array Value} (h : MSt w W g b V hd ct n pos) (hB : Blk W b5 cs 29) (hlt : w.heap.size < b5) (vs : List Value) : MSt w (setAll W b5 0 vs) g b V hd ct n pos := by
  have h1 := h.glt
  exact ⟨setAll_far (by omega) _ _ _ (rd_blk h.rd), h.le, setAll_grown (by omega) _ _ _ h.grown, setAll_far (by omega) _ _ _ h.res, setAll_far (blk_ne h.hb hB (by decide)) _ _ _ h.hb, setAll_far (blk_ne h.cb hB (by decide)) _ _ _ h.cb, h.lt, h.glt⟩

/-- The message is handed back out of its variable. -/
theorem msg_back {w W : World} {cs : Array Value} {R : Ending → World → Prop} {a : Act} (h : Blk W w.heap.size cs 29)
    (hc : ∃ x0 x1 x2 x3 x4 x5 x6 x7 x8 x9 x10 x11 x12 x13 x14 : Value, cs = #[x0, x1, x2, x3, x4, x5, x6, x7, x8, x9, x10, x11, x12, x13, x14])
    (h2 : a.tmps[2]? = some (.pointer (some ⟨w.heap.size, 0, none⟩))) (hd : a.defers = []) (hR : R (.returned (.agg cs)) W) : bodyPost Try.prog Try.f17 R .ret a W := by
  obtain ⟨x0, x1, x2, x3, x4, x5, x6, x7, x8, x9, x10, x11, x12, x13, x14, rfl⟩ := hc
  refine bodyPost_ret ?_ hd hR
  have r := fun i => blk_cell h i
  simp [results, Try.results17, go_sem, Result.andThen, r, h2]

theorem row_setAll {b B e s m : Nat} {v : Value} {xs : List Value} (hne : e ≠ 29) : ∀ (vs : List Value) (i : Nat) (W : World) (cs : Array Value), W.ownsRow B e s v m xs → Blk W b cs 29 → (setAll W b i vs).ownsRow B e s v m xs := by
  intro vs
  induction vs with
  | nil => intro i W cs h _; exact h
  | cons x vs ih =>
    intro i W cs h hb
    have hg : W.grownBy (W.setCell ⟨b, i, none⟩ x) (some b) := ⟨rfl, rfl, rfl, by simp, fun k _ hk => heap_setCell_other W ⟨b, i, none⟩ k _ (fun e => hk (by simp [e]))⟩
    refine ih (i + 1) _ _ (h.kept hg ?_) (blk_set hb i x)
    rcases h.2 with ⟨rfl, _⟩ | ⟨g', cap', cur, rfl, _, hh, _⟩
    · exact .inl rfl
    · right
      simp only [Value.ownBlock, ne_eq, Option.some.injEq]
      intro e2
      subst e2
      unfold Blk at hb
      rw [hh] at hb
      simp at hb
      exact hne hb.2

theorem lists_setAll {b B : Nat} {m : Mm} {q x y z : Value} {W : World} {cs : Array Value} (h : Lists W B m q x y z) (hb : Blk W b cs 29) (vs : List Value) (i : Nat) : Lists (setAll W b i vs) B m q x y z :=
  ⟨row_setAll (by decide) vs i W cs h.rq hb, row_setAll (by decide) vs i W cs h.ra hb, row_setAll (by decide) vs i W cs h.ru hb, row_setAll (by decide) vs i W cs h.rx hb, h.au, h.ax, h.ux⟩

/-- Message's variables once the lists are read. -/
structure Fin4 (w W : World) (g b5 : Nat) (V : Value) (p : Nat) (cs : Array Value) (m : Mm) (q x y z : Value) : Prop where
  rd : Rd W g V p
  grown : w.grownBy W (some g)
  res : Blk W w.heap.size ms0 29
  var : Blk W b5 cs 29
  lt : w.heap.size < b5
  glt : g < w.heap.size
  rows : Lists W w.heap.size m q x y z

theorem fin_alloc {w W : World} {g b n pos : Nat} {V : Value} {hd ct : Array Value} {m : Mm} {q x y z : Value} (h : MSt w W g b V hd ct n pos) (hr : Lists W w.heap.size m q x y z) (cs : Array Value) :
    Fin4 w (W.alloc (.cells cs 29)) g W.heap.size V pos cs m q x y z := by
  have hb : Below W.heap.size W (W.alloc (.cells cs 29)) := (Below.refl _ _).alloc (Nat.le_refl _) _
  have h2 := h.alloc (.cells cs 29)
  exact ⟨h2.rd, h2.grown, h2.res, blk_new W cs _, blk_lt h.res, h.glt, lists_below hr hb⟩

theorem fin_set {w W : World} {g b b5 n pos : Nat} {V : Value} {hd ct cs : Array Value} {m : Mm} {q x y z : Value} (h : MSt w W g b V hd ct n pos) (hr : Lists W w.heap.size m q x y z) (hB : Blk W b5 cs 29) (hlt : w.heap.size < b5) (vs : List Value) (hl : cs.size = vs.length) :
    Fin4 w (setAll W b5 0 vs) g b5 V pos vs.toArray m q x y z := by
  have h1 := h.glt
  exact ⟨setAll_far (by omega) _ _ _ (rd_blk h.rd), setAll_grown (by omega) _ _ _ h.grown, setAll_far (by omega) _ _ _ h.res, setAll_new _ hB hl, hlt, h.glt, lists_setAll hr hB vs 0⟩

theorem fin_last {w W : World} {g b5 p : Nat} {V : Value} {cs : Array Value} {m : Mm} {q x y z : Value} (h : Fin4 w W g b5 V p cs m q x y z) (vs : List Value) (hl : ms0.size = vs.length) :
    Blk (setAll W w.heap.size 0 vs).drew w.heap.size vs.toArray 29 ∧ Lists (setAll W w.heap.size 0 vs).drew w.heap.size m q x y z ∧ w.grownBy (setAll W w.heap.size 0 vs).drew (some g) :=
  ⟨blk_drew (setAll_new _ h.res hl), lists_below (lists_setAll h.rows h.res vs 0) (Below.refl _ _).drew, grown_drew (setAll_grown (Nat.le_refl _) _ _ _ h.grown)⟩

end Go.Proofs.Ytihhchebcojplaa
/- Steps of a drawn region: append onto a row of one's own, a call that leaves the world; the variables of the model's reading. -/
namespace Go.Proofs.Ytihhchebcojplaa
open Go.RowKit
set_option linter.unusedVariables false

theorem sst_new {w w1 : World} (hm : Blk w1 w.heap.size ms0 29) (hbe : Below w.heap.size w w1) (hd ct ms : Array Value) :
    SSt w (((w1.alloc (.cells hd 25)).alloc (.cells ct 59)).alloc (.cells ms 29)) w1.heap.size hd ct ms := by
  have e1 : (w1.alloc (.cells hd 25)).heap.size = w1.heap.size + 1 := by simp
  have e2 : ((w1.alloc (.cells hd 25)).alloc (.cells ct 59)).heap.size = w1.heap.size + 1 + 1 := by simp
  have hC := blk_alloc (blk_new (w1.alloc (.cells hd 25)) ct 59) (.cells ms 29)
  have hM := blk_new ((w1.alloc (.cells hd 25)).alloc (.cells ct 59)) ms 29
  rw [e1] at hC
  rw [e2] at hM
  have hb : Below w1.heap.size w1 (((w1.alloc (.cells hd 25)).alloc (.cells ct 59)).alloc (.cells ms 29)) := (((Below.refl _ _).alloc (Nat.le_refl _) _).alloc (by simp) _).alloc (by simp; omega) _
  exact ⟨blk_below hm hb, blk_alloc (blk_alloc (blk_new w1 hd _) _) _, hC, hM, hbe.trans (hb.mono hbe.size), blk_lt hm⟩

theorem step_call1 {P : Program} {ops : Array Oper} {o : Oper} {a : Act} {w : World} {K : Act → World → Prop} {Q : Exit → Act → World → Prop} {E : Prop} (F : FuncId) (x : Nat) (T : TypeId) (V v : Value) (hgd : o.guard = none)
    (ho : o.op = .call { callee := .value (.func F), args := #[.tmp x], argTypes := #[T] }) (hx : a.tmps.getD x undef = V) (hent : (callFunc F #[V]).run P w = .ok (.enter F #[V]) w)
    (hc : Calls P F #[V] w fun e w' => e = .returned v ∧ w' = w) (hK : K (a.put o.dst v) w) :
    if Region.wanted o (yielded ops a.tmps) = true then Oper.wp P o a w K Q else E := by
  have hw : Region.wanted o (yielded ops a.tmps) = true := by simp [Region.wanted, hgd]
  rw [if_pos hw]
  unfold Oper.wp execOp
  simp only [ho, go_sem, resolve, invoke, Sem.run_bind, Sem.run_pure, Result.andThen_ok, List.map_toArray, List.map_cons, List.map_nil]
  rw [hx]
  have e : (#[] ++ #[V] ++ #[] : Array Value) = #[V] := rfl
  rw [e, hent, Oper.upon_enter]
  refine hc.mono ?_
  rintro e w' ⟨rfl, rfl⟩
  exact hK

theorem num_enters (V : Value) (w : World) : (callFunc 31 #[V]).run Try.prog w = .ok (.enter 31 #[V]) w := by kernel_rfl

theorem cell_newD (w : World) (vs : List Value) (e : Nat) : ∀ (j : Nat) (u : Value), vs[j]? = some u → (w.alloc (.cells vs.toArray e)).drew.cell? ((⟨w.heap.size, 0, none⟩ : Addr).add j) = some u := cell_newL w vs e

theorem cut_num2 (l : List UInt8) (p n i m : Nat) (h : p + n ≤ l.length) (hi : i + m ≤ n) : ((ByteArray.mk (cutL l p n).toArray).extract i (i + m)).data.toList = cutL l (p + i) m := cut_num l p n i m h hi

end Go.Proofs.Ytihhchebcojplaa
