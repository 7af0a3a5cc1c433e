import Derived.Test.YthhagapmcbkeiaaJRmz
/- impl.Decode by its contract. -/
namespace Go.Proofs.Ythhagapmcbkeiaa
open Go.RowKit
set_option linter.unusedVariables false

set_option maxRecDepth 100000 in
set_option maxHeartbeats 400000 in
theorem dm_caught (b : Nat) (x : Int) (c : Int) (T : TypeId) (w : World) (h : w.heap[b]? = some (.cells #[.int .i64 x] T (0, 0))) :
    CallsD Try.prog 19 #[.pointer (some ⟨b, 0, none⟩)] (.panicking (fault c)) w fun e u' w' =>
      e = .returned (.tuple #[]) ∧ u' = .panicking [{ v := .iface 95 (.agg #[.int .i64 c]), recovered := true }] ∧ ∃ w1, Below w.heap.size w w1 ∧ w' = w1.setCell ⟨b, 0, none⟩ (.int .i64 c) := by
  unfold fault
  refine callsD_of_wpS Try.func19 rfl fun c₀ cs hu => ?_
  apply wpS_region
  simp [wpOpsS, go_sem, recoverD, hu, Try.ntmps19]
  refine (codeOf_fault c w).mono ?_
  rintro e w1 ⟨rfl, hb⟩
  have h1 : w1.heap[b]? = some (.cells #[.int .i64 x] T (0, 0)) := by rw [hb.block b (Array.getElem?_eq_some_iff.1 h).1]; exact h
  have c1 : w1.cell? ⟨b, 0, none⟩ = some (.int .i64 x) := by rw [cell_of_row _ _ _ _ _ _ h1]; rfl
  have f1 := frozen_of_row w1 b 0 _ _ h1
  simp [go_sem, c1, f1, bodyPostS, results, Try.results19]
  exact ⟨w1, hb, rfl⟩

set_option maxRecDepth 100000 in
set_option maxHeartbeats 400000 in
theorem dm_idle (b : Nat) (x : Int) (T : TypeId) (w : World) (h : w.heap[b]? = some (.cells #[.int .i64 x] T (0, 0))) :
    CallsD Try.prog 19 #[.pointer (some ⟨b, 0, none⟩)] .returning w fun e u' w' =>
      e = .returned (.tuple #[]) ∧ u' = .returning ∧ w' = w.setCell ⟨b, 0, none⟩ (.int .i64 0) := by
  refine callsD_of_wpS Try.func19 rfl fun c₀ cs hu => ?_
  apply wpS_region
  simp [wpOpsS, go_sem, recoverD, hu, Try.ntmps19]
  refine (codeOf_nil w).mono ?_
  rintro e w1 ⟨rfl, rfl⟩
  have c1 : w1.cell? ⟨b, 0, none⟩ = some (.int .i64 x) := by rw [cell_of_row _ _ _ _ _ _ h]; rfl
  have f1 := frozen_of_row w1 b 0 _ _ h
  simp [go_sem, c1, f1, bodyPostS, results, Try.results19]
  cases c₀
  simp_all

/-- The variables of Decode. -/
structure DSt (w W : World) (cs : Array Value) (x : Value) : Prop where
  b0 : Blk W w.heap.size cs 37
  b1 : Blk W (w.heap.size + 1) #[x] 2
  be : Below w.heap.size w W

theorem DSt.code {w W : World} {cs : Array Value} {x : Value} (h : DSt w W cs x) (y : Value) : DSt w (W.setCell ⟨w.heap.size + 1, 0, none⟩ y) cs y :=
  ⟨blk_far h.b0 (by omega), blk_set h.b1 0 y, h.be.setCell (by simp) _⟩

theorem DSt.below {w W W1 : World} {cs : Array Value} {x : Value} (h : DSt w W cs x) (hb : Below W.heap.size W W1) : DSt w W1 cs x :=
  ⟨blk_below h.b0 hb, blk_below h.b1 hb, h.be.trans (hb.mono h.be.size)⟩

theorem DSt.grown {w W W1 : World} {cs : Array Value} {x : Value} (h : DSt w W cs x) (hg : W.grownBy W1 (some (w.heap.size + 2))) : DSt w W1 cs x :=
  ⟨blk_grown h.b0 hg (by simp), blk_grown h.b1 hg (by simp), h.be.grown hg h.be.size (fun q hq => by simp at hq; omega)⟩

theorem DSt.lay {w W : World} {cs : Array Value} {x : Value} (h : DSt w W cs x) (vs : List Value) (hl : cs.size = vs.length) : DSt w (setAll W w.heap.size 0 vs) vs.toArray x :=
  ⟨setAll_new _ h.b0 hl, setAll_far (by omega) _ _ _ h.b1, setAll_below (Nat.le_refl _) _ _ _ h.be⟩

theorem dst_new (w : World) (V : Value) : DSt w (((w.alloc (.cells ms0 37)).alloc (.cells #[.int .i64 0] 2)).alloc (.cells #[V, .int .i64 (0 : Nat)] 64)) ms0 (.int .i64 0) ∧ Rd (((w.alloc (.cells ms0 37)).alloc (.cells #[.int .i64 0] 2)).alloc (.cells #[V, .int .i64 (0 : Nat)] 64)) (w.heap.size + 2) V 0 := by
  have e1 : (w.alloc (.cells ms0 37)).heap.size = w.heap.size + 1 := by simp
  have e2 : ((w.alloc (.cells ms0 37)).alloc (.cells #[.int .i64 0] 2)).heap.size = w.heap.size + 2 := by simp
  have hB := blk_alloc (blk_new (w.alloc (.cells ms0 37)) #[.int .i64 0] 2) (.cells #[V, .int .i64 (0 : Nat)] 64)
  have hC := blk_new ((w.alloc (.cells ms0 37)).alloc (.cells #[.int .i64 0] 2)) #[V, .int .i64 (0 : Nat)] 64
  rw [e1] at hB
  rw [e2] at hC
  exact ⟨⟨blk_alloc (blk_alloc (blk_new w ms0 _) _) _, hB, (((Below.refl _ _).alloc (Nat.le_refl _) _).alloc (by simp) _).alloc (by simp; omega) _⟩, hC⟩

theorem lists_far {B b i : Nat} {m : Mm} {q x y z v : Value} {W : World} {cs : Array Value} (h : Lists W B m q x y z) (hb : Blk W b cs 2) : Lists (W.setCell ⟨b, i, none⟩ v) B m q x y z := by
  have hg : W.grownBy (W.setCell ⟨b, i, none⟩ v) (some b) := ⟨rfl, rfl, rfl, by simp, fun k _ hk => heap_setCell_other W ⟨b, i, none⟩ k _ (fun e => hk (by simp [e]))⟩
  have key : ∀ {e s n : Nat} {u : Value} {xs : List Value}, e ≠ 2 → W.ownsRow B e s u n xs → (W.setCell ⟨b, i, none⟩ v).ownsRow B e s u n xs := by
    intro e s n u xs hne h
    refine h.kept hg ?_
    rcases h.2 with ⟨rfl, _⟩ | ⟨g', cap', cur, rfl, _, hh, _⟩
    · exact .inl rfl
    · right
      simp only [Value.ownBlock, ne_eq, Option.some.injEq]
      intro e2
      subst e2
      unfold Blk at hb
      rw [hh] at hb
      simp at hb
      exact hne hb.2
  exact ⟨key (by decide) h.rq, key (by decide) h.ra, key (by decide) h.ru, key (by decide) h.rx, h.au, h.ax, h.ux⟩

/-- Decode's variables and the message's lists. -/
structure DLS (w W : World) (cs : Array Value) (x : Value) (m : Mm) (q a u z : Value) : Prop where
  d : DSt w W cs x
  l : Lists W w.heap.size m q a u z

set_option maxRecDepth 100000 in
set_option maxHeartbeats 3200000 in
theorem implDecode_wide (v : Value) (l : List UInt8) (w : World) (h : BySl w v l) (hl : l.length ≤ 100000000) :
    Calls Try.prog 8 #[v] w fun e w' => Below w.heap.size w w' ∧
      ((∃ m p q x y z, msgS l = .ok m p ∧ e = .returned (.tuple #[.agg (msA (n16 l 0) (n16 l 2) q x y z), .int .i64 0]) ∧ Lists w' w.heap.size m q x y z) ∨
       (∃ c, msgS l = .bad c ∧ e = .returned (.tuple #[.agg ms0, .int .i64 c]))) := by
  have hmf : ∀ (fn : Fn) (first cap : Array Value) (w : World), (Instr.makeFunc fn first cap).run Try.prog w = .ok (.func fn first cap) w := fun _ _ _ _ => rfl
  obtain ⟨hbl, a, cap, rfl, hcap, hmx, hc⟩ := h
  have hby : BySl w (.slice a l.length cap) l := ⟨hbl, a, cap, rfl, hcap, hmx, hc⟩
  clear hc
  have hnm := fun W (h1 : Rd W (w.heap.size + 2) (.slice a l.length cap) 0) (hB : Below w.heap.size w W) => message_any (w.heap.size + 2) a l cap W h1 (fun W2 hg => hby.below (hB.grown hg hB.size (fun q hq => by simp at hq; omega))) hl
  obtain ⟨D0, hD⟩ := dst_new w (.slice a l.length cap)
  simp only [ms0] at D0 hD
  go_enter_defers Try.func8, Try.ntmps8
  go_wp2_with fail
  refine (hnm _ hD D0.be).mono ?_
  rintro e w2 (⟨m, p, q, x, y, z, hm, rfl, hls, hg2⟩ | ⟨c, hm, rfl, hg2⟩)
  · have D2 := D0.grown hg2
    have hls := (show Lists w2 w.heap.size m q x y z from ⟨own_base hls.rq D0.be.size, own_base hls.ra D0.be.size, own_base hls.ru D0.be.size, own_base hls.rx D0.be.size, hls.au, hls.ax, hls.ux⟩)
    obtain ⟨x1, y1, rfl⟩ := row_val hls.rq
    obtain ⟨x2, y2, rfl⟩ := row_val hls.ra
    obtain ⟨x3, y3, rfl⟩ := row_val hls.ru
    obtain ⟨x4, y4, rfl⟩ := row_val hls.rx
    have r0 := fun i => blk_cell D2.b0 i
    have f0 := fun i => blk_frozen D2.b0 i
    have r1 := fun i => blk_cell D2.b1 i
    have f1 := fun i => blk_frozen D2.b1 i
    have X := DLS.mk ((D2.lay (msA (n16 l 0) (n16 l 2) (.slice x1 m.qs.length y1) (.slice x2 m.an.length y2) (.slice x3 m.au.length y3) (.slice x4 m.ex.length y4)).toList rfl).code (.int .i64 0)) (lists_far (lists_setAll hls D2.b0 (msA (n16 l 0) (n16 l 2) (.slice x1 m.qs.length y1) (.slice x2 m.an.length y2) (.slice x3 m.au.length y3) (.slice x4 m.ex.length y4)).toList 0) (D2.lay (msA (n16 l 0) (n16 l 2) (.slice x1 m.qs.length y1) (.slice x2 m.an.length y2) (.slice x3 m.au.length y3) (.slice x4 m.ex.length y4)).toList rfl).b1)
    simp only [msA, setAll, Nat.reduceAdd, Nat.zero_add, Int.natCast_emod, Int.natCast_ediv] at X ⊢
    clear D0 D2 hls hg2 hnm hD
    go_wp2
    refine gen_world (Pr := fun W => DLS w W _ _ _ _ _ _ _) (G := fun W => bodyPostD _ _ _ _ _ W) X ?_
    clear X r0 f0 r1 f1
    intro W X
    refine leaves_cons (f := 19) (args := #[.pointer (some ⟨w.heap.size + 1, 0, none⟩)]) (by simp) (by simp [go_sem]) ?_
    refine (dm_idle (w.heap.size + 1) 0 2 W X.d.b1).mono ?_
    rintro e u' w'' ⟨rfl, rfl, rfl⟩
    have D3 := X.d.code (.int .i64 0)
    have hl3 := lists_far (i := 0) (v := .int .i64 0) X.l X.d.b1
    generalize W.setCell ⟨w.heap.size + 1, 0, none⟩ (.int .i64 0) = w4 at *
    have r0 := fun i => blk_cell D3.b0 i
    have r1 := fun i => blk_cell D3.b1 i
    simp [Leaves, settle, results, Try.results8, go_sem, r0, r1]
    exact ⟨D3.be, .inl ⟨m, ⟨p, hm⟩, .slice x1 m.qs.length y1, .slice x2 m.an.length y2, .slice x3 m.au.length y3, .slice x4 m.ex.length y4, by simp [msA], hl3⟩⟩
  · have D2 := D0.grown hg2
    clear hD D0 hg2
    refine leaves_cons (f := 19) (args := #[.pointer (some ⟨w.heap.size + 1, 0, none⟩)]) (by simp) (by simp [go_sem]) ?_
    refine (dm_caught (w.heap.size + 1) 0 c 2 w2 D2.b1).mono ?_
    rintro e u' w'' ⟨rfl, rfl, w3, hb3, rfl⟩
    have D3 := (D2.below hb3).code (.int .i64 c)
    generalize w3.setCell ⟨w.heap.size + 1, 0, none⟩ (.int .i64 c) = w4 at *
    have r0 := fun i => blk_cell D3.b0 i
    have r1 := fun i => blk_cell D3.b1 i
    simp [Leaves, settle, results, Try.results8, go_sem, r0, r1]
    exact ⟨D3.be, .inr ⟨hm, rfl⟩⟩

theorem implDecode_any (v : Value) (l : List UInt8) (w : World) (h : BySl w v l) (hl : l.length ≤ 1048576) :
    Calls Try.prog 8 #[v] w fun e w' => Below w.heap.size w w' ∧
      ((∃ m p q x y z, msgS l = .ok m p ∧ e = .returned (.tuple #[.agg (msA (n16 l 0) (n16 l 2) q x y z), .int .i64 0]) ∧ Lists w' w.heap.size m q x y z) ∨
       (∃ c, msgS l = .bad c ∧ e = .returned (.tuple #[.agg ms0, .int .i64 c]))) := implDecode_wide v l w h (by omega)
end Go.Proofs.Ythhagapmcbkeiaa
