import Derived.Test.YtihhchebcojplaaJRmz
import Derived.Test.YtihhchebcojplaaJHd3
import Derived.Test.YtihhchebcojplaaJSRt
/- impl.Decode by its contract. -/
namespace Go.Proofs.Ytihhchebcojplaa
open Go.RowKit
set_option linter.unusedVariables false

set_option maxRecDepth 100000 in
set_option maxHeartbeats 400000 in
theorem dm_caught (b : Nat) (x : Int) (c : Int) (T : TypeId) (w : World) (h : w.heap[b]? = some (.cells #[.int .i64 x] T (0, 0))) :
    CallsD Try.prog 15 #[.pointer (some ⟨b, 0, none⟩)] (.panicking (fault c)) w fun e u' w' =>
      e = .returned (.tuple #[]) ∧ u' = .panicking [{ v := .iface 80 (.agg #[.int .i64 c]), recovered := true }] ∧ ∃ w1, Below w.heap.size w w1 ∧ w' = w1.setCell ⟨b, 0, none⟩ (.int .i64 c) := by
  unfold fault
  refine callsD_of_wpS Try.func15 rfl fun c₀ cs hu => ?_
  apply wpS_region
  simp [wpOpsS, go_sem, recoverD, hu, Try.ntmps15]
  refine (codeOf_fault c w).mono ?_
  rintro e w1 ⟨rfl, hb⟩
  have h1 : w1.heap[b]? = some (.cells #[.int .i64 x] T (0, 0)) := by rw [hb.block b (Array.getElem?_eq_some_iff.1 h).1]; exact h
  have c1 : w1.cell? ⟨b, 0, none⟩ = some (.int .i64 x) := by rw [cell_of_row _ _ _ _ _ _ h1]; rfl
  have f1 := frozen_of_row w1 b 0 _ _ h1
  simp [go_sem, c1, f1, bodyPostS, results, Try.results15]
  exact ⟨w1, hb, rfl⟩

set_option maxRecDepth 100000 in
set_option maxHeartbeats 400000 in
theorem dm_idle (b : Nat) (x : Int) (T : TypeId) (w : World) (h : w.heap[b]? = some (.cells #[.int .i64 x] T (0, 0))) :
    CallsD Try.prog 15 #[.pointer (some ⟨b, 0, none⟩)] .returning w fun e u' w' =>
      e = .returned (.tuple #[]) ∧ u' = .returning ∧ w' = w.setCell ⟨b, 0, none⟩ (.int .i64 0) := by
  refine callsD_of_wpS Try.func15 rfl fun c₀ cs hu => ?_
  apply wpS_region
  simp [wpOpsS, go_sem, recoverD, hu, Try.ntmps15]
  refine (codeOf_nil w).mono ?_
  rintro e w1 ⟨rfl, rfl⟩
  have c1 : w1.cell? ⟨b, 0, none⟩ = some (.int .i64 x) := by rw [cell_of_row _ _ _ _ _ _ h]; rfl
  have f1 := frozen_of_row w1 b 0 _ _ h
  simp [go_sem, c1, f1, bodyPostS, results, Try.results15]
  cases c₀
  simp_all

/-- The variables of Decode. -/
structure DSt (w W : World) (cs : Array Value) (x : Value) : Prop where
  b0 : Blk W w.heap.size cs 29
  b1 : Blk W (w.heap.size + 1) #[x] 2
  be : Below w.heap.size w W

theorem DSt.code {w W : World} {cs : Array Value} {x : Value} (h : DSt w W cs x) (y : Value) : DSt w (W.setCell ⟨w.heap.size + 1, 0, none⟩ y) cs y :=
  ⟨blk_far h.b0 (by omega), blk_set h.b1 0 y, h.be.setCell (by simp) _⟩

theorem DSt.below {w W W1 : World} {cs : Array Value} {x : Value} (h : DSt w W cs x) (hb : Below W.heap.size W W1) : DSt w W1 cs x :=
  ⟨blk_below h.b0 hb, blk_below h.b1 hb, h.be.trans (hb.mono h.be.size)⟩

theorem DSt.grown {w W W1 : World} {cs : Array Value} {x : Value} (h : DSt w W cs x) (hg : W.grownBy W1 (some (w.heap.size + 2))) : DSt w W1 cs x :=
  ⟨blk_grown h.b0 hg (by simp), blk_grown h.b1 hg (by simp), h.be.grown hg h.be.size (fun q hq => by simp at hq; omega)⟩

theorem DSt.lay {w W : World} {cs : Array Value} {x : Value} (h : DSt w W cs x) (vs : List Value) (hl : cs.size = vs.length) : DSt w (setAll W w.heap.size 0 vs) vs.toArray x :=
  ⟨setAll_new _ h.b0 hl, setAll_far (by omega) _ _ _ h.b1, setAll_below (Nat.le_refl _) _ _ _ h.be⟩

theorem dst_new (w : World) (V : Value) : DSt w (((w.alloc (.cells ms0 29)).alloc (.cells #[.int .i64 0] 2)).alloc (.cells #[V, .int .i64 (0 : Nat)] 50)) ms0 (.int .i64 0) ∧ Rd (((w.alloc (.cells ms0 29)).alloc (.cells #[.int .i64 0] 2)).alloc (.cells #[V, .int .i64 (0 : Nat)] 50)) (w.heap.size + 2) V 0 := by
  have e1 : (w.alloc (.cells ms0 29)).heap.size = w.heap.size + 1 := by simp
  have e2 : ((w.alloc (.cells ms0 29)).alloc (.cells #[.int .i64 0] 2)).heap.size = w.heap.size + 2 := by simp
  have hB := blk_alloc (blk_new (w.alloc (.cells ms0 29)) #[.int .i64 0] 2) (.cells #[V, .int .i64 (0 : Nat)] 50)
  have hC := blk_new ((w.alloc (.cells ms0 29)).alloc (.cells #[.int .i64 0] 2)) #[V, .int .i64 (0 : Nat)] 50
  rw [e1] at hB
  rw [e2] at hC
  exact ⟨⟨blk_alloc (blk_alloc (blk_new w ms0 _) _) _, hB, (((Below.refl _ _).alloc (Nat.le_refl _) _).alloc (by simp) _).alloc (by simp; omega) _⟩, hC⟩

theorem lists_far {B b i : Nat} {m : Mm} {q x y z v : Value} {W : World} {cs : Array Value} (h : Lists W B m q x y z) (hb : Blk W b cs 2) : Lists (W.setCell ⟨b, i, none⟩ v) B m q x y z := by
  have hg : W.grownBy (W.setCell ⟨b, i, none⟩ v) (some b) := ⟨rfl, rfl, rfl, by simp, fun k _ hk => heap_setCell_other W ⟨b, i, none⟩ k _ (fun e => hk (by simp [e]))⟩
  have key : ∀ {e s n : Nat} {u : Value} {xs : List Value}, e ≠ 2 → W.ownsRow B e s u n xs → (W.setCell ⟨b, i, none⟩ v).ownsRow B e s u n xs := by
    intro e s n u xs hne h
    refine h.kept hg ?_
    rcases h.2 with ⟨rfl, _⟩ | ⟨g', cap', cur, rfl, _, hh, _⟩
    · exact .inl rfl
    · right
      simp only [Value.ownBlock, ne_eq, Option.some.injEq]
      intro e2
      subst e2
      unfold Blk at hb
      rw [hh] at hb
      simp at hb
      exact hne hb.2
  exact ⟨key (by decide) h.rq, key (by decide) h.ra, key (by decide) h.ru, key (by decide) h.rx, h.au, h.ax, h.ux⟩

/-- Decode's variables and the message's lists. -/
structure DLS (w W : World) (cs : Array Value) (x : Value) (m : Mm) (q a u z : Value) : Prop where
  d : DSt w W cs x
  l : Lists W w.heap.size m q a u z

set_option maxRecDepth 100000 in
set_option maxHeartbeats 3200000 in
theorem implDecode_wide (v : Value) (l : List UInt8) (w : World) (h : BySl w v l) (hl : l.length ≤ 100000000) :
    Calls Try.prog 6 #[v] w fun e w' => Below w.heap.size w w' ∧
      ((∃ m p q x y z, msgS l = .ok m p ∧ e = .returned (.tuple #[.agg (msA (n16 l 0) (n16 l 2) q x y z), .int .i64 0]) ∧ Lists w' w.heap.size m q x y z) ∨
       (∃ c, msgS l = .bad c ∧ e = .returned (.tuple #[.agg ms0, .int .i64 c]))) := by
  have hmf : ∀ (fn : Fn) (first cap : Array Value) (w : World), (Instr.makeFunc fn first cap).run Try.prog w = .ok (.func fn first cap) w := fun _ _ _ _ => rfl
  obtain ⟨hbl, a, cap, rfl, hcap, hmx, hc⟩ := h
  have hby : BySl w (.slice a l.length cap) l := ⟨hbl, a, cap, rfl, hcap, hmx, hc⟩
  clear hc
  have hnm := fun W (h1 : Rd W (w.heap.size + 2) (.slice a l.length cap) 0) (hB : Below w.heap.size w W) => message_any (w.heap.size + 2) a l cap W h1 (fun W2 hg => hby.below (hB.grown hg hB.size (fun q hq => by simp at hq; omega))) hl
  obtain ⟨D0, hD⟩ := dst_new w (.slice a l.length cap)
  simp only [ms0] at D0 hD
  go_enter_defers Try.func6, Try.ntmps6
  go_wp2_with fail
  refine (hnm _ hD D0.be).mono ?_
  rintro e w2 (⟨m, p, q, x, y, z, hm, rfl, hls, hg2⟩ | ⟨c, hm, rfl, hg2⟩)
  · have D2 := D0.grown hg2
    have hls := (show Lists w2 w.heap.size m q x y z from ⟨own_base hls.rq D0.be.size, own_base hls.ra D0.be.size, own_base hls.ru D0.be.size, own_base hls.rx D0.be.size, hls.au, hls.ax, hls.ux⟩)
    obtain ⟨x1, y1, rfl⟩ := row_val hls.rq
    obtain ⟨x2, y2, rfl⟩ := row_val hls.ra
    obtain ⟨x3, y3, rfl⟩ := row_val hls.ru
    obtain ⟨x4, y4, rfl⟩ := row_val hls.rx
    have r0 := fun i => blk_cell D2.b0 i
    have f0 := fun i => blk_frozen D2.b0 i
    have r1 := fun i => blk_cell D2.b1 i
    have f1 := fun i => blk_frozen D2.b1 i
    have X := DLS.mk ((D2.lay (msA (n16 l 0) (n16 l 2) (.slice x1 m.qs.length y1) (.slice x2 m.an.length y2) (.slice x3 m.au.length y3) (.slice x4 m.ex.length y4)).toList rfl).code (.int .i64 0)) (lists_far (lists_setAll hls D2.b0 (msA (n16 l 0) (n16 l 2) (.slice x1 m.qs.length y1) (.slice x2 m.an.length y2) (.slice x3 m.au.length y3) (.slice x4 m.ex.length y4)).toList 0) (D2.lay (msA (n16 l 0) (n16 l 2) (.slice x1 m.qs.length y1) (.slice x2 m.an.length y2) (.slice x3 m.au.length y3) (.slice x4 m.ex.length y4)).toList rfl).b1)
    simp only [msA, setAll, Nat.reduceAdd, Nat.zero_add, Int.natCast_emod, Int.natCast_ediv] at X ⊢
    clear D0 D2 hls hg2 hnm hD
    go_wp2
    refine gen_world (Pr := fun W => DLS w W _ _ _ _ _ _ _) (G := fun W => bodyPostD _ _ _ _ _ W) X ?_
    clear X r0 f0 r1 f1
    intro W X
    refine leaves_cons (f := 15) (args := #[.pointer (some ⟨w.heap.size + 1, 0, none⟩)]) (by simp) (by simp [go_sem]) ?_
    refine (dm_idle (w.heap.size + 1) 0 2 W X.d.b1).mono ?_
    rintro e u' w'' ⟨rfl, rfl, rfl⟩
    have D3 := X.d.code (.int .i64 0)
    have hl3 := lists_far (i := 0) (v := .int .i64 0) X.l X.d.b1
    generalize W.setCell ⟨w.heap.size + 1, 0, none⟩ (.int .i64 0) = w4 at *
    have r0 := fun i => blk_cell D3.b0 i
    have r1 := fun i => blk_cell D3.b1 i
    simp [Leaves, settle, results, Try.results6, go_sem, r0, r1]
    exact ⟨D3.be, .inl ⟨m, ⟨p, hm⟩, .slice x1 m.qs.length y1, .slice x2 m.an.length y2, .slice x3 m.au.length y3, .slice x4 m.ex.length y4, by simp [msA], hl3⟩⟩
  · have D2 := D0.grown hg2
    clear hD D0 hg2
    refine leaves_cons (f := 15) (args := #[.pointer (some ⟨w.heap.size + 1, 0, none⟩)]) (by simp) (by simp [go_sem]) ?_
    refine (dm_caught (w.heap.size + 1) 0 c 2 w2 D2.b1).mono ?_
    rintro e u' w'' ⟨rfl, rfl, w3, hb3, rfl⟩
    have D3 := (D2.below hb3).code (.int .i64 c)
    generalize w3.setCell ⟨w.heap.size + 1, 0, none⟩ (.int .i64 c) = w4 at *
    have r0 := fun i => blk_cell D3.b0 i
    have r1 := fun i => blk_cell D3.b1 i
    simp [Leaves, settle, results, Try.results6, go_sem, r0, r1]
    exact ⟨D3.be, .inr ⟨hm, rfl⟩⟩

theorem implDecode_any (v : Value) (l : List UInt8) (w : World) (h : BySl w v l) (hl : l.length ≤ 1048576) :
    Calls Try.prog 6 #[v] w fun e w' => Below w.heap.size w w' ∧
      ((∃ m p q x y z, msgS l = .ok m p ∧ e = .returned (.tuple #[.agg (msA (n16 l 0) (n16 l 2) q x y z), .int .i64 0]) ∧ Lists w' w.heap.size m q x y z) ∨
       (∃ c, msgS l = .bad c ∧ e = .returned (.tuple #[.agg ms0, .int .i64 c]))) := implDecode_wide v l w h (by omega)
end Go.Proofs.Ytihhchebcojplaa
/- spec.Decode by its contract; what both Decodes answer, in one form. -/
namespace Go.Proofs.Ytihhchebcojplaa
open Go.RowKit
set_option linter.unusedVariables false

/-- What Decode answers: the head's two numbers, the lists, the code. -/
structure Mo where
  d : Nat
  f : Nat
  m : Mm
  c : Int
def msO (l : List UInt8) : Mo := match msgS l with
  | .inl c => ⟨0, 0, ⟨[], [], [], []⟩, c⟩
  | .inr (m, _) => ⟨n16 l 0, n16 l 2, m, 0⟩

theorem msA_zero : msA 0 0 (.slice none 0 0) (.slice none 0 0) (.slice none 0 0) (.slice none 0 0) = ms0 := rfl

theorem lists_none (w : World) (B : Nat) : Lists w B ⟨[], [], [], []⟩ (.slice none 0 0) (.slice none 0 0) (.slice none 0 0) (.slice none 0 0) :=
  ⟨⟨rfl, .inl ⟨rfl, rfl⟩⟩, ⟨rfl, .inl ⟨rfl, rfl⟩⟩, ⟨rfl, .inl ⟨rfl, rfl⟩⟩, ⟨rfl, .inl ⟨rfl, rfl⟩⟩, fun k h => by simp [Value.ownBlock] at h, fun k h => by simp [Value.ownBlock] at h, fun k h => by simp [Value.ownBlock] at h⟩

theorem l04Read_any (v : Value) (l : List UInt8) (w : World) (h : BySl w v l) (hl : l.length ≤ 100000000) : Calls Try.prog 14 #[v] w (ReadPost l w) := by
  by_cases h1 : 65535 < l.length
  · exact l04Read_head v l w h hl (.inl h1)
  · by_cases h2 : l.length < 12
    · exact l04Read_head v l w h hl (.inr (.inl h2))
    · by_cases h3 : 400 < n16 l 4 + n16 l 6 + n16 l 8 + n16 l 10
      · exact l04Read_head v l w h hl (.inr (.inr h3))
      · exact l04Read_main v l w h (by omega) h1 h2 h3

theorem l04Read_one (v : Value) (l : List UInt8) (w : World) (h : BySl w v l) (hl : l.length ≤ 100000000) : Calls Try.prog 14 #[v] w fun e w' => Below w.heap.size w w' ∧
    ∃ q x y z, ∃ n : Int, e = .returned (.tuple #[.agg (msA (msO l).d (msO l).f q x y z), .int .i64 n, .int .i64 (msO l).c]) ∧ Lists w' w.heap.size (msO l).m q x y z := by
  refine (l04Read_any v l w h hl).mono ?_
  rintro e w' ⟨hb, ⟨m, p, q, x, y, z, n, hm, rfl, hL, _⟩ | ⟨c, n, hm, rfl⟩⟩
  · refine ⟨hb, q, x, y, z, n, ?_, ?_⟩
    · rw [msO, hm]
    · rw [msO, hm]; exact hL
  · refine ⟨hb, .slice none 0 0, .slice none 0 0, .slice none 0 0, .slice none 0 0, n, ?_, ?_⟩
    · rw [msO, hm, ← msA_zero]
    · rw [msO, hm]; exact lists_none _ _

/-- What Decode leaves. -/
def DecPost (l : List UInt8) (w : World) (e : Ending) (w' : World) : Prop := Below w.heap.size w w' ∧
  ∃ q x y z, e = .returned (.tuple #[.agg (msA (msO l).d (msO l).f q x y z), .int .i64 (msO l).c]) ∧ Lists w' w.heap.size (msO l).m q x y z

/-- The message is handed back with the code. -/
theorem dec_back {W : World} {b : Nat} {cs : Array Value} {R : Ending → World → Prop} {a : Act} {code : Int} (h : Blk W b cs 29)
    (hc : ∃ x0 x1 x2 x3 x4 x5 x6 x7 x8 x9 x10 x11 x12 x13 x14 : Value, cs = #[x0, x1, x2, x3, x4, x5, x6, x7, x8, x9, x10, x11, x12, x13, x14])
    (h2 : a.tmps[2]? = some (.pointer (some ⟨b, 0, none⟩))) (h3 : a.tmps[3]? = some (.int .i64 code)) (hd : a.defers = [])
    (hR : R (.returned (.tuple #[.agg cs, .int .i64 code])) W) : bodyPost Try.prog Try.f5 R .ret a W := by
  obtain ⟨x0, x1, x2, x3, x4, x5, x6, x7, x8, x9, x10, x11, x12, x13, x14, rfl⟩ := hc
  refine bodyPost_ret ?_ hd hR
  have r := fun i => blk_cell h i
  simp [results, Try.results5, go_sem, Result.andThen, r, h2, h3]

set_option maxRecDepth 100000 in
set_option maxHeartbeats 3200000 in
theorem specDecode_wide (v : Value) (l : List UInt8) (w : World) (h : BySl w v l) (hl : l.length ≤ 100000000) : Calls Try.prog 5 #[v] w (DecPost l w) := by
  have be0 : Below w.heap.size w (w.alloc (.cells ms0 29)) := (Below.refl _ _).alloc (Nat.le_refl _) _
  have hb0 := blk_new w ms0 29
  have hcall := l04Read_one v l _ (h.below be0) hl
  have hsz : (w.alloc (.cells ms0 29)).heap.size = w.heap.size + 1 := by simp
  unfold DecPost
  simp only [ms0, msA] at be0 hb0 hcall hsz ⊢
  obtain ⟨_, av, cv, rfl, _⟩ := h
  generalize hM : (msO l).m = m at *
  generalize ((msO l).d : Int) = i0 at *
  generalize (((msO l).f / 2048 % 16 : Nat) : Int) = i2 at *
  generalize (((msO l).f % 16 : Nat) : Int) = i10 at *
  generalize (msO l).c = c at *
  generalize (msO l).f.testBit 15 = t15 at *
  generalize (msO l).f.testBit 10 = t10 at *
  generalize (msO l).f.testBit 9 = t9 at *
  generalize (msO l).f.testBit 8 = t8 at *
  generalize (msO l).f.testBit 7 = t7 at *
  generalize (msO l).f.testBit 6 = t6 at *
  generalize (msO l).f.testBit 5 = t5 at *
  generalize (msO l).f.testBit 4 = t4 at *
  go_enter Try.func5, Try.ntmps5
  go_wp2_with fail
  refine hcall.mono ?_
  rintro e w1 ⟨hb1, q, x, y, z, n, rfl, L1⟩
  obtain ⟨x1, y1, rfl⟩ := row_val L1.rq
  obtain ⟨x2, y2, rfl⟩ := row_val L1.ra
  obtain ⟨x3, y3, rfl⟩ := row_val L1.ru
  obtain ⟨x4, y4, rfl⟩ := row_val L1.rx
  have hbA : Below w1.heap.size w1 (w1.alloc (.cells #[.int .i64 i0, .bool t15, .int .i64 i2, .bool t10, .bool t9, .bool t8, .bool t7, .bool t6, .bool t5, .bool t4, .int .i64 i10, .slice x1 m.qs.length y1, .slice x2 m.an.length y2, .slice x3 m.au.length y3, .slice x4 m.ex.length y4] 29)) := (Below.refl _ _).alloc (Nat.le_refl _) _
  have B1 := blk_below (blk_below hb0 hb1) hbA
  have r1 := fun i => blk_cell B1 i
  have f1 := fun i => blk_frozen B1 i
  have B2 := blk_new w1 #[.int .i64 i0, .bool t15, .int .i64 i2, .bool t10, .bool t9, .bool t8, .bool t7, .bool t6, .bool t5, .bool t4, .int .i64 i10, .slice x1 m.qs.length y1, .slice x2 m.an.length y2, .slice x3 m.au.length y3, .slice x4 m.ex.length y4] 29
  have r2 := fun i => blk_cell B2 i
  have be1 := Nm.below_two (Nm.below_two be0 hb1) hbA
  have L2 : Lists (w1.alloc (.cells #[.int .i64 i0, .bool t15, .int .i64 i2, .bool t10, .bool t9, .bool t8, .bool t7, .bool t6, .bool t5, .bool t4, .int .i64 i10, .slice x1 m.qs.length y1, .slice x2 m.an.length y2, .slice x3 m.au.length y3, .slice x4 m.ex.length y4] 29)) w.heap.size m (.slice x1 m.qs.length y1) (.slice x2 m.an.length y2) (.slice x3 m.au.length y3) (.slice x4 m.ex.length y4) := by
    have := lists_below L1 hbA
    exact ⟨own_base this.rq (by omega), own_base this.ra (by omega), own_base this.ru (by omega), own_base this.rx (by omega), this.au, this.ax, this.ux⟩
  have HL := Nm.hide (And.intro (setAll_new [.int .i64 i0, .bool t15, .int .i64 i2, .bool t10, .bool t9, .bool t8, .bool t7, .bool t6, .bool t5, .bool t4, .int .i64 i10, .slice x1 m.qs.length y1, .slice x2 m.an.length y2, .slice x3 m.au.length y3, .slice x4 m.ex.length y4] B1 rfl) (And.intro (setAll_below (Nat.le_refl _) [.int .i64 i0, .bool t15, .int .i64 i2, .bool t10, .bool t9, .bool t8, .bool t7, .bool t6, .bool t5, .bool t4, .int .i64 i10, .slice x1 m.qs.length y1, .slice x2 m.an.length y2, .slice x3 m.au.length y3, .slice x4 m.ex.length y4] 0 _ be1) (lists_setAll L2 B1 [.int .i64 i0, .bool t15, .int .i64 i2, .bool t10, .bool t9, .bool t8, .bool t7, .bool t6, .bool t5, .bool t4, .int .i64 i10, .slice x1 m.qs.length y1, .slice x2 m.an.length y2, .slice x3 m.au.length y3, .slice x4 m.ex.length y4] 0)))
  simp only [setAll, Nat.reduceAdd, Nat.zero_add] at HL
  clear B1 B2 be1 L2 L1 hb0 be0 hb1 hbA hcall
  go_wp2
  refine dec_back HL.out.1 ⟨_, _, _, _, _, _, _, _, _, _, _, _, _, _, _, rfl⟩ rfl rfl rfl ?_
  exact ⟨HL.out.2.1, _, _, _, _, rfl, HL.out.2.2⟩

theorem specDecode_any (v : Value) (l : List UInt8) (w : World) (h : BySl w v l) (hl : l.length ≤ 1048576) : Calls Try.prog 5 #[v] w (DecPost l w) := specDecode_wide v l w h (by omega)

theorem implDecode_wideO (v : Value) (l : List UInt8) (w : World) (h : BySl w v l) (hl : l.length ≤ 100000000) : Calls Try.prog 6 #[v] w (DecPost l w) := by
  refine (implDecode_wide v l w h hl).mono ?_
  rintro e w' ⟨hb, ⟨m, p, q, x, y, z, hm, rfl, hL⟩ | ⟨c, hm, rfl⟩⟩
  · refine ⟨hb, q, x, y, z, ?_, ?_⟩
    · rw [msO, hm]
    · rw [msO, hm]; exact hL
  · refine ⟨hb, .slice none 0 0, .slice none 0 0, .slice none 0 0, .slice none 0 0, ?_, ?_⟩
    · rw [msO, hm, ← msA_zero]
    · rw [msO, hm]; exact lists_none _ _

theorem implDecode_one (v : Value) (l : List UInt8) (w : World) (h : BySl w v l) (hl : l.length ≤ 1048576) : Calls Try.prog 6 #[v] w (DecPost l w) := implDecode_wideO v l w h (by omega)
end Go.Proofs.Ytihhchebcojplaa
