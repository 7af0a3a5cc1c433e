/- impl.DecodeHead by its contract. -/
import Derived.Test.YtakonfkefoeenadHd3
import Derived.Test.YtakonfkefoeenadRd5
namespace Go.Proofs.Ytakonfkefoeenad
open Go.RowKit
set_option linter.unusedVariables false

set_option maxRecDepth 100000 in
set_option maxHeartbeats 400000 in
theorem dh_caught (b : Nat) (x : Int) (c : Int) (T : TypeId) (w : World) (h : w.heap[b]? = some (.cells #[.int .i64 x] T (0, 0))) :
    CallsD Try.prog 18 #[.pointer (some ⟨b, 0, none⟩)] (.panicking (fault c)) w fun e u' w' =>
      e = .returned (.tuple #[]) ∧ u' = .panicking [{ v := .iface 56 (.agg #[.int .i64 c]), recovered := true }] ∧ ∃ w1, Below w.heap.size w w1 ∧ w' = w1.setCell ⟨b, 0, none⟩ (.int .i64 c) := by
  unfold fault
  refine callsD_of_wpS Try.func18 rfl fun c₀ cs hu => ?_
  apply wpS_region
  simp [wpOpsS, go_sem, recoverD, hu, Try.ntmps18]
  refine (codeOf_fault c w).mono ?_
  rintro e w1 ⟨rfl, hb⟩
  have h1 : w1.heap[b]? = some (.cells #[.int .i64 x] T (0, 0)) := by rw [hb.block b (Array.getElem?_eq_some_iff.1 h).1]; exact h
  have c1 : w1.cell? ⟨b, 0, none⟩ = some (.int .i64 x) := by rw [cell_of_row _ _ _ _ _ _ h1]; rfl
  have f1 := frozen_of_row w1 b 0 _ _ h1
  simp [go_sem, c1, f1, bodyPostS, results, Try.results18]
  exact ⟨w1, hb, rfl⟩

set_option maxRecDepth 100000 in
set_option maxHeartbeats 400000 in
theorem dh_idle (b : Nat) (x : Int) (T : TypeId) (w : World) (h : w.heap[b]? = some (.cells #[.int .i64 x] T (0, 0))) :
    CallsD Try.prog 18 #[.pointer (some ⟨b, 0, none⟩)] .returning w fun e u' w' =>
      e = .returned (.tuple #[]) ∧ u' = .returning ∧ w' = w.setCell ⟨b, 0, none⟩ (.int .i64 0) := by
  refine callsD_of_wpS Try.func18 rfl fun c₀ cs hu => ?_
  apply wpS_region
  simp [wpOpsS, go_sem, recoverD, hu, Try.ntmps18]
  refine (codeOf_nil w).mono ?_
  rintro e w1 ⟨rfl, rfl⟩
  have c1 : w1.cell? ⟨b, 0, none⟩ = some (.int .i64 x) := by rw [cell_of_row _ _ _ _ _ _ h]; rfl
  have f1 := frozen_of_row w1 b 0 _ _ h
  simp [go_sem, c1, f1, bodyPostS, results, Try.results18]
  cases c₀
  simp_all

/-- The three variables of DecodeHead's results. -/
structure L3 (w W : World) (b : Nat) (c0 c1 : Array Value) (x : Value) : Prop where
  b0 : Blk W b c0 25
  b1 : Blk W (b + 1) c1 26
  b2 : Blk W (b + 2) #[x] 2
  be : Below b w W

theorem L3.lay {w W : World} {b : Nat} {c0 c1 : Array Value} {x : Value} (h : L3 w W b c0 c1 x) (v0 v1 : List Value) (h0 : c0.size = v0.length) (h1 : c1.size = v1.length) :
    L3 w (setAll (setAll W b 0 v0) (b + 1) 0 v1) b v0.toArray v1.toArray x :=
  ⟨setAll_far (by omega) _ _ _ (setAll_new _ h.b0 h0), setAll_new _ (setAll_far (by omega) _ _ _ h.b1) h1, setAll_far (by omega) _ _ _ (setAll_far (by omega) _ _ _ h.b2), setAll_below (by omega) _ _ _ (setAll_below (Nat.le_refl _) _ _ _ h.be)⟩

theorem L3.code {w W : World} {b : Nat} {c0 c1 : Array Value} {x : Value} (h : L3 w W b c0 c1 x) (y : Value) : L3 w (W.setCell ⟨b + 2, 0, none⟩ y) b c0 c1 y :=
  ⟨blk_far h.b0 (by omega), blk_far h.b1 (by omega), blk_set h.b2 0 y, h.be.setCell (by simp) _⟩

theorem L3.drew {w W : World} {b : Nat} {c0 c1 : Array Value} {x : Value} (h : L3 w W b c0 c1 x) : L3 w W.drew b c0 c1 x := ⟨h.b0, h.b1, h.b2, h.be.drew⟩

set_option maxRecDepth 100000 in
set_option maxHeartbeats 3200000 in
theorem implDecodeHead_any (v : Value) (l : List UInt8) (w : World) (h : BySl w v l) (hl : l.length ≤ 1048576) :
    Calls Try.prog 9 #[v] w fun e w' => e = .returned (dhV l) ∧ Below w.heap.size w w' := by
  have hmf : ∀ (fn : Fn) (first cap : Array Value) (w : World), (Instr.makeFunc fn first cap).run Try.prog w = .ok (.func fn first cap) w := fun _ _ _ _ => rfl
  obtain ⟨hbl, a, cap, rfl, hcap, hmx, hc⟩ := h
  have hby : BySl w (.slice a l.length cap) l := ⟨hbl, a, cap, rfl, hcap, hmx, hc⟩
  clear hc
  have hnm := fun W (h1 : Rd W (w.heap.size + 3) (.slice a l.length cap) 0) (hB : Below w.heap.size w W) => head_any (w.heap.size + 3) a l cap W h1 (fun W2 hg => hby.below (hB.grown hg hB.size (fun q hq => by simp at hq; omega))) hl
  have hA := blk_alloc (blk_alloc (blk_alloc (blk_new w hd0 25) (.cells ct0 26)) (.cells #[.int .i64 0] 2)) (.cells #[.slice a l.length cap, .int .i64 (0 : Nat)] 43)
  have hB := blk_alloc (blk_alloc (blk_new (w.alloc (.cells hd0 25)) ct0 26) (.cells #[.int .i64 0] 2)) (.cells #[.slice a l.length cap, .int .i64 (0 : Nat)] 43)
  have hC := blk_alloc (blk_new ((w.alloc (.cells hd0 25)).alloc (.cells ct0 26)) #[.int .i64 0] 2) (.cells #[.slice a l.length cap, .int .i64 (0 : Nat)] 43)
  have hD : Rd _ _ _ 0 := blk_new (((w.alloc (.cells hd0 25)).alloc (.cells ct0 26)).alloc (.cells #[.int .i64 0] 2)) #[.slice a l.length cap, .int .i64 (0 : Nat)] 43
  have hbe : Below w.heap.size w ((((w.alloc (.cells hd0 25)).alloc (.cells ct0 26)).alloc (.cells #[.int .i64 0] 2)).alloc (.cells #[.slice a l.length cap, .int .i64 (0 : Nat)] 43)) :=
    ((((Below.refl _ _).alloc (Nat.le_refl _) _).alloc (by simp) _).alloc (by simp; omega) _).alloc (by simp; omega) _
  have e1 : (w.alloc (.cells hd0 25)).heap.size = w.heap.size + 1 := by simp
  have e2 : ((w.alloc (.cells hd0 25)).alloc (.cells ct0 26)).heap.size = w.heap.size + 2 := by simp
  have e3 : (((w.alloc (.cells hd0 25)).alloc (.cells ct0 26)).alloc (.cells #[.int .i64 0] 2)).heap.size = w.heap.size + 3 := by simp
  rw [e1] at hB
  rw [e2] at hC
  rw [e3] at hD
  simp only [hd0, ct0] at hA hB hC hD hbe
  by_cases hlong : 12 ≤ l.length
  · have hnm' := fun W h1 hB => (hnm W h1 hB).mono (R' := fun e w' => e = .returned (.tuple #[.agg (hdA (n16 l 0) (n16 l 2)), .agg (ctA l)]) ∧ W.grownBy w' (some (w.heap.size + 3))) (by
      rintro e w2 (⟨_, he, hr, hg2⟩ | ⟨hx, _⟩)
      · exact ⟨he, hg2⟩
      · omega)
    have HV : Hid (dhV l = .tuple #[.agg (hdA (n16 l 0) (n16 l 2)), .agg (ctA l), .int .i64 0]) := if_pos hlong
    clear hnm
    simp only [hdA, ctA] at hnm' HV
    generalize ((n16 l 2 / 2048 % 16 : Nat) : Int) = op at *
    generalize ((n16 l 2 % 16 : Nat) : Int) = cd at *
    generalize (n16 l 2).testBit 15 = t15 at *
    generalize (n16 l 2).testBit 10 = t10 at *
    generalize (n16 l 2).testBit 9 = t9 at *
    generalize (n16 l 2).testBit 8 = t8 at *
    generalize (n16 l 2).testBit 7 = t7 at *
    generalize (n16 l 2).testBit 6 = t6 at *
    generalize (n16 l 2).testBit 5 = t5 at *
    generalize (n16 l 2).testBit 4 = t4 at *
    generalize ((n16 l 0 : Nat) : Int) = m0 at *
    generalize ((n16 l 4 : Nat) : Int) = m4 at *
    generalize ((n16 l 6 : Nat) : Int) = m6 at *
    generalize ((n16 l 8 : Nat) : Int) = m8 at *
    generalize ((n16 l 10 : Nat) : Int) = m10 at *
    go_enter_defers Try.func9, Try.ntmps9
    go_wp2_with (go_at_call 20; refine (hnm' _ hD hbe).mono ?_; rintro e w2 ⟨rfl, hg2⟩; have HL0 : L3 w w2 w.heap.size hd0 ct0 (.int .i64 0) := ⟨blk_grown hA hg2 (by simp), blk_grown hB hg2 (by simp), blk_grown hC hg2 (by simp), hbe.grown hg2 hbe.size (fun q hq => by simp at hq; omega)⟩; have r0 := (fun i => blk_cell HL0.b0 i); have r1 := (fun i => blk_cell HL0.b1 i); have f0 := (fun i => blk_frozen HL0.b0 i); have f1 := (fun i => blk_frozen HL0.b1 i); simp only [hd0, ct0] at r0 r1; clear hA hB hC hD hbe hg2)
    have HL := HL0.lay [.int .i64 m0, .bool t15, .int .i64 op, .bool t10, .bool t9, .bool t8, .bool t7, .bool t6, .bool t5, .bool t4, .int .i64 cd] [.int .i64 m4, .int .i64 m6, .int .i64 m8, .int .i64 m10] rfl rfl
    simp only [setAll, Nat.reduceAdd, Nat.zero_add] at HL
    refine gen_world (Pr := fun W => L3 w W _ _ _ _) (G := fun W => Code.wp _ _ _ _ W) HL ?_
    clear HL r0 r1 f0 f1 HL0 w2
    intro W HL0
    have HL := Nm.hide (((HL0.lay [.int .i64 m0, .bool t15, .int .i64 op, .bool t10, .bool t9, .bool t8, .bool t7, .bool t6, .bool t5, .bool t4, .int .i64 cd] [.int .i64 m4, .int .i64 m6, .int .i64 m8, .int .i64 m10] rfl rfl).code (.int .i64 0)).drew)
    simp only [setAll, Nat.reduceAdd, Nat.zero_add] at HL
    have r0 := fun i => blk_cell HL0.b0 i
    have r1 := fun i => blk_cell HL0.b1 i
    have r2 : ∀ i, W.cell? ⟨w.heap.size + 1 + 1, i, none⟩ = _ := fun i => blk_cell HL0.b2 i
    have f0 := fun i => blk_frozen HL0.b0 i
    have f1 := fun i => blk_frozen HL0.b1 i
    have f2 : ∀ i, W.frozen? ⟨w.heap.size + 1 + 1, i, none⟩ = _ := fun i => blk_frozen HL0.b2 i
    clear HL0
    go_region
    go_wp2
    refine gen_world (Pr := fun W => L3 w W _ _ _ _) (G := fun W => bodyPostD _ _ _ _ _ W) HL.out ?_
    clear HL r0 r1 r2 f0 f1 f2
    intro W2 HL2
    refine leaves_cons (f := 18) (args := #[.pointer (some ⟨w.heap.size + 2, 0, none⟩)]) (by simp) (by simp [go_sem]) ?_
    refine (dh_idle (w.heap.size + 2) 0 2 W2 HL2.b2).mono ?_
    rintro e u' w'' ⟨rfl, rfl, rfl⟩
    have HL3 := HL2.code (.int .i64 0)
    generalize W2.setCell ⟨w.heap.size + 2, 0, none⟩ (.int .i64 0) = w4 at *
    have r0 := fun i => blk_cell HL3.b0 i
    have r1 := fun i => blk_cell HL3.b1 i
    have r2 := fun i => blk_cell HL3.b2 i
    simp [Leaves, settle, results, Try.results9, go_sem, r0, r1, r2]
    rw [HV.out]
    exact ⟨rfl, HL3.be⟩
  · have hnm' := fun W h1 hB => (hnm W h1 hB).mono (R' := fun e w' => e = .panicked (fault 8) ∧ W.grownBy w' (some (w.heap.size + 3))) (by
      rintro e w2 (⟨hx, _⟩ | ⟨_, he, hg2⟩)
      · omega
      · exact ⟨he, hg2⟩)
    have HV : Hid (dhV l = .tuple #[.agg hd0, .agg ct0, .int .i64 8]) := if_neg hlong
    clear hnm
    go_enter_defers Try.func9, Try.ntmps9
    go_wp2_with (go_at_call 20; refine (hnm' _ hD hbe).mono ?_; rintro e w2 ⟨rfl, hg2⟩)
    have hA2 := blk_grown hA hg2 (by simp)
    have hB2 := blk_grown hB hg2 (by simp)
    have hC2 := blk_grown hC hg2 (by simp)
    have hb2 := hbe.grown hg2 hbe.size (fun q hq => by simp at hq; omega)
    clear hA hB hC hD hbe hg2
    refine leaves_cons (f := 18) (args := #[.pointer (some ⟨w.heap.size + 2, 0, none⟩)]) (by simp) (by simp [go_sem]) ?_
    refine (dh_caught (w.heap.size + 2) 0 8 2 w2 hC2).mono ?_
    rintro e u' w'' ⟨rfl, rfl, w3, hb3, rfl⟩
    have hA3 := blk_far (c := w.heap.size + 2) (i := 0) (v := .int .i64 8) (blk_below hA2 hb3) (by omega)
    have hB3 := blk_far (c := w.heap.size + 2) (i := 0) (v := .int .i64 8) (blk_below hB2 hb3) (by omega)
    have hC3 := blk_set (blk_below hC2 hb3) 0 (.int .i64 8)
    have HB : Below w.heap.size w (w3.setCell ⟨w.heap.size + 2, 0, none⟩ (.int .i64 8)) := (hb2.trans (hb3.mono hb2.size)).setCell (by simp) _
    generalize w3.setCell ⟨w.heap.size + 2, 0, none⟩ (.int .i64 8) = w4 at *
    have r0 := fun i => blk_cell hA3 i
    have r1 := fun i => blk_cell hB3 i
    have r2 := fun i => blk_cell hC3 i
    simp [Leaves, settle, results, Try.results9, go_sem, r0, r1, r2]
    rw [HV.out]
    exact ⟨rfl, HB⟩
end Go.Proofs.Ytakonfkefoeenad
