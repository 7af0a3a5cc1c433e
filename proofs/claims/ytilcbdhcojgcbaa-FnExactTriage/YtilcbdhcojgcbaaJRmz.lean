import Derived.Test.YtilcbdhcojgcbaaRma
import Derived.Test.YtilcbdhcojgcbaaRmb
import Derived.Test.YtilcbdhcojgcbaaRmc
import Derived.Test.YtilcbdhcojgcbaaRmd
import Derived.Test.YtilcbdhcojgcbaaRme
import Derived.Test.YtilcbdhcojgcbaaJVfE
import Derived.Tactics
import Derived.Tactics2
import Derived.Defers
import Derived.Recover
import Derived.Laws.Pointers
import Derived.Test.YtilcbdhcojgcbaaJHd1
/- (*reader).message by its contract: all its cases. -/
namespace Go.Proofs.Ytilcbdhcojgcbaa
open Go.RowKit
set_option linter.unusedVariables false

set_option maxRecDepth 100000 in
set_option maxHeartbeats 3200000 in
theorem message_any (g : Nat) (a : Option Addr) (l : List UInt8) (cap : Nat) (w : World) (h : Rd w g (.slice a l.length cap) 0) (hfar : ∀ w', w.grownBy w' (some g) → BySl w' (.slice a l.length cap) l) (hnn0 : l.length ≤ 100000000) :
    Calls Try.prog 41 #[.pointer (some ⟨g, 0, none⟩)] w fun e w' =>
      (∃ m p q x y z, msgS l = .ok m p ∧ e = .returned (.agg (msA (n16 l 0) (n16 l 2) q x y z)) ∧ Lists w' w.heap.size m q x y z ∧ w.grownBy w' (some g)) ∨
      (∃ c, msgS l = .bad c ∧ e = .panicked (fault c) ∧ w.grownBy w' (some g)) := by
  have hglt := rd_lt h
  have c0 : w.cell? ⟨g, 0, none⟩ = some (.slice a l.length cap) := by rw [cell_of_row _ _ _ _ _ _ h]; rfl
  have hbe : Below w.heap.size w (w.alloc (.cells ms0 35)) := (Below.refl _ _).alloc (Nat.le_refl _) _
  have hb0 := blk_new w ms0 35
  have hr0 := rd_below h hbe
  have hg0 := hgr_below (World.grownBy.refl w (some g)) hbe
  simp only [ms0] at hbe hb0 hr0 hg0
  by_cases hbig : 65535 < l.length
  · have hbig' : (65535 : Int) < (l.length : Int) := by omega
    have HM : Hid (msgS l = .bad 11) := by rw [Hid, msgS, if_pos hbig]
    have c1 := (blk_cell (rd_blk hr0) 0)
    go_enter Try.func41, Try.ntmps41
    go_wp2_with (go_at_call 54; refine (fail_any 11 _).mono ?_; rintro e w9 ⟨rfl, hw⟩; obtain rfl := hw.symm; clear hw)
    refine bp_panic rfl ?_
    exact .inr ⟨_, HM.out, rfl, hg0⟩
  · have hbig' : (l.length : Int) ≤ 65535 := by omega
    have hnn : l.length ≤ 1048576 := by omega
    have hhd := head_any g a l cap _ hr0 (fun W hW => hfar W (hgr_step hg0 hW)) hnn
    have c1 := (blk_cell (rd_blk hr0) 0)
    by_cases hsh : l.length < 12
    · have HM : Hid (msgS l = .bad 8) := by rw [Hid, msgS, if_neg hbig, if_pos hsh]
      have hhd' := hhd.mono (R' := fun e w' => e = .panicked (fault 8) ∧ w.grownBy w' (some g)) (by
        rintro e w' (⟨hx, _⟩ | ⟨_, he, hg⟩)
        · omega
        · exact ⟨he, hgr_step hg0 hg⟩)
      clear hhd
      go_enter Try.func41, Try.ntmps41
      go_wp2_with (go_at_call 39; refine hhd'.mono ?_; rintro e w9 ⟨rfl, hg9⟩)
      refine bp_panic rfl ?_
      exact .inr ⟨_, HM.out, rfl, hg9⟩
    · by_cases hcnt : 400 < n16 l 4 + n16 l 6 + n16 l 8 + n16 l 10
      · have hhd' := hhd.mono (R' := fun e w' => e = .returned (.tuple #[.agg (hdA (n16 l 0) (n16 l 2)), .agg (ctA l)]) ∧ Rd w' g (.slice a l.length cap) 12 ∧ w.grownBy w' (some g)) (by
          rintro e w' (⟨_, he, hr, hg⟩ | ⟨hx, _⟩)
          · exact ⟨he, hr, hgr_step hg0 hg⟩
          · omega)
        clear hhd hb0 hr0 hbe
        have q4 := n16_lt l 4
        have q6 := n16_lt l 6
        have q8 := n16_lt l 8
        have q10 := n16_lt l 10
        simp only [hdA, ctA] at hhd'
        have HM : Hid (msgS l = .bad 12) := by rw [Hid, msgS, if_neg hbig, if_neg hsh, if_pos hcnt]
        have hcnt' : (400 : Int) < (n16 l 4 : Int) + (n16 l 6 : Int) + (n16 l 8 : Int) + (n16 l 10 : Int) := by omega
        go_enter Try.func41, Try.ntmps41
        go_wp2_with (first | (go_at_call 39; refine hhd'.mono ?_; rintro e w2 ⟨rfl, hr2, hg2⟩) | (go_at_call 54; refine (fail_any 12 _).mono ?_; rintro e w9 ⟨rfl, hw⟩; obtain rfl := hw.symm; clear hw))
        refine bp_panic rfl ?_
        refine .inr ⟨_, HM.out, rfl, ?_⟩
        exact hgr_below hg2 (((Below.refl _ _).alloc (Nat.le_refl _) _).alloc (by simp) _)
      · have HM : msgS l = listsS l := by rw [msgS, if_neg hbig, if_neg hsh, if_neg hcnt]
        rw [HM]
        cases hd1 : manyS (quS l) (n16 l 4) 12 [] using Rs.elim with
        | bad c => exact (message_a g a l cap w h hfar hnn hbig hsh hcnt hd1).mono (fun e w' h => .inr ⟨c, listsS_q hd1, h.1, h.2⟩)
        | ok qs p1 =>
          cases hd2 : manyS (rrS l) (n16 l 6) p1 [] using Rs.elim with
          | bad c => exact (message_b g a l cap w h hfar hnn hbig hsh hcnt hd1 hd2).mono (fun e w' h => .inr ⟨c, listsS_a hd1 hd2, h.1, h.2⟩)
          | ok an p2 =>
            cases hd3 : manyS (rrS l) (n16 l 8) p2 [] using Rs.elim with
            | bad c => exact (message_c g a l cap w h hfar hnn hbig hsh hcnt hd1 hd2 hd3).mono (fun e w' h => .inr ⟨c, listsS_u hd1 hd2 hd3, h.1, h.2⟩)
            | ok au p3 =>
              cases hd4 : manyS (rrS l) (n16 l 10) p3 [] using Rs.elim with
              | bad c => exact (message_d g a l cap w h hfar hnn hbig hsh hcnt hd1 hd2 hd3 hd4).mono (fun e w' h => .inr ⟨c, listsS_e hd1 hd2 hd3 hd4, h.1, h.2⟩)
              | ok ex p4 =>
                have hL := listsS_ok hd1 hd2 hd3 hd4
                refine (message_e g a l cap w h hfar hnn hbig hsh hcnt hd1 hd2 hd3 hd4).mono ?_
                rintro e w' (⟨ht, he, hg⟩ | ⟨ht, q, x, y, z, he, hls, hg⟩)
                · rw [if_pos ht] at hL
                  exact .inr ⟨10, hL, he, hg⟩
                · rw [if_neg ht] at hL
                  exact .inl ⟨_, _, q, x, y, z, hL, he, hls, hg⟩
end Go.Proofs.Ytilcbdhcojgcbaa
/- impl.codeOf and the deferred functions by their contracts. -/
namespace Go.Proofs.Ytilcbdhcojgcbaa
open Go.RowKit
set_option linter.unusedVariables false

set_option maxRecDepth 100000 in
set_option maxHeartbeats 400000 in
theorem codeOf_nil (w : World) :
    Calls Try.prog 38 #[.nilIface] w fun e w' => e = .returned (.int .i64 0) ∧ w' = w := by
  go_enter Try.func38, Try.ntmps38
  go_wp2
  go_ret
  exact ⟨rfl, rfl⟩

set_option maxRecDepth 100000 in
set_option maxHeartbeats 400000 in
theorem codeOf_fault (c : Int) (w : World) :
    Calls Try.prog 38 #[.iface 109 (.agg #[.int .i64 c])] w fun e w' => e = .returned (.int .i64 c) ∧ Below w.heap.size w w' := by
  have hm : ∀ w : World, (Instr.typeAssert (.iface 109 (.agg #[.int .i64 c])) 20 109 true).run Try.prog w = .ok (.tuple #[.agg #[.int .i64 c], .bool true]) w := fun _ => by kernel_rfl
  go_enter Try.func38, Try.ntmps38
  go_wp2
  go_ret
  exact ⟨rfl, (Below.refl _ _).alloc (Nat.le_refl _) _⟩
end Go.Proofs.Ytilcbdhcojgcbaa
/- impl.Decode by its contract. -/
namespace Go.Proofs.Ytilcbdhcojgcbaa
open Go.RowKit
set_option linter.unusedVariables false

set_option maxRecDepth 100000 in
set_option maxHeartbeats 400000 in
theorem dm_caught (b : Nat) (x : Int) (c : Int) (T : TypeId) (w : World) (h : w.heap[b]? = some (.cells #[.int .i64 x] T (0, 0))) :
    CallsD Try.prog 40 #[.pointer (some ⟨b, 0, none⟩)] (.panicking (fault c)) w fun e u' w' =>
      e = .returned (.tuple #[]) ∧ u' = .panicking [{ v := .iface 109 (.agg #[.int .i64 c]), recovered := true }] ∧ ∃ w1, Below w.heap.size w w1 ∧ w' = w1.setCell ⟨b, 0, none⟩ (.int .i64 c) := by
  unfold fault
  refine callsD_of_wpS Try.func40 rfl fun c₀ cs hu => ?_
  apply wpS_region
  simp [wpOpsS, go_sem, recoverD, hu, Try.ntmps40]
  refine (codeOf_fault c w).mono ?_
  rintro e w1 ⟨rfl, hb⟩
  have h1 : w1.heap[b]? = some (.cells #[.int .i64 x] T (0, 0)) := by rw [hb.block b (Array.getElem?_eq_some_iff.1 h).1]; exact h
  have c1 : w1.cell? ⟨b, 0, none⟩ = some (.int .i64 x) := by rw [cell_of_row _ _ _ _ _ _ h1]; rfl
  have f1 := frozen_of_row w1 b 0 _ _ h1
  simp [go_sem, c1, f1, bodyPostS, results, Try.results40]
  exact ⟨w1, hb, rfl⟩

set_option maxRecDepth 100000 in
set_option maxHeartbeats 400000 in
theorem dm_idle (b : Nat) (x : Int) (T : TypeId) (w : World) (h : w.heap[b]? = some (.cells #[.int .i64 x] T (0, 0))) :
    CallsD Try.prog 40 #[.pointer (some ⟨b, 0, none⟩)] .returning w fun e u' w' =>
      e = .returned (.tuple #[]) ∧ u' = .returning ∧ w' = w.setCell ⟨b, 0, none⟩ (.int .i64 0) := by
  refine callsD_of_wpS Try.func40 rfl fun c₀ cs hu => ?_
  apply wpS_region
  simp [wpOpsS, go_sem, recoverD, hu, Try.ntmps40]
  refine (codeOf_nil w).mono ?_
  rintro e w1 ⟨rfl, rfl⟩
  have c1 : w1.cell? ⟨b, 0, none⟩ = some (.int .i64 x) := by rw [cell_of_row _ _ _ _ _ _ h]; rfl
  have f1 := frozen_of_row w1 b 0 _ _ h
  simp [go_sem, c1, f1, bodyPostS, results, Try.results40]
  cases c₀
  simp_all

/-- The variables of Decode. -/
structure DSt (w W : World) (cs : Array Value) (x : Value) : Prop where
  b0 : Blk W w.heap.size cs 35
  b1 : Blk W (w.heap.size + 1) #[x] 2
  be : Below w.heap.size w W

theorem DSt.code {w W : World} {cs : Array Value} {x : Value} (h : DSt w W cs x) (y : Value) : DSt w (W.setCell ⟨w.heap.size + 1, 0, none⟩ y) cs y :=
  ⟨blk_far h.b0 (by omega), blk_set h.b1 0 y, h.be.setCell (by simp) _⟩

theorem DSt.below {w W W1 : World} {cs : Array Value} {x : Value} (h : DSt w W cs x) (hb : Below W.heap.size W W1) : DSt w W1 cs x :=
  ⟨blk_below h.b0 hb, blk_below h.b1 hb, h.be.trans (hb.mono h.be.size)⟩

theorem DSt.grown {w W W1 : World} {cs : Array Value} {x : Value} (h : DSt w W cs x) (hg : W.grownBy W1 (some (w.heap.size + 2))) : DSt w W1 cs x :=
  ⟨blk_grown h.b0 hg (by simp), blk_grown h.b1 hg (by simp), h.be.grown hg h.be.size (fun q hq => by simp at hq; omega)⟩

theorem DSt.lay {w W : World} {cs : Array Value} {x : Value} (h : DSt w W cs x) (vs : List Value) (hl : cs.size = vs.length) : DSt w (setAll W w.heap.size 0 vs) vs.toArray x :=
  ⟨setAll_new _ h.b0 hl, setAll_far (by omega) _ _ _ h.b1, setAll_below (Nat.le_refl _) _ _ _ h.be⟩

theorem dst_new (w : World) (V : Value) : DSt w (((w.alloc (.cells ms0 35)).alloc (.cells #[.int .i64 0] 2)).alloc (.cells #[V, .int .i64 (0 : Nat)] 92)) ms0 (.int .i64 0) ∧ Rd (((w.alloc (.cells ms0 35)).alloc (.cells #[.int .i64 0] 2)).alloc (.cells #[V, .int .i64 (0 : Nat)] 92)) (w.heap.size + 2) V 0 := by
  have e1 : (w.alloc (.cells ms0 35)).heap.size = w.heap.size + 1 := by simp
  have e2 : ((w.alloc (.cells ms0 35)).alloc (.cells #[.int .i64 0] 2)).heap.size = w.heap.size + 2 := by simp
  have hB := blk_alloc (blk_new (w.alloc (.cells ms0 35)) #[.int .i64 0] 2) (.cells #[V, .int .i64 (0 : Nat)] 92)
  have hC := blk_new ((w.alloc (.cells ms0 35)).alloc (.cells #[.int .i64 0] 2)) #[V, .int .i64 (0 : Nat)] 92
  rw [e1] at hB
  rw [e2] at hC
  exact ⟨⟨blk_alloc (blk_alloc (blk_new w ms0 _) _) _, hB, (((Below.refl _ _).alloc (Nat.le_refl _) _).alloc (by simp) _).alloc (by simp; omega) _⟩, hC⟩

theorem lists_far {B b i : Nat} {m : Mm} {q x y z v : Value} {W : World} {cs : Array Value} (h : Lists W B m q x y z) (hb : Blk W b cs 2) : Lists (W.setCell ⟨b, i, none⟩ v) B m q x y z := by
  have hg : W.grownBy (W.setCell ⟨b, i, none⟩ v) (some b) := ⟨rfl, rfl, rfl, by simp, fun k _ hk => heap_setCell_other W ⟨b, i, none⟩ k _ (fun e => hk (by simp [e]))⟩
  have key : ∀ {e s n : Nat} {u : Value} {xs : List Value}, e ≠ 2 → W.ownsRow B e s u n xs → (W.setCell ⟨b, i, none⟩ v).ownsRow B e s u n xs := by
    intro e s n u xs hne h
    refine h.kept hg ?_
    rcases h.2 with ⟨rfl, _⟩ | ⟨g', cap', cur, rfl, _, hh, _⟩
    · exact .inl rfl
    · right
      simp only [Value.ownBlock, ne_eq, Option.some.injEq]
      intro e2
      subst e2
      unfold Blk at hb
      rw [hh] at hb
      simp at hb
      exact hne hb.2
  exact ⟨key (by decide) h.rq, key (by decide) h.ra, key (by decide) h.ru, key (by decide) h.rx, h.au, h.ax, h.ux⟩

/-- Decode's variables and the message's lists. -/
structure DLS (w W : World) (cs : Array Value) (x : Value) (m : Mm) (q a u z : Value) : Prop where
  d : DSt w W cs x
  l : Lists W w.heap.size m q a u z

set_option maxRecDepth 100000 in
set_option maxHeartbeats 3200000 in
theorem implDecode_wide (v : Value) (l : List UInt8) (w : World) (h : BySl w v l) (hl : l.length ≤ 100000000) :
    Calls Try.prog 26 #[v] w fun e w' => Below w.heap.size w w' ∧
      ((∃ m p q x y z, msgS l = .ok m p ∧ e = .returned (.tuple #[.agg (msA (n16 l 0) (n16 l 2) q x y z), .int .i64 0]) ∧ Lists w' w.heap.size m q x y z) ∨
       (∃ c, msgS l = .bad c ∧ e = .returned (.tuple #[.agg ms0, .int .i64 c]))) := by
  have hmf : ∀ (fn : Fn) (first cap : Array Value) (w : World), (Instr.makeFunc fn first cap).run Try.prog w = .ok (.func fn first cap) w := fun _ _ _ _ => rfl
  obtain ⟨hbl, a, cap, rfl, hcap, hmx, hc⟩ := h
  have hby : BySl w (.slice a l.length cap) l := ⟨hbl, a, cap, rfl, hcap, hmx, hc⟩
  clear hc
  have hnm := fun W (h1 : Rd W (w.heap.size + 2) (.slice a l.length cap) 0) (hB : Below w.heap.size w W) => message_any (w.heap.size + 2) a l cap W h1 (fun W2 hg => hby.below (hB.grown hg hB.size (fun q hq => by simp at hq; omega))) hl
  obtain ⟨D0, hD⟩ := dst_new w (.slice a l.length cap)
  simp only [ms0] at D0 hD
  go_enter_defers Try.func26, Try.ntmps26
  go_wp2_with fail
  refine (hnm _ hD D0.be).mono ?_
  rintro e w2 (⟨m, p, q, x, y, z, hm, rfl, hls, hg2⟩ | ⟨c, hm, rfl, hg2⟩)
  · have D2 := D0.grown hg2
    have hls := (show Lists w2 w.heap.size m q x y z from ⟨own_base hls.rq D0.be.size, own_base hls.ra D0.be.size, own_base hls.ru D0.be.size, own_base hls.rx D0.be.size, hls.au, hls.ax, hls.ux⟩)
    obtain ⟨x1, y1, rfl⟩ := row_val hls.rq
    obtain ⟨x2, y2, rfl⟩ := row_val hls.ra
    obtain ⟨x3, y3, rfl⟩ := row_val hls.ru
    obtain ⟨x4, y4, rfl⟩ := row_val hls.rx
    have r0 := fun i => blk_cell D2.b0 i
    have f0 := fun i => blk_frozen D2.b0 i
    have r1 := fun i => blk_cell D2.b1 i
    have f1 := fun i => blk_frozen D2.b1 i
    have X := DLS.mk ((D2.lay (msA (n16 l 0) (n16 l 2) (.slice x1 m.qs.length y1) (.slice x2 m.an.length y2) (.slice x3 m.au.length y3) (.slice x4 m.ex.length y4)).toList rfl).code (.int .i64 0)) (lists_far (lists_setAll hls D2.b0 (msA (n16 l 0) (n16 l 2) (.slice x1 m.qs.length y1) (.slice x2 m.an.length y2) (.slice x3 m.au.length y3) (.slice x4 m.ex.length y4)).toList 0) (D2.lay (msA (n16 l 0) (n16 l 2) (.slice x1 m.qs.length y1) (.slice x2 m.an.length y2) (.slice x3 m.au.length y3) (.slice x4 m.ex.length y4)).toList rfl).b1)
    simp only [msA, setAll, Nat.reduceAdd, Nat.zero_add, Int.natCast_emod, Int.natCast_ediv] at X ⊢
    clear D0 D2 hls hg2 hnm hD
    go_wp2
    refine gen_world (Pr := fun W => DLS w W _ _ _ _ _ _ _) (G := fun W => bodyPostD _ _ _ _ _ W) X ?_
    clear X r0 f0 r1 f1
    intro W X
    refine leaves_cons (f := 40) (args := #[.pointer (some ⟨w.heap.size + 1, 0, none⟩)]) (by simp) (by simp [go_sem]) ?_
    refine (dm_idle (w.heap.size + 1) 0 2 W X.d.b1).mono ?_
    rintro e u' w'' ⟨rfl, rfl, rfl⟩
    have D3 := X.d.code (.int .i64 0)
    have hl3 := lists_far (i := 0) (v := .int .i64 0) X.l X.d.b1
    generalize W.setCell ⟨w.heap.size + 1, 0, none⟩ (.int .i64 0) = w4 at *
    have r0 := fun i => blk_cell D3.b0 i
    have r1 := fun i => blk_cell D3.b1 i
    simp [Leaves, settle, results, Try.results26, go_sem, r0, r1]
    exact ⟨D3.be, .inl ⟨m, ⟨p, hm⟩, .slice x1 m.qs.length y1, .slice x2 m.an.length y2, .slice x3 m.au.length y3, .slice x4 m.ex.length y4, by simp [msA], hl3⟩⟩
  · have D2 := D0.grown hg2
    clear hD D0 hg2
    refine leaves_cons (f := 40) (args := #[.pointer (some ⟨w.heap.size + 1, 0, none⟩)]) (by simp) (by simp [go_sem]) ?_
    refine (dm_caught (w.heap.size + 1) 0 c 2 w2 D2.b1).mono ?_
    rintro e u' w'' ⟨rfl, rfl, w3, hb3, rfl⟩
    have D3 := (D2.below hb3).code (.int .i64 c)
    generalize w3.setCell ⟨w.heap.size + 1, 0, none⟩ (.int .i64 c) = w4 at *
    have r0 := fun i => blk_cell D3.b0 i
    have r1 := fun i => blk_cell D3.b1 i
    simp [Leaves, settle, results, Try.results26, go_sem, r0, r1]
    exact ⟨D3.be, .inr ⟨hm, rfl⟩⟩

theorem implDecode_any (v : Value) (l : List UInt8) (w : World) (h : BySl w v l) (hl : l.length ≤ 1048576) :
    Calls Try.prog 26 #[v] w fun e w' => Below w.heap.size w w' ∧
      ((∃ m p q x y z, msgS l = .ok m p ∧ e = .returned (.tuple #[.agg (msA (n16 l 0) (n16 l 2) q x y z), .int .i64 0]) ∧ Lists w' w.heap.size m q x y z) ∨
       (∃ c, msgS l = .bad c ∧ e = .returned (.tuple #[.agg ms0, .int .i64 c]))) := implDecode_wide v l w h (by omega)
end Go.Proofs.Ytilcbdhcojgcbaa
