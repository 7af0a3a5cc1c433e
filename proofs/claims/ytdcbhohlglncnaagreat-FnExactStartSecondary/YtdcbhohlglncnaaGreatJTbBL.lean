import Derived.Test.YtdcbhohlglncnaaGreatJBmB
import Derived.Test.YtdcbhohlglncnaaGreatJMath
import Derived.RangeFuncNested
import Derived.RangeFuncBound
import Derived.RangeFuncCalls
import Derived.RangeFuncLeaves
import Derived.Shelf.Abstract
import Derived.Shelf.RegionOpen
import Derived.WalkKit
import Derived.OwnWalkIn
import Derived.TacticsInMore
import Derived.LoopNIn
import Derived.LoopIn
import Derived.RegionTactic
/- (*table).all: the iterator as it is handed to a loop. -/
namespace Go.Proofs.YtdcbhohlglncnaaGreat
open Go.RowKit Go.Shelf
set_option linter.unusedVariables false
attribute [local go_sem] Oper.semAt_some
/-- The rows zs lie below n₀ in the slice sv. -/
def RwsL {α : Type} (ka : α → Option Addr) (kn kc : α → Nat) (vf : α → Addr) (n₀ : Nat) (W : World) (sv : Value) (zs : List α) : Prop :=
 (sv = .slice none 0 0 ∧ zs = []) ∨ ∃ b off cap, sv = .slice (some ⟨b, off, none⟩) zs.length cap ∧ b < n₀ ∧ (zs.length ≤ cap ∧ cap ≤ maxLen) ∧
  ∀ (i : Nat) (x : α), zs[i]? = some x → W.cell? ⟨b, off + i * 2, none⟩ = some (Value.slice (ka x) (kn x) (kc x)) ∧ W.cell? ⟨b, off + i * 2 + 1, none⟩ = some (Value.pointer (some (vf x)))
theorem RwsL.below {α : Type} {ka : α → Option Addr} {kn kc : α → Nat} {vf : α → Addr} {n₀ : Nat} {W W' : World} {sv : Value} {zs : List α} (h : RwsL ka kn kc vf n₀ W sv zs) (hB : Below n₀ W W') : RwsL ka kn kc vf n₀ W' sv zs := by
 rcases h with h | ⟨b, off, cap, e, hb, hcp, hc⟩
 · exact .inl h
 · exact .inr ⟨b, off, cap, e, hb, hcp, fun i x hx => ⟨(hB.cell (p := ⟨b, off + i * 2, none⟩) hb).trans (hc i x hx).1, (hB.cell (p := ⟨b, off + i * 2 + 1, none⟩) hb).trans (hc i x hx).2⟩⟩
/-- A row of one's own is such a row. -/
theorem rwsL_own {α : Type} (ka : α → Option Addr) (kn kc : α → Nat) (vf : α → Addr) {w : World} {B e : Nat} {v : Value} (zs : List α) (h : w.ownsRow B e 2 v zs.length (rowCs (zs.map fun x => ((Value.slice (ka x) (kn x) (kc x)), (Value.pointer (some (vf x))))))) : RwsL ka kn kc vf w.heap.size w v zs := by
 have h' := h
 rcases h.2 with ⟨rfl, h0⟩ | ⟨q, cap, cur, rfl, hb, hh, hc1, hc2, hcs, ht⟩
 · exact .inl ⟨rfl, List.length_eq_zero_iff.1 h0⟩
 · refine .inr ⟨q, 0, cap, rfl, (Array.getElem?_eq_some_iff.1 hh).1, ⟨hc1, hc2⟩, fun i x hx => ?_⟩
   have hi := (List.getElem?_eq_some_iff.1 hx).1
   have hm : (zs.map fun x => ((Value.slice (ka x) (kn x) (kc x)), (Value.pointer (some (vf x)))))[i]? = some ((Value.slice (ka x) (kn x) (kc x)), (Value.pointer (some (vf x)))) := by simp [hx]
   have a0 := rowCs_at _ i 0 _ hm (by decide)
   have a1 := rowCs_at _ i 1 _ hm (by decide)
   have c0 := h'.cellAt (i * 2) (by omega)
   have c1 := h'.cellAt (i * 2 + 1) (by omega)
   exact ⟨by rw [Nat.zero_add, c0]; exact a0, by rw [Nat.zero_add, c1]; exact a1⟩
set_option maxRecDepth 100000 in
set_option maxHeartbeats 2000000 in
theorem all1nL_in {α : Type} (F : Fence) (n : Nat) (h7 : F.fn 120) (hro : F.round = none) (l tb g : Nat) (J : List α → World → Prop) (W : World)
 (kb : W.cell? ⟨tb, 0, none⟩ = some (.pointer (some ⟨g, 0, none⟩))) (kg : W.cell? ⟨g, 1, none⟩ = some (.slice none 0 0)) (h0 : J [] W) :
 CallsIn F n Tryz.prog 120 #[.func (.yield l) #[] #[], .pointer (some ⟨tb, 0, none⟩)] W fun e W' => (∃ v, e = .returned v) ∧ J [] W' := by
 refine callsIn_of_wp Tryz.func120 rfl h7 ?_ hro
 simp only [Tryz.ntmps120, List.size_toArray, List.length_cons, List.length_nil, Nat.reduceAdd, Nat.reduceSub, Array.replicate_succ, Array.replicate_zero, List.push_toArray, List.append_toArray, List.nil_append, List.cons_append]
 gi_wp2
 gi_loopw [10] (fun i wr => i = .int .i64 0 ∧ J [] wr) (fun _ _ => 0)
 case atStart => exact ⟨rfl, h0⟩
 case round =>
  obtain ⟨rfl, hJs⟩ := hrel
  gi_wp2
  go_end0
  exact ⟨⟨_, rfl⟩, hJs⟩
set_option maxRecDepth 100000 in
set_option maxHeartbeats 2000000 in
theorem allL_in (F : Fence) (n : Nat) (h6 : F.fn 81) (hro : F.round = none) (p : Option Addr) (w : World) :
 CallsIn F n Tryz.prog 81 #[.pointer p] w fun e w' => e = .returned (.func (.func 120) #[] #[.pointer (some ⟨w.heap.size, 0, none⟩)]) ∧ w' = w.alloc (.cells #[.pointer p] 127) := by
 refine callsIn_of_wp Tryz.func81 rfl h6 ?_ hro
 simp only [Tryz.ntmps81, List.size_toArray, List.length_cons, List.length_nil, Nat.reduceAdd, Nat.reduceSub, Array.replicate_succ, Array.replicate_zero, List.push_toArray, List.append_toArray, List.nil_append, List.cons_append]
 gi_wp2
 go_ret
 exact ⟨rfl, rfl⟩
theorem allStopsL {α : Type} (ka : α → Option Addr) (kn kc : α → Nat) (vf : α → Addr) (F : Fence) (n : Nat) (h7 : F.fn 120) (hro : F.round = none) (hn : 1 ≤ n) (tb g n₀ : Nat) (sv : Value) (zs : List α) (hl : zs.length ≤ 1000000) (w : World) (htb : tb < w.heap.size) (hg : g < n₀) (hn₀ : n₀ ≤ w.heap.size)
 (kb : w.cell? ⟨tb, 0, none⟩ = some (.pointer (some ⟨g, 0, none⟩))) (kg : w.cell? ⟨g, 1, none⟩ = some sv) (hR : RwsL ka kn kc vf n₀ w sv zs) :
 SeqStopsK F n Tryz.prog 120 #[.pointer (some ⟨tb, 0, none⟩)] (fun x : α => #[(Value.slice (ka x) (kn x) (kc x)), (Value.pointer (some (vf x)))]) (Below n₀) (fun ys => ys = zs) (fun pre => pre <+: zs) zs.length w := fun l J Jx W hW hJ _ hY h0 => by
 have kb' := (hW.cell (p := ⟨tb, 0, none⟩) htb).trans kb
 have kg' := (hW.cell (p := ⟨g, 1, none⟩) (Nat.lt_of_lt_of_le hg hn₀)).trans kg
 rcases hR.below (hW.mono hn₀) with ⟨rfl, rfl⟩ | ⟨b, off, cap, rfl, hb, hcp, hcs⟩
 · exact (all1nL_in F n h7 hro l tb g J W kb' kg' h0).mono fun e W' ⟨he, hj⟩ => ⟨he, .inl ⟨_, rfl, hj⟩⟩
 · exact all1L_in ka kn kc vf F n h7 hro hn l tb g n₀ b off cap (.pointer none) zs hl hcp hb J Jx (fun s W1 W2 hs hgr => hJ s W1 W2 none hs hgr (fun r e => by cases e)) hY W kb' kg' hcs (Nat.le_trans hn₀ hW.size) h0
end Go.Proofs.YtdcbhohlglncnaaGreat
/- (*table).all: a range over a table's rows, by its contract. -/
namespace Go.Proofs.YtdcbhohlglncnaaGreat
open Go.RowKit Go.Shelf
set_option linter.unusedVariables false
attribute [local go_sem] Oper.semAt_some
set_option maxRecDepth 100000 in
set_option maxHeartbeats 2000000 in
theorem all1I_in {α : Type} (kf : α → Int) (vf : α → Addr) (F : Fence) (n : Nat) (h7 : F.fn 121) (hro : F.round = none) (hn : 1 ≤ n) (l tb g n₀ b off cap : Nat) (cmpv : Value) (zs : List α) (hl : zs.length ≤ 1000000) (hcap : zs.length ≤ cap ∧ cap ≤ maxLen) (hb : b < n₀) (J Jx : List α → World → Prop)
 (hJ : ∀ s W W', J s W → W.grownBy W' none → J s W')
 (hY : ∀ pre x W, J pre W → pre.length < zs.length → YieldAt F (n - 1) Tryz.prog l #[(Value.int .i64 (kf x)), (Value.pointer (some (vf x)))] W fun e W' =>
  (e = .returned (.bool true) ∧ J (pre ++ [x]) W' ∧ Below n₀ W W') ∨ (e = .returned (.bool false) ∧ Jx (pre ++ [x]) W'))
 (W : World) (kb : W.cell? ⟨tb, 0, none⟩ = some (.pointer (some ⟨g, 0, none⟩))) (kg : W.cell? ⟨g, 1, none⟩ = some (.slice (some ⟨b, off, none⟩) zs.length cap))
 (hc : ∀ (i : Nat) (x : α), zs[i]? = some x → W.cell? ⟨b, off + i * 2, none⟩ = some (Value.int .i64 (kf x)) ∧ W.cell? ⟨b, off + i * 2 + 1, none⟩ = some (Value.pointer (some (vf x)))) (hn₀ : n₀ ≤ W.heap.size) (h0 : J [] W) :
 CallsIn F n Tryz.prog 121 #[.func (.yield l) #[] #[], .pointer (some ⟨tb, 0, none⟩)] W fun e W' => (∃ v, e = .returned v) ∧
  ((∃ ys, ys = zs ∧ J ys W') ∨ (∃ pre, pre <+: zs ∧ Jx pre W')) := by
 obtain ⟨hcap1, hcap2⟩ := hcap
 unfold maxLen at hcap2
 refine callsIn_of_wp Tryz.func121 rfl h7 ?_ hro
 simp only [Tryz.ntmps121, List.size_toArray, List.length_cons, List.length_nil, Nat.reduceAdd, Nat.reduceSub, Array.replicate_succ, Array.replicate_zero, List.push_toArray, List.append_toArray, List.nil_append, List.cons_append]
 gi_wp2
 gi_loopw [10] (fun i wr => ∃ k : Nat, k ≤ zs.length ∧ i = .int .i64 k ∧ J (zs.take k) wr ∧ Below n₀ W wr)
  (fun i _ => zs.length - (intOf i).toNat)
 case atStart => exact ⟨0, Nat.zero_le _, rfl, by simpa using h0, Below.refl _ _⟩
 case round =>
  obtain ⟨k, hk, rfl, hJs, hnx⟩ := hrel
  by_cases hlt : k < zs.length
  · obtain ⟨x, hx⟩ : ∃ x, zs[k]? = some x := ⟨_, List.getElem?_eq_getElem hlt⟩
    obtain ⟨c0, c1⟩ := hc k x hx
    have d0 : wr.cell? ⟨b, off + k * 2, none⟩ = some (Value.int .i64 (kf x)) := (hnx.cell (p := ⟨b, off + k * 2, none⟩) hb).trans c0
    have d1 : wr.cell? ⟨b, off + k * 2 + 1, none⟩ = some (Value.pointer (some (vf x))) := (hnx.cell (p := ⟨b, off + k * 2 + 1, none⟩) hb).trans c1
    have hal : ∀ o : Obj, wr.grownBy (wr.alloc o) none := fun o => ⟨rfl, rfl, rfl, by simp, fun q hq _ => heap_alloc_old wr _ hq⟩
    obtain ⟨fn, tmps, assign, body, hy, hR⟩ := hY _ x (wr.alloc (.cells #[(Value.int .i64 (kf x)), (Value.pointer (some (vf x)))] 189)) (hJ _ _ _ hJs (hal _)) (by rw [List.length_take]; omega)
    have n1 : (0 : Int) ≤ (k : Int) := by omega
    have n2 : (k : Int) < (zs.length : Int) := by omega
    have hbw : Below n₀ W (wr.alloc (.cells #[(Value.int .i64 (kf x)), (Value.pointer (some (vf x)))] 189)) := hnx.alloc (Nat.le_trans hn₀ hnx.size) _
    have HT : Hid (zs.take (k + 1) = zs.take k ++ [x]) := by
     obtain ⟨hk', e⟩ := List.getElem?_eq_some_iff.1 hx
     show _ = _
     rw [List.take_succ_eq_append_getElem hk', e]
    clear hc c0 c1 hx
    gi_wp2
    refine hR.mono ?_
    rintro e W3 (⟨rfl, hJ3, hk3⟩ | ⟨rfl, hJx3⟩)
    · gi_wp2
      go_roundw
      case rel => exact ⟨k + 1, by omega, by go_num, by rw [HT.out]; exact hJ3, hbw.trans hk3⟩
      case measure => simp [intOf]; omega
    · gi_wp2
      refine bodyPost_ret (results_none rfl _ _ _) rfl ?_
      exact ⟨⟨_, rfl⟩, .inr ⟨_, by rw [← HT.out]; exact List.take_prefix _ _, hJx3⟩⟩
  · obtain rfl : k = zs.length := by omega
    have n2 : (zs.length : Int) ≤ (zs.length : Int) := by omega
    rw [List.take_length] at hJs
    clear hc
    gi_wp2
    go_end0
    exact ⟨⟨_, rfl⟩, .inl ⟨_, rfl, hJs⟩⟩
end Go.Proofs.YtdcbhohlglncnaaGreat
/- (*table).all: the iterator as it is handed to a loop. -/
namespace Go.Proofs.YtdcbhohlglncnaaGreat
open Go.RowKit Go.Shelf
set_option linter.unusedVariables false
attribute [local go_sem] Oper.semAt_some
/-- The rows zs lie below n₀ in the slice sv. -/
def RwsI {α : Type} (kf : α → Int) (vf : α → Addr) (n₀ : Nat) (W : World) (sv : Value) (zs : List α) : Prop :=
 (sv = .slice none 0 0 ∧ zs = []) ∨ ∃ b off cap, sv = .slice (some ⟨b, off, none⟩) zs.length cap ∧ b < n₀ ∧ (zs.length ≤ cap ∧ cap ≤ maxLen) ∧
  ∀ (i : Nat) (x : α), zs[i]? = some x → W.cell? ⟨b, off + i * 2, none⟩ = some (Value.int .i64 (kf x)) ∧ W.cell? ⟨b, off + i * 2 + 1, none⟩ = some (Value.pointer (some (vf x)))
theorem RwsI.below {α : Type} {kf : α → Int} {vf : α → Addr} {n₀ : Nat} {W W' : World} {sv : Value} {zs : List α} (h : RwsI kf vf n₀ W sv zs) (hB : Below n₀ W W') : RwsI kf vf n₀ W' sv zs := by
 rcases h with h | ⟨b, off, cap, e, hb, hcp, hc⟩
 · exact .inl h
 · exact .inr ⟨b, off, cap, e, hb, hcp, fun i x hx => ⟨(hB.cell (p := ⟨b, off + i * 2, none⟩) hb).trans (hc i x hx).1, (hB.cell (p := ⟨b, off + i * 2 + 1, none⟩) hb).trans (hc i x hx).2⟩⟩
/-- A row of one's own is such a row. -/
theorem rwsI_own {α : Type} (kf : α → Int) (vf : α → Addr) {w : World} {B e : Nat} {v : Value} (zs : List α) (h : w.ownsRow B e 2 v zs.length (rowCs (zs.map fun x => ((Value.int .i64 (kf x)), (Value.pointer (some (vf x))))))) : RwsI kf vf w.heap.size w v zs := by
 have h' := h
 rcases h.2 with ⟨rfl, h0⟩ | ⟨q, cap, cur, rfl, hb, hh, hc1, hc2, hcs, ht⟩
 · exact .inl ⟨rfl, List.length_eq_zero_iff.1 h0⟩
 · refine .inr ⟨q, 0, cap, rfl, (Array.getElem?_eq_some_iff.1 hh).1, ⟨hc1, hc2⟩, fun i x hx => ?_⟩
   have hi := (List.getElem?_eq_some_iff.1 hx).1
   have hm : (zs.map fun x => ((Value.int .i64 (kf x)), (Value.pointer (some (vf x)))))[i]? = some ((Value.int .i64 (kf x)), (Value.pointer (some (vf x)))) := by simp [hx]
   have a0 := rowCs_at _ i 0 _ hm (by decide)
   have a1 := rowCs_at _ i 1 _ hm (by decide)
   have c0 := h'.cellAt (i * 2) (by omega)
   have c1 := h'.cellAt (i * 2 + 1) (by omega)
   exact ⟨by rw [Nat.zero_add, c0]; exact a0, by rw [Nat.zero_add, c1]; exact a1⟩
set_option maxRecDepth 100000 in
set_option maxHeartbeats 2000000 in
theorem all1nI_in {α : Type} (F : Fence) (n : Nat) (h7 : F.fn 121) (hro : F.round = none) (l tb g : Nat) (J : List α → World → Prop) (W : World)
 (kb : W.cell? ⟨tb, 0, none⟩ = some (.pointer (some ⟨g, 0, none⟩))) (kg : W.cell? ⟨g, 1, none⟩ = some (.slice none 0 0)) (h0 : J [] W) :
 CallsIn F n Tryz.prog 121 #[.func (.yield l) #[] #[], .pointer (some ⟨tb, 0, none⟩)] W fun e W' => (∃ v, e = .returned v) ∧ J [] W' := by
 refine callsIn_of_wp Tryz.func121 rfl h7 ?_ hro
 simp only [Tryz.ntmps121, List.size_toArray, List.length_cons, List.length_nil, Nat.reduceAdd, Nat.reduceSub, Array.replicate_succ, Array.replicate_zero, List.push_toArray, List.append_toArray, List.nil_append, List.cons_append]
 gi_wp2
 gi_loopw [10] (fun i wr => i = .int .i64 0 ∧ J [] wr) (fun _ _ => 0)
 case atStart => exact ⟨rfl, h0⟩
 case round =>
  obtain ⟨rfl, hJs⟩ := hrel
  gi_wp2
  go_end0
  exact ⟨⟨_, rfl⟩, hJs⟩
set_option maxRecDepth 100000 in
set_option maxHeartbeats 2000000 in
theorem allI_in (F : Fence) (n : Nat) (h6 : F.fn 82) (hro : F.round = none) (p : Option Addr) (w : World) :
 CallsIn F n Tryz.prog 82 #[.pointer p] w fun e w' => e = .returned (.func (.func 121) #[] #[.pointer (some ⟨w.heap.size, 0, none⟩)]) ∧ w' = w.alloc (.cells #[.pointer p] 142) := by
 refine callsIn_of_wp Tryz.func82 rfl h6 ?_ hro
 simp only [Tryz.ntmps82, List.size_toArray, List.length_cons, List.length_nil, Nat.reduceAdd, Nat.reduceSub, Array.replicate_succ, Array.replicate_zero, List.push_toArray, List.append_toArray, List.nil_append, List.cons_append]
 gi_wp2
 go_ret
 exact ⟨rfl, rfl⟩
theorem allStopsI {α : Type} (kf : α → Int) (vf : α → Addr) (F : Fence) (n : Nat) (h7 : F.fn 121) (hro : F.round = none) (hn : 1 ≤ n) (tb g n₀ : Nat) (sv : Value) (zs : List α) (hl : zs.length ≤ 1000000) (w : World) (htb : tb < w.heap.size) (hg : g < n₀) (hn₀ : n₀ ≤ w.heap.size)
 (kb : w.cell? ⟨tb, 0, none⟩ = some (.pointer (some ⟨g, 0, none⟩))) (kg : w.cell? ⟨g, 1, none⟩ = some sv) (hR : RwsI kf vf n₀ w sv zs) :
 SeqStopsK F n Tryz.prog 121 #[.pointer (some ⟨tb, 0, none⟩)] (fun x : α => #[(Value.int .i64 (kf x)), (Value.pointer (some (vf x)))]) (Below n₀) (fun ys => ys = zs) (fun pre => pre <+: zs) zs.length w := fun l J Jx W hW hJ _ hY h0 => by
 have kb' := (hW.cell (p := ⟨tb, 0, none⟩) htb).trans kb
 have kg' := (hW.cell (p := ⟨g, 1, none⟩) (Nat.lt_of_lt_of_le hg hn₀)).trans kg
 rcases hR.below (hW.mono hn₀) with ⟨rfl, rfl⟩ | ⟨b, off, cap, rfl, hb, hcp, hcs⟩
 · exact (all1nI_in F n h7 hro l tb g J W kb' kg' h0).mono fun e W' ⟨he, hj⟩ => ⟨he, .inl ⟨_, rfl, hj⟩⟩
 · exact all1I_in kf vf F n h7 hro hn l tb g n₀ b off cap (.pointer none) zs hl hcp hb J Jx (fun s W1 W2 hs hgr => hJ s W1 W2 none hs hgr (fun r e => by cases e)) hY W kb' kg' hcs (Nat.le_trans hn₀ hW.size) h0
end Go.Proofs.YtdcbhohlglncnaaGreat
/- laws.toSet, toSetS, toZone by their contracts. -/
namespace Go.Proofs.YtdcbhohlglncnaaGreat
open Go.RowKit
set_option linter.unusedVariables false
/-- A variable of four cells, its last one set, and copied into another. -/
theorem four_facts {w1 : World} {g1 g2 : Nat} {T : TypeId} (hne : g1 ≠ g2) {x0 x1 x2 x3 y0 y1 y2 y3 : Value} (u : Value) (k1 : Blk w1 g1 #[x0, x1, x2, x3] T) (k2 : Blk w1 g2 #[y0, y1, y2, y3] T) :
 (w1.cell? ⟨g2, 3, none⟩ = some y3 ∧ w1.frozen? ⟨g2, 3, none⟩ = false) ∧
 ((w1.setCell ⟨g2, 3, none⟩ u).cell? ⟨g2, 0, none⟩ = some y0 ∧ (w1.setCell ⟨g2, 3, none⟩ u).cell? ⟨g2, 1, none⟩ = some y1 ∧ (w1.setCell ⟨g2, 3, none⟩ u).cell? ⟨g2, 2, none⟩ = some y2 ∧ (w1.setCell ⟨g2, 3, none⟩ u).cell? ⟨g2, 3, none⟩ = some u) ∧
 ((w1.setCell ⟨g2, 3, none⟩ u).cell? ⟨g1, 0, none⟩ = some x0 ∧ (w1.setCell ⟨g2, 3, none⟩ u).cell? ⟨g1, 1, none⟩ = some x1 ∧ (w1.setCell ⟨g2, 3, none⟩ u).cell? ⟨g1, 2, none⟩ = some x2 ∧ (w1.setCell ⟨g2, 3, none⟩ u).cell? ⟨g1, 3, none⟩ = some x3) ∧
 (∀ i, (w1.setCell ⟨g2, 3, none⟩ u).frozen? ⟨g1, i, none⟩ = false) ∧
 Blk (((((w1.setCell ⟨g2, 3, none⟩ u).setCell ⟨g1, 0, none⟩ y0).setCell ⟨g1, 1, none⟩ y1).setCell ⟨g1, 2, none⟩ y2).setCell ⟨g1, 3, none⟩ u) g1 #[y0, y1, y2, u] T := by
 have a2 := blk_set k2 3 u
 have a1 : Blk (w1.setCell ⟨g2, 3, none⟩ u) g1 #[x0, x1, x2, x3] T := blk_far k1 hne
 exact ⟨⟨(blk_cell k2 3).trans rfl, blk_frozen k2 3⟩, ⟨(blk_cell a2 0).trans rfl, (blk_cell a2 1).trans rfl, (blk_cell a2 2).trans rfl, (blk_cell a2 3).trans rfl⟩, ⟨(blk_cell a1 0).trans rfl, (blk_cell a1 1).trans rfl, (blk_cell a1 2).trans rfl, (blk_cell a1 3).trans rfl⟩, blk_frozen a1, blk_set (blk_set (blk_set (blk_set a1 0 y0) 1 y1) 2 y2) 3 u⟩
set_option maxRecDepth 100000 in
set_option maxHeartbeats 1600000 in
theorem toSet_any (s : Sz) (dv : Value) (w : World) (h : Nm.SRow w dv s.da) (hl : s.da.length ≤ 1048576) :
 Calls Tryz.prog 46 #[.agg #[.string s.own, .int .i64 s.ty, .int .i64 s.tt, dv]] w fun e w' => ∃ u, e = .returned (.agg #[.string s.own, .int .i64 s.ty, .int .i64 s.tt, u]) ∧ w'.ownsRow w.heap.size 9 1 u s.da.length (s.da.map Value.string) ∧ Below w.heap.size w w' := by
 obtain ⟨o, ty, tt, da⟩ := s
 simp only at *
 have hB := (((Below.refl w.heap.size w).alloc (Nat.le_refl _) (.cells #[.string o, .int .i64 ty, .int .i64 tt, dv] 82)).alloc (by simp) (.cells #[.string ⟨#[]⟩, .int .i64 0, .int .i64 0, .slice none 0 0] 87)).alloc (by simp; omega) (.cells #[.string o, .int .i64 ty, .int .i64 tt, .slice none 0 0] 87)
 have hone := toStringS_any dv da _ (h.below hB) hl
 have hz1 : (w.alloc (.cells #[.string o, .int .i64 ty, .int .i64 tt, dv] 82)).heap.size = w.heap.size + 1 := by simp
 have hz2 : ((w.alloc (.cells #[.string o, .int .i64 ty, .int .i64 tt, dv] 82)).alloc (.cells #[.string ⟨#[]⟩, .int .i64 0, .int .i64 0, .slice none 0 0] 87)).heap.size = w.heap.size + 1 + 1 := by simp
 have hb1 := blk_alloc (blk_new (w.alloc (.cells #[.string o, .int .i64 ty, .int .i64 tt, dv] 82)) #[.string ⟨#[]⟩, .int .i64 0, .int .i64 0, .slice none 0 0] 87) (.cells #[.string o, .int .i64 ty, .int .i64 tt, .slice none 0 0] 87)
 have hb2 := blk_new ((w.alloc (.cells #[.string o, .int .i64 ty, .int .i64 tt, dv] 82)).alloc (.cells #[.string ⟨#[]⟩, .int .i64 0, .int .i64 0, .slice none 0 0] 87)) #[.string o, .int .i64 ty, .int .i64 tt, .slice none 0 0] 87
 rw [hz1] at hb1
 rw [hz2] at hb2
 clear hz1 hz2
 obtain ⟨a, cap, rfl, _⟩ := h
 go_enter Tryz.func46, Tryz.ntmps46
 go_wp2_with (go_at_call 75; refine hone.mono ?_; rintro e w1 ⟨u, rfl, hown, hbel⟩; obtain ⟨ua, uc, rfl⟩ := own_sl hown; have k1 := blk_below hb1 hbel; have k2 := blk_below hb2 hbel; obtain ⟨⟨p0, p1⟩, ⟨q0, q1, q2, q3⟩, ⟨r0, r1, r2, r3⟩, rf, kz⟩ := four_facts (by omega) (.slice ua da.length uc) k1 k2; clear hone)
 have e0 := (blk_cell kz 0).trans rfl
 have e1 := (blk_cell kz 1).trans rfl
 have e2 := (blk_cell kz 2).trans rfl
 have e3 := (blk_cell kz 3).trans rfl
 refine bodyPost_ret (v := .agg #[.string o, .int .i64 ty, .int .i64 tt, .slice ua da.length uc]) ?_ rfl ?_
 · simp [results, Tryz.results46, go_sem, Result.andThen, e0, e1, e2, e3]
 · simp only [World.alloc, Array.size_push] at hown
   refine ⟨_, rfl, own_base (own_far_lt (own_far_lt (own_far_lt (own_far_lt (own_far_lt hown (by omega)) (by omega)) (by omega)) (by omega)) (by omega)) (by omega), ?_⟩
   exact (((((Nm.below_two hB hbel).setCell (by simp; omega) _).setCell (by simp) _).setCell (by simp) _).setCell (by simp) _).setCell (by simp) _
/-- Sets in memory of one's own. -/
def OZ (w : World) (B : Nat) (v : Value) (qs : List Zp) : Prop := w.ownsRow B 87 4 v qs.length (zpVs qs) ∧ ∀ q ∈ qs, w.ownsRow B 9 1 q.2 q.1.da.length (q.1.da.map Value.string)
theorem OZ.read {w : World} {B : Nat} {v : Value} {qs : List Zp} (h : OZ w B v qs) : ZRow w v qs := ⟨CRow.of_owns h.1, fun q hq => Nm.SRow.of_owns (h.2 q hq)⟩
theorem OZ.below {w W : World} {B : Nat} {v : Value} {qs : List Zp} (h : OZ w B v qs) (hb : Below w.heap.size w W) : OZ W B v qs := ⟨own_below h.1 hb, fun q hq => own_below (h.2 q hq) hb⟩
theorem OZ.base {w : World} {B B' : Nat} {v : Value} {qs : List Zp} (h : OZ w B v qs) (hb : B' ≤ B) : OZ w B' v qs := ⟨own_base h.1 hb, fun q hq => own_base (h.2 q hq) hb⟩
theorem set4 {cs : List Value} {k : Nat} {A : List Value} (a b c d : Value) (hl : k * 4 + 4 ≤ cs.length) (h : cs.take (k * 4) = A) :
 ((((cs.set (k * 4) a).set (k * 4 + 1) b).set (k * 4 + 2) c).set (k * 4 + 3) d).take ((k + 1) * 4) = A ++ [a, b, c, d] := by
 have hs : cs = cs.take (k * 4) ++ cs.drop (k * 4) := (List.take_append_drop _ _).symm
 have hdl : 4 ≤ (cs.drop (k * 4)).length := by simp; omega
 have hpl : (cs.take (k * 4)).length = k * 4 := by simp; omega
 rw [h] at hs hpl
 obtain ⟨q, hq⟩ : ∃ q, q = cs.drop (k * 4) := ⟨_, rfl⟩
 rw [← hq] at hs hdl
 match q, hdl with
 | y0 :: y1 :: y2 :: y3 :: r, _ =>
   rw [hs]
   simp only [List.set_append, hpl, Nat.lt_irrefl, if_false, Nat.sub_self, show ¬ (k * 4 + 1 < k * 4) by omega, show ¬ (k * 4 + 2 < k * 4) by omega, show ¬ (k * 4 + 3 < k * 4) by omega, Nat.add_sub_cancel_left]
   simp only [List.set_cons_zero, List.set_cons_succ]
   rw [List.take_append, hpl, show (k + 1) * 4 - k * 4 = 4 by omega, List.take_of_length_le (by omega)]
   rfl
theorem Tryz.infoSet : (Tryz.prog.info? 87).map (fun i => (i.zero, i.size, i.bytes)) = some (some (.agg #[.string ByteArray.empty, .int .i64 0, .int .i64 0, .slice none 0 0]), 4, 56) := by kernel_rfl
theorem four_at {w : World} {B e g n cap k : Nat} {cs : List Value} (h : w.ownsRow B e 4 (.slice (some ⟨g, 0, none⟩) n cap) n cs) (hk : k < n) (j : Nat) (hj : j < 4) : ∃ y, w.cell? ⟨g, k * 4 + j, none⟩ = some y := by
 rw [h.cellAt (k * 4 + j) (by omega)]
 have := h.1
 exact ⟨_, List.getElem?_eq_getElem (by omega)⟩
set_option maxRecDepth 100000 in
set_option maxHeartbeats 1600000 in
theorem toSetS_any (v : Value) (ps : List Zp) (w : World) (h : ZRow w v ps) (hlen : ps.length ≤ 1048576) (hd : ∀ p ∈ ps, p.1.da.length ≤ 1048576) :
 Calls Tryz.prog 26 #[v] w fun e w' => ∃ u qs, e = .returned u ∧ qs.map (·.1) = ps.map (·.1) ∧ OZ w' w.heap.size u qs ∧ Below w.heap.size w w' := by
 obtain ⟨i0, hi, hz0, hz1, hz2⟩ := info_parts Tryz.infoSet
 obtain ⟨⟨_, a, cap, rfl, hcap, hmx, hc⟩, hrow⟩ := h
 unfold maxLen at hmx
 have hto := fun (p : Zp) (hp : p ∈ ps) W (hW : Below w.heap.size w W) => toSet_any p.1 p.2 W ((hrow p hp).below hW) (hd p hp)
 clear hrow hd
 go_enter Tryz.func26, Tryz.ntmps26
 go_wp2_with (at_make; refine wpList_make_full _ rfl (.tmp 6) (.tmp 6) 26 rfl w.heap.size 87 i0 _ 4 Tryz.underlying26 hi hz0 hz1 .i64 .i64 _ _ ps.length rfl rfl rfl rfl (by rw [hz2]; omega) (by unfold maxLen; omega) (Nat.le_refl _) ?_; intro w2 hown0 hgrow0)
 generalize hcs0 : (madeCells (Value.agg #[.string ByteArray.empty, .int .i64 0, .int .i64 0, .slice none 0 0]).cells (ps.length * 4)).toList = cs0 at hown0
 clear hcs0
 go_loopw [4] (fun i wr => ∃ (k : Nat) (cs : List Value) (qs : List Zp), k ≤ ps.length ∧ i = .int .i64 k ∧ wr.ownsRow w.heap.size 87 4 (.slice (some ⟨w.heap.size, 0, none⟩) ps.length ps.length) ps.length cs ∧ Hid (cs.take (k * 4) = zpVs qs) ∧ Hid (qs.map (·.1) = (ps.take k).map (·.1)) ∧ Hid (∀ q ∈ qs, wr.ownsRow w.heap.size 9 1 q.2 q.1.da.length (q.1.da.map Value.string)) ∧ Below w.heap.size w wr)
  (fun i _ => ps.length - (intOf i).toNat)
 case atStart => exact ⟨0, cs0, [], Nat.zero_le _, rfl, hown0, by show _ = _; simp [zpVs], by show _ = _; simp, by intro q hq; simp at hq, (Below.refl _ w).grown hgrow0 (Nat.le_refl _) (fun k hk => by cases hk)⟩
 case round =>
  obtain ⟨k, cs, qs, hk, rfl, hown, HT, HQ, HO, hbel⟩ := hrel
  clear hown0 hgrow0
  by_cases hlt : k < ps.length
  · obtain ⟨x, hx⟩ : ∃ x, ps[k]? = some x := ⟨_, List.getElem?_eq_getElem hlt⟩
    obtain ⟨b, off, rfl, hcell⟩ := hc (by omega)
    obtain ⟨c0, c1, c2, c3⟩ := zp_cells hcell hx
    have put : ∀ {O : Nat} {z : Value}, w.cell? ⟨b, O, none⟩ = some z → wr.cell? ⟨b, O, none⟩ = some z := fun h => (hbel.cell (World.block_lt_of_cell? w _ h)).trans h
    replace c0 := put c0
    replace c1 := put c1
    replace c2 := put c2
    replace c3 := put c3
    have i1 : (0 : Int) ≤ (k : Int) := by omega
    have i2 : (k : Int) < (ps.length : Int) := by omega
    have hone := hto x (List.mem_of_getElem? hx) wr hbel
    have HQ2 : Hid (∀ u : Value, (qs ++ [(x.1, u)]).map (·.1) = (ps.take (k + 1)).map (·.1)) := by
     intro u
     rw [List.map_append, HQ.out, List.take_add_one, hx, List.map_append]; rfl
    have HT2 := fun u => set4 (.string x.1.own) (.int .i64 x.1.ty) (.int .i64 x.1.tt) u (by have := hown.1; omega) HT.out
    have HT3 : Hid (∀ u : Value, ((((cs.set (k * 4) (.string x.1.own)).set (k * 4 + 1) (.int .i64 x.1.ty)).set (k * 4 + 2) (.int .i64 x.1.tt)).set (k * 4 + 3) u).take ((k + 1) * 4) = zpVs (qs ++ [(x.1, u)])) := by
     intro u
     rw [HT2, zpVs_app]; rfl
    clear hcell hc HT HT2 HQ hto hx
    obtain ⟨⟨o, ty, tt, da⟩, dv⟩ := x
    simp only at c0 c1 c2 c3 hone HQ2 HT3
    go_wp2_with (go_at_call 46; refine hone.mono ?_; rintro e w1 ⟨u, rfl, hu, hb1⟩; obtain ⟨ua, uc, rfl⟩ := own_sl hu; have ho1 := own_below hown hb1; obtain ⟨y0, hy0⟩ := four_at ho1 hlt 0 (by decide); obtain ⟨y1, hy1⟩ := four_at ho1 hlt 1 (by decide); obtain ⟨y2, hy2⟩ := four_at ho1 hlt 2 (by decide); obtain ⟨y3, hy3⟩ := four_at ho1 hlt 3 (by decide); rw [Nat.add_zero] at hy0; have fz := ho1.frozenAt; clear hone)
    go_roundw
    case rel =>
     refine ⟨k + 1, _, qs ++ [(⟨o, ty, tt, da⟩, .slice ua da.length uc)], by omega, by go_num, ((((ho1.stored (k * 4) _).1.stored (k * 4 + 1) _).1.stored (k * 4 + 2) _).1.stored (k * 4 + 3) _).1, Nm.hide (HT3.out _), Nm.hide (HQ2.out _), ?_, ((((Nm.below_two hbel hb1).setCell (Nat.le_refl _) _).setCell (Nat.le_refl _) _).setCell (Nat.le_refl _) _).setCell (Nat.le_refl _) _⟩
     intro q hq
     have hq1 : w1.ownsRow w.heap.size 9 1 q.2 q.1.da.length (q.1.da.map Value.string) := by
      rcases List.mem_append.1 hq with h1 | h1
      · exact own_below (HO.out q h1) hb1
      · simp only [List.mem_singleton] at h1
        subst h1
        exact own_base hu hbel.size
     have hne := own_ne hq1 ho1 (by decide)
     exact own_far (own_far (own_far (own_far hq1 hne) hne) hne) hne
    case measure => simp [intOf]; omega
  · have hkl : k = ps.length := by omega
    have hcs : cs = zpVs qs := by
     have e := HT.out
     have hl := hown.1
     rw [hkl, List.take_of_length_le (by omega)] at e
     exact e
    have hqs : qs.map (·.1) = ps.map (·.1) := by
     have := HQ.out
     rwa [hkl, List.take_length] at this
    have hql : qs.length = ps.length := by have := congrArg List.length hqs; simpa using this
    subst hcs
    have i2 : (ps.length : Int) ≤ (k : Int) := by omega
    clear hc hlt HT hto HQ
    go_wp2
    go_ret
    refine ⟨_, rfl, qs, hqs, ⟨?_, HO.out⟩, hbel⟩
    rw [hql]; exact hown
theorem two_facts {w1 : World} {g1 g2 : Nat} {T : TypeId} (hne : g1 ≠ g2) {x0 x1 y0 y1 : Value} (u : Value) (k1 : Blk w1 g1 #[x0, x1] T) (k2 : Blk w1 g2 #[y0, y1] T) :
 (w1.cell? ⟨g2, 1, none⟩ = some y1 ∧ w1.frozen? ⟨g2, 1, none⟩ = false) ∧
 ((w1.setCell ⟨g2, 1, none⟩ u).cell? ⟨g2, 0, none⟩ = some y0 ∧ (w1.setCell ⟨g2, 1, none⟩ u).cell? ⟨g2, 1, none⟩ = some u) ∧
 ((w1.setCell ⟨g2, 1, none⟩ u).cell? ⟨g1, 0, none⟩ = some x0 ∧ (w1.setCell ⟨g2, 1, none⟩ u).cell? ⟨g1, 1, none⟩ = some x1) ∧
 (∀ i, (w1.setCell ⟨g2, 1, none⟩ u).frozen? ⟨g1, i, none⟩ = false) ∧
 Blk (((w1.setCell ⟨g2, 1, none⟩ u).setCell ⟨g1, 0, none⟩ y0).setCell ⟨g1, 1, none⟩ u) g1 #[y0, u] T := by
 have a2 := blk_set k2 1 u
 have a1 : Blk (w1.setCell ⟨g2, 1, none⟩ u) g1 #[x0, x1] T := blk_far k1 hne
 exact ⟨⟨(blk_cell k2 1).trans rfl, blk_frozen k2 1⟩, ⟨(blk_cell a2 0).trans rfl, (blk_cell a2 1).trans rfl⟩, ⟨(blk_cell a1 0).trans rfl, (blk_cell a1 1).trans rfl⟩, blk_frozen a1, blk_set (blk_set a1 0 y0) 1 u⟩
set_option maxRecDepth 100000 in
set_option maxHeartbeats 1600000 in
theorem toZone_any (o : ByteArray) (v : Value) (ps : List Zp) (w : World) (h : ZRow w v ps) (hlen : ps.length ≤ 1048576) (hd : ∀ p ∈ ps, p.1.da.length ≤ 1048576) :
 Calls Tryz.prog 7 #[.agg #[.string o, v]] w fun e w' => ∃ u qs, e = .returned (.agg #[.string o, u]) ∧ qs.map (·.1) = ps.map (·.1) ∧ OZ w' w.heap.size u qs ∧ Below w.heap.size w w' := by
 have hB := (((Below.refl w.heap.size w).alloc (Nat.le_refl _) (.cells #[.string o, v] 24)).alloc (by simp) (.cells #[.string ⟨#[]⟩, .slice none 0 0] 28)).alloc (by simp; omega) (.cells #[.string o, .slice none 0 0] 28)
 have hone := toSetS_any v ps _ (h.below hB) hlen hd
 have hz1 : (w.alloc (.cells #[.string o, v] 24)).heap.size = w.heap.size + 1 := by simp
 have hz2 : ((w.alloc (.cells #[.string o, v] 24)).alloc (.cells #[.string ⟨#[]⟩, .slice none 0 0] 28)).heap.size = w.heap.size + 1 + 1 := by simp
 have hb1 := blk_alloc (blk_new (w.alloc (.cells #[.string o, v] 24)) #[.string ⟨#[]⟩, .slice none 0 0] 28) (.cells #[.string o, .slice none 0 0] 28)
 have hb2 := blk_new ((w.alloc (.cells #[.string o, v] 24)).alloc (.cells #[.string ⟨#[]⟩, .slice none 0 0] 28)) #[.string o, .slice none 0 0] 28
 rw [hz1] at hb1
 rw [hz2] at hb2
 clear hz1 hz2 hd
 obtain ⟨⟨_, a, cap, rfl, _⟩, _⟩ := h
 go_enter Tryz.func7, Tryz.ntmps7
 go_wp2_with (go_at_call 26; refine hone.mono ?_; rintro e w1 ⟨u, qs, rfl, hqs, hoz, hbel⟩; obtain ⟨ua, uc, rfl⟩ := own_sl hoz.1; have k1 := blk_below hb1 hbel; have k2 := blk_below hb2 hbel; obtain ⟨⟨p0, p1⟩, ⟨q0, q1⟩, ⟨r0, r1⟩, rf, kz⟩ := two_facts (by omega) (.slice ua qs.length uc) k1 k2; clear hone)
 have e0 := (blk_cell kz 0).trans rfl
 have e1 := (blk_cell kz 1).trans rfl
 refine bodyPost_ret (v := .agg #[.string o, .slice ua qs.length uc]) ?_ rfl ?_
 · simp [results, Tryz.results7, go_sem, Result.andThen, e0, e1]
 · have hsz : (((w.alloc (.cells #[.string o, .slice a ps.length cap] 24)).alloc (.cells #[.string ⟨#[]⟩, .slice none 0 0] 28)).alloc (.cells #[.string o, .slice none 0 0] 28)).heap.size = w.heap.size + 3 := by simp
   rw [hsz] at hoz
   refine ⟨_, qs, rfl, hqs, ⟨?_, fun q hq => ?_⟩, ?_⟩
   · exact own_base (own_far_lt (own_far_lt (own_far_lt hoz.1 (by omega)) (by omega)) (by omega)) (by omega)
   · exact own_base (own_far_lt (own_far_lt (own_far_lt (hoz.2 q hq) (by omega)) (by omega)) (by omega)) (by omega)
   · exact (((Nm.below_two hB hbel).setCell (by simp; omega) _).setCell (by simp) _).setCell (by simp) _
theorem own_besideZ {W W1 : World} {B e s m : Nat} {v : Value} {b : Option Nat} {xs : List Value} (h : W.ownsRow B e s v m xs) (hg : W.grownBy W1 b) (ha : ∀ g, b = some g → v.ownBlock ≠ some g) : W1.ownsRow B e s v m xs := by
 refine h.kept hg ?_
 cases b with
 | none =>
   cases hv : v.ownBlock with
   | none => exact .inl rfl
   | some k => right; simp
 | some k => right; exact ha k rfl
theorem own_kindsZ {W : World} {B e s m B' e' s' m' : Nat} {v u : Value} {xs ys : List Value} (h : W.ownsRow B e s v m xs) (h' : W.ownsRow B' e' s' u m' ys) (hne : e ≠ e') : ∀ g, u.ownBlock = some g → v.ownBlock ≠ some g := by
 intro g hu hv
 rcases h'.2 with ⟨rfl, _⟩ | ⟨g', cap', cur', rfl, _, hh', _⟩
 · cases hu
 · rcases h.2 with ⟨rfl, _⟩ | ⟨g2, cap2, cur2, rfl, _, hh, _⟩
   · cases hv
   · simp only [Value.ownBlock, Option.some.injEq] at hu hv
     subst hu
     subst hv
     rw [hh] at hh'
     simp only [Option.some.injEq, Obj.cells.injEq] at hh'
     exact hne hh'.2.1
/-- Sets of one's own: the row, each set's data, no two in one block. -/
structure ZOwn (w : World) (B : Nat) (v : Value) (ps : List Zp) : Prop where
 outer : w.ownsRow B 87 4 v ps.length (zpVs ps)
 inner : ∀ (i : Nat) (p : Zp), ps[i]? = some p → w.ownsRow B 9 1 p.2 p.1.da.length (p.1.da.map Value.string)
 apart : ∀ (i j : Nat) (p q : Zp), ps[i]? = some p → ps[j]? = some q → i ≠ j → ∀ g, p.2.ownBlock = some g → q.2.ownBlock ≠ some g
theorem ZOwn.nil (w : World) (B : Nat) : ZOwn w B (.slice none 0 0) [] := ⟨World.ownsRow_nil _ _ _ _, by simp, by simp⟩
theorem ZOwn.below {w w' : World} {B : Nat} {v : Value} {ps : List Zp} (h : ZOwn w B v ps) (hb : Below w.heap.size w w') : ZOwn w' B v ps :=
 ⟨own_below h.outer hb, fun i p hp => own_below (h.inner i p hp) hb, h.apart⟩
theorem ZOwn.base {w : World} {B B' : Nat} {v : Value} {ps : List Zp} (h : ZOwn w B v ps) (hb : B' ≤ B) : ZOwn w B' v ps :=
 ⟨own_base h.outer hb, fun i p hp => own_base (h.inner i p hp) hb, h.apart⟩
/-- What is written is none of its blocks. -/
theorem ZOwn.beside {w w' : World} {B : Nat} {v : Value} {ps : List Zp} {b : Option Nat} (h : ZOwn w B v ps) (hg : w.grownBy w' b) (hv : ∀ g, b = some g → v.ownBlock ≠ some g) (hi : ∀ g, b = some g → ∀ p ∈ ps, p.2.ownBlock ≠ some g) : ZOwn w' B v ps :=
 ⟨own_besideZ h.outer hg hv, fun i p hp => own_besideZ (h.inner i p hp) hg (fun g e => hi g e p (List.mem_of_getElem? hp)), h.apart⟩
theorem ZOwn.far {w : World} {B g i : Nat} {v y : Value} {ps : List Zp} (h : ZOwn w B v ps) (hg : g < B) : ZOwn (w.setCell ⟨g, i, none⟩ y) B v ps :=
 ⟨own_far_lt h.outer hg, fun i p hp => own_far_lt (h.inner i p hp) hg, h.apart⟩
theorem snoc_cases {α : Type} {xs : List α} {y x : α} {i : Nat} (hx : (xs ++ [y])[i]? = some x) : (i < xs.length ∧ xs[i]? = some x) ∨ (i = xs.length ∧ x = y) := by
 by_cases hi : i < xs.length
 · rw [List.getElem?_append_left hi] at hx
   exact .inl ⟨hi, hx⟩
 · rw [List.getElem?_append_right (by omega)] at hx
   have h0 : i - xs.length = 0 := by
    rcases Nat.eq_zero_or_pos (i - xs.length) with h | h
    · exact h
    · rw [List.getElem?_eq_none (by simp; omega)] at hx
      cases hx
   rw [h0] at hx
   simp at hx
   exact .inr ⟨by omega, hx.symm⟩
/-- A set is put behind them; its data lie in a block that none of them has. -/
theorem ZOwn.snoc {w w2 : World} {B : Nat} {v v' u : Value} {s : Sz} {ps : List Zp} (h : ZOwn w B v ps)
 (hu : w.ownsRow B 9 1 u s.da.length (s.da.map Value.string)) (ha : ∀ p ∈ ps, ∀ g, p.2.ownBlock = some g → u.ownBlock ≠ some g)
 (ho : w2.ownsRow B 87 4 v' (ps.length + 1) (zpVs ps ++ zpV (s, u))) (hg : w.grownBy w2 v.ownBlock) : ZOwn w2 B v' (ps ++ [(s, u)]) := by
 have e : zpVs (ps ++ [(s, u)]) = zpVs ps ++ zpV (s, u) := by simp [zpVs]
 refine ⟨by rw [e]; simpa using ho, fun i p hp => ?_, fun i j p q hp hq hne g hg1 => ?_⟩
 · rcases snoc_cases hp with ⟨_, hp'⟩ | ⟨_, rfl⟩
   · have := h.inner i p hp'
     exact own_besideZ this hg (own_kindsZ this h.outer (by decide))
   · exact own_besideZ hu hg (own_kindsZ hu h.outer (by decide))
 · rcases snoc_cases hp with ⟨hi, hp'⟩ | ⟨hi, rfl⟩ <;> rcases snoc_cases hq with ⟨hj, hq'⟩ | ⟨hj, rfl⟩
   · exact h.apart i j p q hp' hq' hne g hg1
   · exact ha p (List.mem_of_getElem? hp') g hg1
   · intro e
     exact ha q (List.mem_of_getElem? hq') g e hg1
   · omega
/-- The last set's data grow by one, and its cell is written. -/
theorem ZOwn.more {w w1 : World} {B g cap : Nat} {u u' : Value} {s : Sz} {d : ByteArray} {ps : List Zp} (h : ZOwn w B (.slice (some ⟨g, 0, none⟩) (ps.length + 1) cap) (ps ++ [(s, u)]))
 (ho : w1.ownsRow B 9 1 u' (s.da.length + 1) (s.da.map Value.string ++ [.string d])) (hg : w.grownBy w1 u.ownBlock) (hat : u'.ownBlock = u.ownBlock ∨ ∀ g, u'.ownBlock = some g → w.heap.size ≤ g) :
 ZOwn (w1.setCell ⟨g, ps.length * 4 + 3, none⟩ u') B (.slice (some ⟨g, 0, none⟩) (ps.length + 1) cap) (ps ++ [({ s with da := s.da ++ [d] }, u')]) := by
 have hlast : (ps ++ [(s, u)])[ps.length]? = some (s, u) := by simp
 have hiL := h.inner _ _ hlast
 have o1 : w1.ownsRow B 87 4 (.slice (some ⟨g, 0, none⟩) (ps.length + 1) cap) (ps.length + 1) (zpVs (ps ++ [(s, u)])) := by
  have := h.outer
  rw [List.length_append] at this
  exact own_besideZ this hg (own_kindsZ this hiL (by decide))
 have hlt : ∀ (i : Nat) (p : Zp), ps[i]? = some p → (ps ++ [(s, u)])[i]? = some p := fun i p hp => by rw [List.getElem?_append_left (List.getElem?_eq_some_iff.1 hp).1]; exact hp
 have hin : ∀ (i : Nat) (p : Zp), ps[i]? = some p → w1.ownsRow B 9 1 p.2 p.1.da.length (p.1.da.map Value.string) := by
  intro i p hp
  have hpl := (List.getElem?_eq_some_iff.1 hp).1
  exact own_besideZ (h.inner i p (hlt i p hp)) hg (fun g' e e' => h.apart i ps.length p (s, u) (hlt i p hp) hlast (by omega) g' e' e)
 have hapL : ∀ (i : Nat) (p : Zp), ps[i]? = some p → ∀ g, p.2.ownBlock = some g → u'.ownBlock ≠ some g := by
  intro i p hp g' e e'
  have hpl := (List.getElem?_eq_some_iff.1 hp).1
  rcases hat with h1 | h1
  · rw [h1] at e'
    exact h.apart i ps.length p (s, u) (hlt i p hp) hlast (by omega) g' e e'
  · have h2 := h1 g' e'
    have h3 := ((h.inner i p (hlt i p hp)).lt g' e).2
    omega
 have e1 : (zpVs (ps ++ [(s, u)])).set (ps.length * 4 + 3) u' = zpVs (ps ++ [({ s with da := s.da ++ [d] }, u')]) := by
  rw [zpVs_app, zpVs_app, List.set_append_right _ _ (by rw [zpVs_len]; omega), zpVs_len, show ps.length * 4 + 3 - ps.length * 4 = 3 by omega]
  rfl
 have hst := o1.stored (ps.length * 4 + 3) u'
 rw [e1] at hst
 have far : ∀ {v : Value} {n : Nat} {xs : List Value}, w1.ownsRow B 9 1 v n xs → (w1.setCell ⟨g, ps.length * 4 + 3, none⟩ u').ownsRow B 9 1 v n xs := fun hx => own_far hx (own_kindsZ hx o1 (by decide) g rfl)
 refine ⟨by simpa using hst.1, fun i p hp => ?_, fun i j p q hp hq hne g' hg1 => ?_⟩
 · rcases snoc_cases hp with ⟨_, hp'⟩ | ⟨_, rfl⟩
   · exact far (hin i p hp')
   · have := far ho
     simpa using this
 · rcases snoc_cases hp with ⟨hi, hp'⟩ | ⟨hi, rfl⟩ <;> rcases snoc_cases hq with ⟨hj, hq'⟩ | ⟨hj, rfl⟩
   · exact h.apart i j p q (hlt i p hp') (hlt j q hq') hne g' hg1
   · exact hapL i p hp' g' hg1
   · intro e
     exact hapL j q hq' g' e hg1
   · omega
end Go.Proofs.YtdcbhohlglncnaaGreat
