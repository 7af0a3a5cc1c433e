import Derived.Test.YtakonfkefoeenahSRd
import Derived.Test.YtakonfkefoeenahRd11
import Derived.Test.YtakonfkefoeenahStpA
import Derived.Deep.RegionHeld3
import Derived.Deep.RegionLaw
/- Steps of a drawn region: append onto a row of one's own, a call that leaves the world; the variables of the model's reading. -/
namespace Go.Proofs.Ytakonfkefoeenah
open Go.RowKit
set_option linter.unusedVariables false

theorem sst_new {w w1 : World} (hm : Blk w1 w.heap.size ms0 28) (hbe : Below w.heap.size w w1) (hd ct ms : Array Value) :
    SSt w (((w1.alloc (.cells hd 24)).alloc (.cells ct 49)).alloc (.cells ms 28)) w1.heap.size hd ct ms := by
  have e1 : (w1.alloc (.cells hd 24)).heap.size = w1.heap.size + 1 := by simp
  have e2 : ((w1.alloc (.cells hd 24)).alloc (.cells ct 49)).heap.size = w1.heap.size + 1 + 1 := by simp
  have hC := blk_alloc (blk_new (w1.alloc (.cells hd 24)) ct 49) (.cells ms 28)
  have hM := blk_new ((w1.alloc (.cells hd 24)).alloc (.cells ct 49)) ms 28
  rw [e1] at hC
  rw [e2] at hM
  have hb : Below w1.heap.size w1 (((w1.alloc (.cells hd 24)).alloc (.cells ct 49)).alloc (.cells ms 28)) := (((Below.refl _ _).alloc (Nat.le_refl _) _).alloc (by simp) _).alloc (by simp; omega) _
  exact ⟨blk_below hm hb, blk_alloc (blk_alloc (blk_new w1 hd _) _) _, hC, hM, hbe.trans (hb.mono hbe.size), blk_lt hm⟩

theorem step_call1 {P : Program} {ops : Array Oper} {o : Oper} {a : Act} {w : World} {K : Act → World → Prop} {Q : Exit → Act → World → Prop} {E : Prop} (F : FuncId) (x : Nat) (T : TypeId) (V v : Value) (hgd : o.guard = none)
    (ho : o.op = .call { callee := .value (.func F), args := #[.tmp x], argTypes := #[T] }) (hx : a.tmps.getD x undef = V) (hent : (callFunc F #[V]).run P w = .ok (.enter F #[V]) w)
    (hc : Calls P F #[V] w fun e w' => e = .returned v ∧ w' = w) (hK : K (a.put o.dst v) w) :
    if Region.wanted o (yielded ops a.tmps) = true then Oper.wp P o a w K Q else E := by
  have hw : Region.wanted o (yielded ops a.tmps) = true := by simp [Region.wanted, hgd]
  rw [if_pos hw]
  unfold Oper.wp execOp
  simp only [ho, go_sem, resolve, invoke, Sem.run_bind, Sem.run_pure, Result.andThen_ok, List.map_toArray, List.map_cons, List.map_nil]
  rw [hx]
  have e : (#[] ++ #[V] ++ #[] : Array Value) = #[V] := rfl
  rw [e, hent, Oper.upon_enter]
  refine hc.mono ?_
  rintro e w' ⟨rfl, rfl⟩
  exact hK

theorem num_enters (V : Value) (w : World) : (callFunc 25 #[V]).run Try.prog w = .ok (.enter 25 #[V]) w := by kernel_rfl

theorem cell_newD (w : World) (vs : List Value) (e : Nat) : ∀ (j : Nat) (u : Value), vs[j]? = some u → (w.alloc (.cells vs.toArray e)).drew.cell? ((⟨w.heap.size, 0, none⟩ : Addr).add j) = some u := cell_newL w vs e

theorem cut_num2 (l : List UInt8) (p n i m : Nat) (h : p + n ≤ l.length) (hi : i + m ≤ n) : ((ByteArray.mk (cutL l p n).toArray).extract i (i + m)).data.toList = cutL l (p + i) m := cut_num l p n i m h hi

end Go.Proofs.Ytakonfkefoeenah
