import Derived.Test.YtehggabhjpiclaaJMsM
import Derived.Test.YtehggabhjpiclaaWtW
import Derived.Test.YtehggabhjpiclaaIwB
import Derived.Test.YtehggabhjpiclaaMvV
import Derived.Test.YtehggabhjpiclaaMvI
/- MessageSize, the program's and the model's, by their contracts. -/
namespace Go.Proofs.Ytehggabhjpiclaa
open Go.RowKit
set_option linter.unusedVariables false

def msN (m : Mg) : Nat := if mgOK m then (msgW m).1.length else 0
def msC (m : Mg) : Nat := if mgOK m then 0 else 32
set_option maxRecDepth 100000 in
set_option maxHeartbeats 1600000 in
theorem implMessageSize_any (m : Mg) (q a u x : Value) (w : World) (h : MRow w m q a u x) (hm : MSmall m) :
    Calls Try.prog 7 #[.agg (mgV m.hd q a u x)] w fun e w' => e = .returned (.tuple #[.int .i64 (msN m : Int), .int .i64 (msC m : Int)]) ∧ Below w.heap.size w w' := by
  have kb := blk_new w (mgV m.hd q a u x) 35
  have hB0 := (Below.refl w.heap.size w).alloc (Nat.le_refl _) (.cells (mgV m.hd q a u x) 35)
  have hva := validMessage_any m q a u x _ (h.below hB0) hm
  have hmb := fun W (hb : Below w.heap.size w W) (ho : mgOK m = true) => messageBytes_any m q a u x W ⟨h.rq.below hb, h.ra.below hb, h.ru.below hb, h.rx.below hb⟩ hm ho
  have hlen := rrWs_all m
  obtain ⟨N, hN⟩ : ∃ N, msN m = N := ⟨_, rfl⟩
  obtain ⟨C, hC⟩ : ∃ C, msC m = C := ⟨_, rfl⟩
  rw [hN, hC]
  rw [msN] at hN
  rw [msC] at hC
  obtain ⟨_, qa, qc, rfl, _⟩ := h.rq
  obtain ⟨_, aa, ac, rfl, _⟩ := h.ra
  obtain ⟨_, ua, uc, rfl, _⟩ := h.ru
  obtain ⟨_, xa, xc, rfl, _⟩ := h.rx
  clear h hm
  generalize mgOK m = OK at *
  generalize msgW m = RES at *
  obtain ⟨⟨i0, b1, i2, b3, b4, b5, b6, b7, b8, b9, i10⟩, qs, an, au, ex⟩ := m
  simp only [mgV] at *
  cases OK with
  | false =>
    simp only [Bool.false_eq_true, if_false] at hN hC
    subst hN hC
    clear hmb hlen
    go_enter Try.func7, Try.ntmps7
    go_wp2_with (go_at_call 16; refine hva.mono ?_; rintro e w1 ⟨rfl, hb1⟩)
    go_ret2
    exact ⟨rfl, Nm.below_two hB0 hb1⟩
  | true =>
    simp only [if_true] at hN hC
    subst hN hC
    have hl2 := hlen rfl
    go_enter Try.func7, Try.ntmps7
    go_wp2_with first
      | (go_at_call 16; refine hva.mono ?_; rintro e w1 ⟨rfl, hb1⟩; have k1 := blk_below kb hb1; have rr := fun i => blk_cell k1 i)
      | (go_at_call 17; refine (hmb _ (Nm.below_two hB0 hb1) trivial).mono ?_; rintro e w2 ⟨v2, rfl, hown2, hb2⟩; obtain ⟨x2, y2, hv2⟩ := own_sl hown2; subst hv2)
    go_ret2
    exact ⟨rfl, Nm.below_two (Nm.below_two hB0 hb1) hb2⟩

set_option maxRecDepth 100000 in
set_option maxHeartbeats 1600000 in
theorem specMessageSize_any (m : Mg) (q a u x : Value) (w : World) (h : MRow w m q a u x) (hm : MSmall m) :
    Calls Try.prog 5 #[.agg (mgV m.hd q a u x)] w fun e w' => e = .returned (.tuple #[.int .i64 (msN m : Int), .int .i64 (msC m : Int)]) ∧ Below w.heap.size w w' := by
  have kb := blk_new w (mgV m.hd q a u x) 35
  have hB0 := (Below.refl w.heap.size w).alloc (Nat.le_refl _) (.cells (mgV m.hd q a u x) 35)
  have hva := l04Valid_any m q a u x _ (h.below hB0) hm
  have hmb := fun W (hb : Below w.heap.size w W) (ho : mgOK m = true) => l04Write_any m q a u x W ⟨h.rq.below hb, h.ra.below hb, h.ru.below hb, h.rx.below hb⟩ hm ho
  have hlen := rrWs_all m
  obtain ⟨N, hN⟩ : ∃ N, msN m = N := ⟨_, rfl⟩
  obtain ⟨C, hC⟩ : ∃ C, msC m = C := ⟨_, rfl⟩
  rw [hN, hC]
  rw [msN] at hN
  rw [msC] at hC
  obtain ⟨_, qa, qc, rfl, _⟩ := h.rq
  obtain ⟨_, aa, ac, rfl, _⟩ := h.ra
  obtain ⟨_, ua, uc, rfl, _⟩ := h.ru
  obtain ⟨_, xa, xc, rfl, _⟩ := h.rx
  clear h hm
  generalize mgOK m = OK at *
  generalize msgW m = RES at *
  obtain ⟨⟨i0, b1, i2, b3, b4, b5, b6, b7, b8, b9, i10⟩, qs, an, au, ex⟩ := m
  simp only [mgV] at *
  cases OK with
  | false =>
    simp only [Bool.false_eq_true, if_false] at hN hC
    subst hN hC
    clear hmb hlen
    go_enter Try.func5, Try.ntmps5
    go_wp2_with (go_at_call 11; refine hva.mono ?_; rintro e w1 ⟨rfl, hb1⟩)
    go_ret2
    exact ⟨rfl, Nm.below_two hB0 hb1⟩
  | true =>
    simp only [if_true] at hN hC
    subst hN hC
    have hl2 := hlen rfl
    go_enter Try.func5, Try.ntmps5
    go_wp2_with first
      | (go_at_call 11; refine hva.mono ?_; rintro e w1 ⟨rfl, hb1⟩; have k1 := blk_below kb hb1; have rr := fun i => blk_cell k1 i)
      | (go_at_call 12; refine (hmb _ (Nm.below_two hB0 hb1) trivial).mono ?_; rintro e w2 ⟨v2, rfl, hown2, hb2⟩; obtain ⟨x2, y2, hv2⟩ := own_sl hown2; subst hv2)
    go_ret2
    exact ⟨rfl, Nm.below_two (Nm.below_two hB0 hb1) hb2⟩
end Go.Proofs.Ytehggabhjpiclaa
