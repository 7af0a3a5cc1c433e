import Derived.Test.YthhagapmcbkeiaaMsM
import Derived.Test.YthhagapmcbkeiaaMvI
import Derived.Deep.Onto
/- Encode, the program's, by its contract. -/
namespace Go.Proofs.Ythhagapmcbkeiaa
open Go.RowKit
set_option linter.unusedVariables false

def enB (m : Mg) : List UInt8 := if mgOK m then (if (msgW m).1.length ≤ 65535 then (msgW m).1 else []) else []
def enC (m : Mg) : Nat := if mgOK m then (if (msgW m).1.length ≤ 65535 then 0 else 11) else 32
theorem enB_len (m : Mg) : (enB m).length ≤ 65535 := by
  unfold enB
  split
  · split
    · assumption
    · simp
  · simp

set_option maxRecDepth 100000 in
set_option maxHeartbeats 1600000 in
theorem implEncode_any (m : Mg) (q a u x : Value) (w : World) (h : MRow w m q a u x) (hm : MSmall m) :
    Calls Try.prog 7 #[.agg (mgV m.hd q a u x)] w fun e w' => ∃ v, e = .returned (.tuple #[v, .int .i64 (enC m : Int)]) ∧ w'.ownsRow w.heap.size 5 1 v (enB m).length (Nm.bys (enB m)) ∧ Below w.heap.size w w' := by
  have kb := blk_new w (mgV m.hd q a u x) 37
  have hB0 := (Below.refl w.heap.size w).alloc (Nat.le_refl _) (.cells (mgV m.hd q a u x) 37)
  have hva := validMessage_any m q a u x _ (h.below hB0) hm
  have hmb := fun W (hb : Below w.heap.size w W) (ho : mgOK m = true) => messageBytes_any m q a u x W ⟨h.rq.below hb, h.ra.below hb, h.ru.below hb, h.rx.below hb⟩ hm ho
  have hlen := rrWs_all m
  obtain ⟨N, hN⟩ : ∃ N, enB m = N := ⟨_, rfl⟩
  obtain ⟨C, hC⟩ : ∃ C, enC m = C := ⟨_, rfl⟩
  rw [hN, hC]
  rw [enB] at hN
  rw [enC] at hC
  obtain ⟨_, qa, qc, rfl, _⟩ := h.rq
  obtain ⟨_, aa, ac, rfl, _⟩ := h.ra
  obtain ⟨_, ua, uc, rfl, _⟩ := h.ru
  obtain ⟨_, xa, xc, rfl, _⟩ := h.rx
  clear h hm
  generalize mgOK m = OK at *
  generalize msgW m = RES at *
  obtain ⟨⟨i0, b1, i2, b3, b4, b5, b6, b7, b8, b9, i10⟩, qs, an, au, ex⟩ := m
  simp only [mgV] at *
  cases OK with
  | false =>
    simp only [Bool.false_eq_true, if_false] at hN hC
    subst hN hC
    clear hmb hlen
    go_enter Try.func7, Try.ntmps7
    go_wp2_with (go_at_call 17; refine hva.mono ?_; rintro e w1 ⟨rfl, hb1⟩)
    go_ret2
    exact ⟨_, rfl, World.ownsRow_nil _ _ _ _, Nm.below_two hB0 hb1⟩
  | true =>
    simp only [if_true] at hN hC
    have hl2 : RES.1.length ≤ 30000000 := hlen rfl
    by_cases hbig : RES.1.length ≤ 65535
    · rw [if_pos hbig] at hN hC
      subst hN hC
      have hb' : (RES.1.length : Int) ≤ 65535 := by omega
      go_enter Try.func7, Try.ntmps7
      go_wp2_with first
        | (go_at_call 17; refine hva.mono ?_; rintro e w1 ⟨rfl, hb1⟩; have k1 := blk_below kb hb1; have rr := fun i => blk_cell k1 i)
        | (go_at_call 18; refine (hmb _ (Nm.below_two hB0 hb1) trivial).mono ?_; rintro e w2 ⟨v2, rfl, hown2, hb2⟩; obtain ⟨x2, y2, hv2⟩ := own_sl hown2; subst hv2)
      go_ret2
      have hb01 := Nm.below_two hB0 hb1
      exact ⟨_, rfl, hown2.mono hb01.size, Nm.below_two hb01 hb2⟩
    · rw [if_neg hbig] at hN hC
      subst hN hC
      have hb' : (65535 : Int) < (RES.1.length : Int) := by omega
      go_enter Try.func7, Try.ntmps7
      go_wp2_with first
        | (go_at_call 17; refine hva.mono ?_; rintro e w1 ⟨rfl, hb1⟩; have k1 := blk_below kb hb1; have rr := fun i => blk_cell k1 i)
        | (go_at_call 18; refine (hmb _ (Nm.below_two hB0 hb1) trivial).mono ?_; rintro e w2 ⟨v2, rfl, hown2, hb2⟩; obtain ⟨x2, y2, hv2⟩ := own_sl hown2; subst hv2)
      go_ret2
      exact ⟨_, rfl, World.ownsRow_nil _ _ _ _, Nm.below_two (Nm.below_two hB0 hb1) hb2⟩
end Go.Proofs.Ythhagapmcbkeiaa
