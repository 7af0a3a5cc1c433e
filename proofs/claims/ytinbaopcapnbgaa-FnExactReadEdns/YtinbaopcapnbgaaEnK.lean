import Derived.Test.YtinbaopcapnbgaaMgM
import Derived.Test.YtinbaopcapnbgaaMkQ
import Derived.Test.YtinbaopcapnbgaaMkR
import Derived.Test.YtinbaopcapnbgaaBlkT
import Derived.Test.YtinbaopcapnbgaaJWtS
/- laws.markMessage: what it leaves as it was. -/
namespace Go.Proofs.Ytinbaopcapnbgaa
open Go.RowKit
set_option linter.unusedVariables false

/-- Below B, and objects that are neither questions nor records are as they were. -/
structure Bq (B : Nat) (w w' : World) : Prop where
  be : Below B w w'
  kp : ∀ (k : Nat) (o : Obj), w.heap[k]? = some o → ¬ isCells o 99 → ¬ isCells o 25 → w'.heap[k]? = some o
theorem Bq.trans {B : Nat} {a b c : World} (h : Bq B a b) (k : Bq B b c) : Bq B a c := ⟨h.be.trans k.be, fun i o hb h1 h2 => k.kp i o (h.kp i o hb h1 h2) h1 h2⟩
theorem Bq.of {B : Nat} {w w' : World} (h : Below w.heap.size w w') (hB : B ≤ w.heap.size) : Bq B w w' := ⟨h.mono hB, fun i o hb _ _ => (h.block i (Array.getElem?_eq_some_iff.1 hb).1).trans hb⟩
theorem Bq.mark {B e s n : Nat} {w w1 : World} {v : Value} {xs : List Value} (ho : w.ownsRow B e s v n xs) (hg : w.grownBy w1 v.ownBlock) (hB : B ≤ w.heap.size) (he : e = 99 ∨ e = 25) : Bq B w w1 := by
  refine ⟨(Below.refl _ _).grown hg hB (fun q hq => (ho.lt q hq).1), fun i o hb h1 h2 => ?_⟩
  refine (hg.block i (Array.getElem?_eq_some_iff.1 hb).1 (fun e' => ?_)).trans hb
  rcases ho.2 with ⟨rfl, _⟩ | ⟨g', cap', cur, rfl, _, hh, _⟩
  · simp [Value.ownBlock] at e'
  · simp only [Value.ownBlock, Option.some.injEq] at e'
    subst e'
    rw [hh] at hb
    cases hb
    rcases he with rfl | rfl
    · exact h1 rfl
    · exact h2 rfl
theorem Bq.row {B b e s n : Nat} {w w' : World} {v : Value} {xs : List Value} (h : Bq B w w') (ho : w.ownsRow b e s v n xs) (h1 : e ≠ 99) (h2 : e ≠ 25) : w'.ownsRow b e s v n xs := by
  refine ⟨ho.1, ?_⟩
  rcases ho.2 with hn | ⟨g, cap, cur, rfl, hb, hh, r⟩
  · exact .inl hn
  · exact .inr ⟨g, cap, cur, rfl, hb, h.kp g _ hh h1 h2, r⟩
theorem Bq.blk {B k : Nat} {w w' : World} {cs : Array Value} {T : TypeId} (h : Bq B w w') (hb : Blk w k cs T) (h1 : T ≠ 99) (h2 : T ≠ 25) : Blk w' k cs T := h.kp k _ hb h1 h2

/-- A row is still one's own where another of its kind was written, be it the same. -/
theorem own_again {w w1 : World} {B e s n n' : Nat} {a u : Value} {xs ys zs : List Value} (hs : 0 < s) (ha : w.ownsRow B e s a n xs) (ha1 : w1.ownsRow B e s a n ys) (hu : w.ownsRow B e s u n' zs) (hg : w.grownBy w1 a.ownBlock) : ∃ zs', w1.ownsRow B e s u n' zs' := by
  by_cases hne : u.ownBlock = none ∨ u.ownBlock ≠ a.ownBlock
  · exact ⟨zs, hu.kept hg hne⟩
  · obtain ⟨h1, h2⟩ : u.ownBlock ≠ none ∧ u.ownBlock = a.ownBlock := ⟨fun e => hne (.inl e), Classical.byContradiction fun e => hne (.inr e)⟩
    rcases hu.2 with ⟨rfl, _⟩ | ⟨g, cap, cur, rfl, hb, hh, hn, hm, hsz, ht⟩
    · exact absurd rfl h1
    · rcases ha.2 with ⟨rfl, _⟩ | ⟨g', cap', cur', rfl, hb', hh', hn', hm', hsz', ht'⟩
      · simp [Value.ownBlock] at h2
      · simp only [Value.ownBlock, Option.some.injEq] at h2
        subst h2
        rw [hh] at hh'
        cases hh'
        have hcc : cap = cap' := Nat.eq_of_mul_eq_mul_right hs (hsz.symm.trans hsz')
        subst hcc
        rcases ha1.2 with ⟨h3, _⟩ | ⟨g2, cap2, cur2, h3, hb2, hh2, hn2, hm2, hsz2, ht2⟩
        · cases h3
        · cases h3
          refine ⟨cur2.toList.take (n' * s), ?_, .inr ⟨g, cap, cur2, rfl, hb, hh2, hn, hm, hsz2, ?_⟩⟩
          · have : n' * s ≤ cap * s := Nat.mul_le_mul_right s hn
            simp
            omega
          · rfl

theorem own_not {W : World} {B e s m B' e' s' m' : Nat} {v u : Value} {xs ys : List Value} (h : W.ownsRow B e s v m xs) (h' : W.ownsRow B' e' s' u m' ys) (hne : e ≠ e') : v.ownBlock = none ∨ v.ownBlock ≠ u.ownBlock := by
  cases hv : v.ownBlock with
  | none => exact .inl rfl
  | some g =>
    right
    intro e2
    exact own_kinds h h' hne g e2.symm hv

set_option maxRecDepth 100000 in
set_option maxHeartbeats 1600000 in
theorem markMsg_any (m : Mg) (q a u x : Value) (B : Nat) (w : World) (h : MOwn w B m q a u x) (hB : B ≤ w.heap.size) (s1 : m.qs.length ≤ 1100000) (s2 : m.an.length ≤ 1100000) (s3 : m.au.length ≤ 1100000) (s4 : m.ex.length ≤ 1100000) (s5 : m.qs.length + m.an.length + m.au.length + m.ex.length ≤ 1100000) :
    Calls Try.prog 17 #[.agg (mgV m.hd q a u x), .int .i64 1] w fun e w' => ∃ k : Nat, e = .returned (.int .i64 (k : Int)) ∧ Bq B w w' := by
  have kb := blk_new w (mgV m.hd q a u x) 48
  have hB0 := (Below.refl w.heap.size w).alloc (Nat.le_refl _) (.cells (mgV m.hd q a u x) 48)
  have hB1 : B ≤ (w.alloc (.cells (mgV m.hd q a u x) 48)).heap.size := Nat.le_trans hB hB0.size
  have k1 : Bq B w (w.alloc (.cells (mgV m.hd q a u x) 48)) := Bq.of hB0 hB
  have h1 := h.below hB0
  have hq := markQuestionS_any q m.qs.length B 1 _ _ h1.rq hB1 s1 (by decide)
  have hR := fun (v : Value) (n k : Nat) (hn : n ≤ 1100000) (hk : k ≤ 10000000) W xs (h : W.ownsRow B 25 5 v n xs) (hW : B ≤ W.heap.size) => markRRS_any v n B k xs W h hW hn hk
  have ha := hR a m.an.length (1 + m.qs.length * 3) s2 (by omega)
  have hu := hR u m.au.length (1 + m.qs.length * 3 + m.an.length * 5) s3 (by omega)
  have hx := hR x m.ex.length (1 + m.qs.length * 3 + m.an.length * 5 + m.au.length * 5) s4 (by omega)
  obtain ⟨qa, qc, hq'⟩ := own_sl h.rq
  obtain ⟨aa, ac, ha'⟩ := own_sl h.ra
  obtain ⟨ua, uc, hu'⟩ := own_sl h.ru
  obtain ⟨xa, xc, hx'⟩ := own_sl h.rx
  subst hq' ha' hu' hx'
  clear hR h
  obtain ⟨⟨i0, b1, i2, b3, b4, b5, b6, b7, b8, b9, i10⟩, qs, an, au, ex⟩ := m
  simp only [mgV] at *
  simp only [Int.natCast_add, Int.natCast_mul, Int.cast_ofNat_Int] at hq ha hu hx
  have rr := fun i => blk_cell kb i
  go_enter Try.func17, Try.ntmps17
  go_wp2_with first
    | (
      go_at_call 41
      refine hq.mono ?_
      rintro e w2 ⟨rfl, hr2, hg2⟩
      have m2 := Bq.mark h1.rq hg2 hB1 (.inl rfl)
      have kb2 := m2.blk kb (by decide) (by decide)
      have hB2 : B ≤ w2.heap.size := Nat.le_trans hB1 m2.be.size
      have ra2 := h1.ra.kept hg2 (own_not h1.ra h1.rq (by decide))
      have ru2 := h1.ru.kept hg2 (own_not h1.ru h1.rq (by decide))
      have rx2 := h1.rx.kept hg2 (own_not h1.rx h1.rq (by decide))
      have rr2 := fun i => blk_cell kb2 i)
    | (
      go_at_call 42
      with_reducible refine (ha _ _ ra2 hB2).mono ?_
      rintro e w3 ⟨rfl, hr3, hg3⟩
      obtain ⟨zu, ru3⟩ := own_again (by decide) ra2 hr3 ru2 hg3
      obtain ⟨zx, rx3⟩ := own_again (by decide) ra2 hr3 rx2 hg3
      have m3 := Bq.mark ra2 hg3 hB2 (.inr rfl)
      have kb3 := m3.blk kb2 (by decide) (by decide)
      have hB3 : B ≤ w3.heap.size := Nat.le_trans hB2 m3.be.size
      have rr3 := fun i => blk_cell kb3 i)
    | (
      go_at_call 42
      with_reducible refine (hu _ _ ru3 hB3).mono ?_
      rintro e w4 ⟨rfl, hr4, hg4⟩
      obtain ⟨zx4, rx4⟩ := own_again (by decide) ru3 hr4 rx3 hg4
      have m4 := Bq.mark ru3 hg4 hB3 (.inr rfl)
      have kb4 := m4.blk kb3 (by decide) (by decide)
      have hB4 : B ≤ w4.heap.size := Nat.le_trans hB3 m4.be.size
      have rr4 := fun i => blk_cell kb4 i)
    | (
      go_at_call 42
      with_reducible refine (hx _ _ rx4 hB4).mono ?_
      rintro e w5 ⟨rfl, hr5, hg5⟩)
  have m5 := Bq.mark rx4 hg5 hB4 (.inr rfl)
  go_ret
  exact ⟨1 + qs.length * 3 + an.length * 5 + au.length * 5 + ex.length * 5, by simp, k1.trans (m2.trans (m3.trans (m4.trans m5)))⟩
end Go.Proofs.Ytinbaopcapnbgaa
