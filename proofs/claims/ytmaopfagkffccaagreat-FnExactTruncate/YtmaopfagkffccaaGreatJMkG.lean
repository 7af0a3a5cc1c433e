import Derived.Test.YtmaopfagkffccaaGreatJMkQ
import Derived.Test.YtmaopfagkffccaaGreatMkR2
import Derived.Test.YtmaopfagkffccaaGreatMkR
import Derived.Test.YtmaopfagkffccaaGreatShI
import Derived.Test.YtmaopfagkffccaaGreatJCrI
import Derived.Test.YtmaopfagkffccaaGreatJMath
import Derived.Test.YtmaopfagkffccaaGreatJIwN
/- laws.markMessage, heldMessage of a message whose lists lie apart, by their contracts. -/
namespace Go.Proofs.YtmaopfagkffccaaGreat
open Go.RowKit
set_option linter.unusedVariables false

/-- The marks that a message's lists bear. -/
structure MarkT (w : World) (B n1 n2 n3 n4 : Nat) (q a u x : Value) : Prop where
  rq : w.ownsRow B 63 3 q n1 (mkL mkQ 1 (n1 * 3))
  ra : w.ownsRow B 72 5 a n2 (mkL mkR (1 + n1 * 3) (n2 * 5))
  ru : w.ownsRow B 72 5 u n3 (mkL mkR (1 + n1 * 3 + n2 * 5) (n3 * 5))
  rx : w.ownsRow B 72 5 x n4 (mkL mkR (1 + n1 * 3 + n2 * 5 + n3 * 5) (n4 * 5))
theorem MarkT.below {w W : World} {B n1 n2 n3 n4 : Nat} {q a u x : Value} (h : MarkT w B n1 n2 n3 n4 q a u x) (hb : Below w.heap.size w W) : MarkT W B n1 n2 n3 n4 q a u x := ⟨own_below h.rq hb, own_below h.ra hb, own_below h.ru hb, own_below h.rx hb⟩
def markT (n1 n2 n3 n4 : Nat) : Nat := 1 + n1 * 3 + n2 * 5 + n3 * 5 + n4 * 5
theorem below_rowT {B : Nat} {w W W1 : World} {v : Value} (h : Below B w W) (hg : W.grownBy W1 v.ownBlock) (hB : B ≤ W.heap.size) (hv : ∀ k, v.ownBlock = some k → B ≤ k) : Below B w W1 := h.grown hg hB hv

set_option maxRecDepth 100000 in
set_option maxHeartbeats 3200000 in
theorem markMsgT_any (i0 i2 i10 : Int) (q1 q3 q4 q5 q6 q7 q8 q9 : Bool) (n1 n2 n3 n4 : Nat) (x1 x2 x3 x4 : List Value) (q a u x : Value) (B : Nat) (w : World) (rq : w.ownsRow B 63 3 q n1 x1) (ra : w.ownsRow B 72 5 a n2 x2) (ru : w.ownsRow B 72 5 u n3 x3) (rx : w.ownsRow B 72 5 x n4 x4) (hp : Apa a u x) (hB : B ≤ w.heap.size) (s1 : n1 ≤ 100000) (s2 : n2 ≤ 100000) (s3 : n3 ≤ 100000) (s4 : n4 ≤ 100000) :
    Calls Tryz.prog 9 #[.agg #[.int .i64 i0, .bool q1, .int .i64 i2, .bool q3, .bool q4, .bool q5, .bool q6, .bool q7, .bool q8, .bool q9, .int .i64 i10, q, a, u, x], .int .i64 1] w fun e w' => e = .returned (.int .i64 ((markT n1 n2 n3 n4 : Nat) : Int)) ∧ MarkT w' B n1 n2 n3 n4 q a u x ∧ Below B w w' ∧ ∀ b cs T, 63 ≠ T → 72 ≠ T → Blk w b cs T → Blk w' b cs T := by
  obtain ⟨au, ax, ux⟩ := hp
  have hq := fun W xs (h : W.ownsRow B 63 3 q n1 xs) (hW : B ≤ W.heap.size) => markQuestionS_any q n1 B 1 xs W h hW (by omega) (by decide)
  have hR := fun (v : Value) (n k : Nat) (hn : n ≤ 100000) (hk : k ≤ 10000000) W xs (h : W.ownsRow B 72 5 v n xs) (hW : B ≤ W.heap.size) => markRRS_any v n B k xs W h hW (by omega) hk
  have ha := hR a n2 (1 + n1 * 3) s2 (by omega)
  have hu := hR u n3 (1 + n1 * 3 + n2 * 5) s3 (by omega)
  have hx := hR x n4 (1 + n1 * 3 + n2 * 5 + n3 * 5) s4 (by omega)
  obtain ⟨qa, qc, rfl⟩ := own_sl rq
  obtain ⟨aa, ac, rfl⟩ := own_sl ra
  obtain ⟨ua, uc, rfl⟩ := own_sl ru
  obtain ⟨xa, xc, rfl⟩ := own_sl rx
  have hb0 := blk_new w #[.int .i64 i0, .bool q1, .int .i64 i2, .bool q3, .bool q4, .bool q5, .bool q6, .bool q7, .bool q8, .bool q9, .int .i64 i10, .slice qa n1 qc, .slice aa n2 ac, .slice ua n3 uc, .slice xa n4 xc] 33
  have be0 : Below B w (w.alloc (.cells #[.int .i64 i0, .bool q1, .int .i64 i2, .bool q3, .bool q4, .bool q5, .bool q6, .bool q7, .bool q8, .bool q9, .int .i64 i10, .slice qa n1 qc, .slice aa n2 ac, .slice ua n3 uc, .slice xa n4 xc] 33)) := (Below.refl _ _).alloc hB _
  have rq0 := rq.alloc (.cells #[.int .i64 i0, .bool q1, .int .i64 i2, .bool q3, .bool q4, .bool q5, .bool q6, .bool q7, .bool q8, .bool q9, .int .i64 i10, .slice qa n1 qc, .slice aa n2 ac, .slice ua n3 uc, .slice xa n4 xc] 33)
  have ra0 := ra.alloc (.cells #[.int .i64 i0, .bool q1, .int .i64 i2, .bool q3, .bool q4, .bool q5, .bool q6, .bool q7, .bool q8, .bool q9, .int .i64 i10, .slice qa n1 qc, .slice aa n2 ac, .slice ua n3 uc, .slice xa n4 xc] 33)
  have ru0 := ru.alloc (.cells #[.int .i64 i0, .bool q1, .int .i64 i2, .bool q3, .bool q4, .bool q5, .bool q6, .bool q7, .bool q8, .bool q9, .int .i64 i10, .slice qa n1 qc, .slice aa n2 ac, .slice ua n3 uc, .slice xa n4 xc] 33)
  have rx0 := rx.alloc (.cells #[.int .i64 i0, .bool q1, .int .i64 i2, .bool q3, .bool q4, .bool q5, .bool q6, .bool q7, .bool q8, .bool q9, .int .i64 i10, .slice qa n1 qc, .slice aa n2 ac, .slice ua n3 uc, .slice xa n4 xc] 33)
  go_enter Tryz.func9, Tryz.ntmps9
  go_wp2_with fail
  refine (hq _ _ rq0 (Nat.le_trans hB be0.size)).mono ?_
  rintro e w1 ⟨rfl, o1, g1⟩
  have hb1 := blk_grown hb0 g1 (own_blk rq0 hb0 (by decide))
  have r1 := fun i => blk_cell hb1 i
  have ra1 := own_apart ra0 rq0 (by decide) g1
  have ru1 := own_apart ru0 rq0 (by decide) g1
  have rx1 := own_apart rx0 rq0 (by decide) g1
  have be1 := below_rowT be0 g1 (Nat.le_trans hB be0.size) (fun k hk => (rq0.lt k hk).1)
  have K1 : Hid (∀ b cs T, 63 ≠ T → 72 ≠ T → Blk w b cs T → Blk w1 b cs T) := fun b cs T n1 n2 h => blk_grown (blk_alloc h _) g1 (own_blk rq0 (blk_alloc h _) n1)
  clear hb0 rq0 ra0 ru0 rx0 be0
  simp only [Int.natCast_add, Int.natCast_mul] at ha hu hx ⊢
  go_wp2_with fail
  refine (ha _ _ ra1 (Nat.le_trans hB be1.size)).mono ?_
  rintro e w2 ⟨rfl, o2, g2⟩
  have hb2 := blk_grown hb1 g2 (own_blk ra1 hb1 (by decide))
  have r2 := fun i => blk_cell hb2 i
  have p1 := own_apart o1 ra1 (by decide) g2
  have ru2 := own_beside ru1 g2 au
  have rx2 := own_beside rx1 g2 ax
  have K2 : Hid (∀ b cs T, 63 ≠ T → 72 ≠ T → Blk w b cs T → Blk w2 b cs T) := fun b cs T n1 n2 h => blk_grown (K1.out b cs T n1 n2 h) g2 (own_blk ra1 (K1.out b cs T n1 n2 h) n2)
  have be2 := below_rowT be1 g2 (Nat.le_trans hB be1.size) (fun k hk => (ra1.lt k hk).1)
  go_wp2_with fail
  refine (hu _ _ ru2 (Nat.le_trans hB be2.size)).mono ?_
  rintro e w3 ⟨rfl, o3, g3⟩
  have hb3 := blk_grown hb2 g3 (own_blk ru2 hb2 (by decide))
  have r3 := fun i => blk_cell hb3 i
  have p13 := own_apart p1 ru2 (by decide) g3
  have p23 := own_beside o2 g3 (fun k hk hk2 => au k hk2 hk)
  have rx3 := own_beside rx2 g3 ux
  have K3 : Hid (∀ b cs T, 63 ≠ T → 72 ≠ T → Blk w b cs T → Blk w3 b cs T) := fun b cs T n1 n2 h => blk_grown (K2.out b cs T n1 n2 h) g3 (own_blk ru2 (K2.out b cs T n1 n2 h) n2)
  have be3 := below_rowT be2 g3 (Nat.le_trans hB be2.size) (fun k hk => (ru2.lt k hk).1)
  go_wp2_with fail
  refine (hx _ _ rx3 (Nat.le_trans hB be3.size)).mono ?_
  rintro e w4 ⟨rfl, o4, g4⟩
  have p14 := own_apart p13 rx3 (by decide) g4
  have p24 := own_beside p23 g4 (fun k hk hk2 => ax k hk2 hk)
  have p34 := own_beside o3 g4 (fun k hk hk2 => ux k hk2 hk)
  have K4 : Hid (∀ b cs T, 63 ≠ T → 72 ≠ T → Blk w b cs T → Blk w4 b cs T) := fun b cs T n1 n2 h => blk_grown (K3.out b cs T n1 n2 h) g4 (own_blk rx3 (K3.out b cs T n1 n2 h) n2)
  have be4 := below_rowT be3 g4 (Nat.le_trans hB be3.size) (fun k hk => (rx3.lt k hk).1)
  go_wp2
  go_ret
  exact ⟨by simp [markT], ⟨p14, p24, p34, o4⟩, be4, K4.out⟩

set_option maxRecDepth 100000 in
set_option maxHeartbeats 3200000 in
theorem heldMsgT_any (i0 i2 i10 : Int) (q1 q3 q4 q5 q6 q7 q8 q9 : Bool) (n1 n2 n3 n4 B : Nat) (q a u x : Value) (w : World) (h : MarkT w B n1 n2 n3 n4 q a u x) (s1 : n1 ≤ 100000) (s2 : n2 ≤ 100000) (s3 : n3 ≤ 100000) (s4 : n4 ≤ 100000) :
    Calls Tryz.prog 10 #[.agg #[.int .i64 i0, .bool q1, .int .i64 i2, .bool q3, .bool q4, .bool q5, .bool q6, .bool q7, .bool q8, .bool q9, .int .i64 i10, q, a, u, x], .int .i64 1] w fun e w' => e = .returned (.int .i64 ((markT n1 n2 n3 n4 : Nat) : Int)) ∧ Below w.heap.size w w' := by
  have hq := fun W (hW : Below w.heap.size w W) => heldQuestionS_any q n1 1 W ((CRow.of_owns h.rq).below hW) (by omega) (by decide)
  have ha := fun W (hW : Below w.heap.size w W) => heldRRS_any a n2 (1 + n1 * 3) W ((CRow.of_owns h.ra).below hW) (by omega) (by omega)
  have hu := fun W (hW : Below w.heap.size w W) => heldRRS_any u n3 (1 + n1 * 3 + n2 * 5) W ((CRow.of_owns h.ru).below hW) (by omega) (by omega)
  have hx := fun W (hW : Below w.heap.size w W) => heldRRS_any x n4 (1 + n1 * 3 + n2 * 5 + n3 * 5) W ((CRow.of_owns h.rx).below hW) (by omega) (by omega)
  obtain ⟨qa, qc, rfl⟩ := own_sl h.rq
  obtain ⟨aa, ac, rfl⟩ := own_sl h.ra
  obtain ⟨ua, uc, rfl⟩ := own_sl h.ru
  obtain ⟨xa, xc, rfl⟩ := own_sl h.rx
  clear h
  have hb0 := blk_new w #[.int .i64 i0, .bool q1, .int .i64 i2, .bool q3, .bool q4, .bool q5, .bool q6, .bool q7, .bool q8, .bool q9, .int .i64 i10, .slice qa n1 qc, .slice aa n2 ac, .slice ua n3 uc, .slice xa n4 xc] 33
  have be0 : Below w.heap.size w (w.alloc (.cells #[.int .i64 i0, .bool q1, .int .i64 i2, .bool q3, .bool q4, .bool q5, .bool q6, .bool q7, .bool q8, .bool q9, .int .i64 i10, .slice qa n1 qc, .slice aa n2 ac, .slice ua n3 uc, .slice xa n4 xc] 33)) := (Below.refl _ _).alloc (Nat.le_refl _) _
  simp only [Int.natCast_add, Int.natCast_mul] at ha hu hx
  go_enter Tryz.func10, Tryz.ntmps10
  go_wp2_with fail
  refine (hq _ be0).mono ?_
  rintro e w1 ⟨rfl, b1⟩
  have hb1 := blk_below hb0 b1
  have r1 := fun i => blk_cell hb1 i
  have be1 := Nm.below_two be0 b1
  simp only [Int.natCast_add, Int.natCast_mul]
  go_wp2_with fail
  refine (ha _ be1).mono ?_
  rintro e w2 ⟨rfl, b2⟩
  have hb2 := blk_below hb1 b2
  have r2 := fun i => blk_cell hb2 i
  have be2 := Nm.below_two be1 b2
  go_wp2_with fail
  refine (hu _ be2).mono ?_
  rintro e w3 ⟨rfl, b3⟩
  have hb3 := blk_below hb2 b3
  have r3 := fun i => blk_cell hb3 i
  have be3 := Nm.below_two be2 b3
  go_wp2_with fail
  refine (hx _ be3).mono ?_
  rintro e w4 ⟨rfl, b4⟩
  have be4 := Nm.below_two be3 b4
  go_wp2
  go_ret
  exact ⟨by simp [markT], be4⟩
end Go.Proofs.YtmaopfagkffccaaGreat
/- laws.markMessage: what it leaves as it was. -/
namespace Go.Proofs.YtmaopfagkffccaaGreat
open Go.RowKit
set_option linter.unusedVariables false

/-- Below B, and objects that are neither questions nor records are as they were. -/
structure Bq (B : Nat) (w w' : World) : Prop where
  be : Below B w w'
  kp : ∀ (k : Nat) (o : Obj), w.heap[k]? = some o → ¬ isCells o 63 → ¬ isCells o 72 → w'.heap[k]? = some o
theorem Bq.trans {B : Nat} {a b c : World} (h : Bq B a b) (k : Bq B b c) : Bq B a c := ⟨h.be.trans k.be, fun i o hb h1 h2 => k.kp i o (h.kp i o hb h1 h2) h1 h2⟩
theorem Bq.of {B : Nat} {w w' : World} (h : Below w.heap.size w w') (hB : B ≤ w.heap.size) : Bq B w w' := ⟨h.mono hB, fun i o hb _ _ => (h.block i (Array.getElem?_eq_some_iff.1 hb).1).trans hb⟩
theorem Bq.mark {B e s n : Nat} {w w1 : World} {v : Value} {xs : List Value} (ho : w.ownsRow B e s v n xs) (hg : w.grownBy w1 v.ownBlock) (hB : B ≤ w.heap.size) (he : e = 63 ∨ e = 72) : Bq B w w1 := by
  refine ⟨(Below.refl _ _).grown hg hB (fun q hq => (ho.lt q hq).1), fun i o hb h1 h2 => ?_⟩
  refine (hg.block i (Array.getElem?_eq_some_iff.1 hb).1 (fun e' => ?_)).trans hb
  rcases ho.2 with ⟨rfl, _⟩ | ⟨g', cap', cur, rfl, _, hh, _⟩
  · simp [Value.ownBlock] at e'
  · simp only [Value.ownBlock, Option.some.injEq] at e'
    subst e'
    rw [hh] at hb
    cases hb
    rcases he with rfl | rfl
    · exact h1 rfl
    · exact h2 rfl
theorem Bq.row {B b e s n : Nat} {w w' : World} {v : Value} {xs : List Value} (h : Bq B w w') (ho : w.ownsRow b e s v n xs) (h1 : e ≠ 63) (h2 : e ≠ 72) : w'.ownsRow b e s v n xs := by
  refine ⟨ho.1, ?_⟩
  rcases ho.2 with hn | ⟨g, cap, cur, rfl, hb, hh, r⟩
  · exact .inl hn
  · exact .inr ⟨g, cap, cur, rfl, hb, h.kp g _ hh h1 h2, r⟩
theorem Bq.blk {B k : Nat} {w w' : World} {cs : Array Value} {T : TypeId} (h : Bq B w w') (hb : Blk w k cs T) (h1 : T ≠ 63) (h2 : T ≠ 72) : Blk w' k cs T := h.kp k _ hb h1 h2

/-- A row is still one's own where another of its kind was written, be it the same. -/
theorem own_again {w w1 : World} {B e s n n' : Nat} {a u : Value} {xs ys zs : List Value} (hs : 0 < s) (ha : w.ownsRow B e s a n xs) (ha1 : w1.ownsRow B e s a n ys) (hu : w.ownsRow B e s u n' zs) (hg : w.grownBy w1 a.ownBlock) : ∃ zs', w1.ownsRow B e s u n' zs' := by
  by_cases hne : u.ownBlock = none ∨ u.ownBlock ≠ a.ownBlock
  · exact ⟨zs, hu.kept hg hne⟩
  · obtain ⟨h1, h2⟩ : u.ownBlock ≠ none ∧ u.ownBlock = a.ownBlock := ⟨fun e => hne (.inl e), Classical.byContradiction fun e => hne (.inr e)⟩
    rcases hu.2 with ⟨rfl, _⟩ | ⟨g, cap, cur, rfl, hb, hh, hn, hm, hsz, ht⟩
    · exact absurd rfl h1
    · rcases ha.2 with ⟨rfl, _⟩ | ⟨g', cap', cur', rfl, hb', hh', hn', hm', hsz', ht'⟩
      · simp [Value.ownBlock] at h2
      · simp only [Value.ownBlock, Option.some.injEq] at h2
        subst h2
        rw [hh] at hh'
        cases hh'
        have hcc : cap = cap' := Nat.eq_of_mul_eq_mul_right hs (hsz.symm.trans hsz')
        subst hcc
        rcases ha1.2 with ⟨h3, _⟩ | ⟨g2, cap2, cur2, h3, hb2, hh2, hn2, hm2, hsz2, ht2⟩
        · cases h3
        · cases h3
          refine ⟨cur2.toList.take (n' * s), ?_, .inr ⟨g, cap, cur2, rfl, hb, hh2, hn, hm, hsz2, ?_⟩⟩
          · have : n' * s ≤ cap * s := Nat.mul_le_mul_right s hn
            simp
            omega
          · rfl

theorem own_not {W : World} {B e s m B' e' s' m' : Nat} {v u : Value} {xs ys : List Value} (h : W.ownsRow B e s v m xs) (h' : W.ownsRow B' e' s' u m' ys) (hne : e ≠ e') : v.ownBlock = none ∨ v.ownBlock ≠ u.ownBlock := by
  cases hv : v.ownBlock with
  | none => exact .inl rfl
  | some g =>
    right
    intro e2
    exact own_kinds h h' hne g e2.symm hv

set_option maxRecDepth 100000 in
set_option maxHeartbeats 1600000 in
theorem markMsg_any (m : Mg) (q a u x : Value) (B : Nat) (w : World) (h : MOwn w B m q a u x) (hB : B ≤ w.heap.size) (s1 : m.qs.length ≤ 1100000) (s2 : m.an.length ≤ 1100000) (s3 : m.au.length ≤ 1100000) (s4 : m.ex.length ≤ 1100000) (s5 : m.qs.length + m.an.length + m.au.length + m.ex.length ≤ 1100000) :
    Calls Tryz.prog 9 #[.agg (mgV m.hd q a u x), .int .i64 1] w fun e w' => ∃ k : Nat, e = .returned (.int .i64 (k : Int)) ∧ Bq B w w' := by
  have kb := blk_new w (mgV m.hd q a u x) 33
  have hB0 := (Below.refl w.heap.size w).alloc (Nat.le_refl _) (.cells (mgV m.hd q a u x) 33)
  have hB1 : B ≤ (w.alloc (.cells (mgV m.hd q a u x) 33)).heap.size := Nat.le_trans hB hB0.size
  have k1 : Bq B w (w.alloc (.cells (mgV m.hd q a u x) 33)) := Bq.of hB0 hB
  have h1 := h.below hB0
  have hq := markQuestionS_any q m.qs.length B 1 _ _ h1.rq hB1 s1 (by decide)
  have hR := fun (v : Value) (n k : Nat) (hn : n ≤ 1100000) (hk : k ≤ 10000000) W xs (h : W.ownsRow B 72 5 v n xs) (hW : B ≤ W.heap.size) => markRRS_any v n B k xs W h hW hn hk
  have ha := hR a m.an.length (1 + m.qs.length * 3) s2 (by omega)
  have hu := hR u m.au.length (1 + m.qs.length * 3 + m.an.length * 5) s3 (by omega)
  have hx := hR x m.ex.length (1 + m.qs.length * 3 + m.an.length * 5 + m.au.length * 5) s4 (by omega)
  obtain ⟨qa, qc, hq'⟩ := own_sl h.rq
  obtain ⟨aa, ac, ha'⟩ := own_sl h.ra
  obtain ⟨ua, uc, hu'⟩ := own_sl h.ru
  obtain ⟨xa, xc, hx'⟩ := own_sl h.rx
  subst hq' ha' hu' hx'
  clear hR h
  obtain ⟨⟨i0, b1, i2, b3, b4, b5, b6, b7, b8, b9, i10⟩, qs, an, au, ex⟩ := m
  simp only [mgV] at *
  simp only [Int.natCast_add, Int.natCast_mul, Int.cast_ofNat_Int] at hq ha hu hx
  have rr := fun i => blk_cell kb i
  go_enter Tryz.func9, Tryz.ntmps9
  go_wp2_with first
    | (
      go_at_call 26
      refine hq.mono ?_
      rintro e w2 ⟨rfl, hr2, hg2⟩
      have m2 := Bq.mark h1.rq hg2 hB1 (.inl rfl)
      have kb2 := m2.blk kb (by decide) (by decide)
      have hB2 : B ≤ w2.heap.size := Nat.le_trans hB1 m2.be.size
      have ra2 := h1.ra.kept hg2 (own_not h1.ra h1.rq (by decide))
      have ru2 := h1.ru.kept hg2 (own_not h1.ru h1.rq (by decide))
      have rx2 := h1.rx.kept hg2 (own_not h1.rx h1.rq (by decide))
      have rr2 := fun i => blk_cell kb2 i)
    | (
      go_at_call 27
      with_reducible refine (ha _ _ ra2 hB2).mono ?_
      rintro e w3 ⟨rfl, hr3, hg3⟩
      obtain ⟨zu, ru3⟩ := own_again (by decide) ra2 hr3 ru2 hg3
      obtain ⟨zx, rx3⟩ := own_again (by decide) ra2 hr3 rx2 hg3
      have m3 := Bq.mark ra2 hg3 hB2 (.inr rfl)
      have kb3 := m3.blk kb2 (by decide) (by decide)
      have hB3 : B ≤ w3.heap.size := Nat.le_trans hB2 m3.be.size
      have rr3 := fun i => blk_cell kb3 i)
    | (
      go_at_call 27
      with_reducible refine (hu _ _ ru3 hB3).mono ?_
      rintro e w4 ⟨rfl, hr4, hg4⟩
      obtain ⟨zx4, rx4⟩ := own_again (by decide) ru3 hr4 rx3 hg4
      have m4 := Bq.mark ru3 hg4 hB3 (.inr rfl)
      have kb4 := m4.blk kb3 (by decide) (by decide)
      have hB4 : B ≤ w4.heap.size := Nat.le_trans hB3 m4.be.size
      have rr4 := fun i => blk_cell kb4 i)
    | (
      go_at_call 27
      with_reducible refine (hx _ _ rx4 hB4).mono ?_
      rintro e w5 ⟨rfl, hr5, hg5⟩)
  have m5 := Bq.mark rx4 hg5 hB4 (.inr rfl)
  go_ret
  exact ⟨1 + qs.length * 3 + an.length * 5 + au.length * 5 + ex.length * 5, by simp, k1.trans (m2.trans (m3.trans (m4.trans m5)))⟩
end Go.Proofs.YtmaopfagkffccaaGreat
