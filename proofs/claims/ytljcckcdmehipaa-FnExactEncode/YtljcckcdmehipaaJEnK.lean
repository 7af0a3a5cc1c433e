import Derived.Test.YtljcckcdmehipaaJPut
import Derived.Test.YtljcckcdmehipaaJConvOne
import Derived.Test.YtljcckcdmehipaaJBitM
import Derived.Test.YtljcckcdmehipaaJIwN
import Derived.Test.YtljcckcdmehipaaRows
import Derived.WalkSpells
import Derived.WalkLawsBesides
import Derived.RegionTactic
import Derived.BigRegion
/- laws.markMessage: what it leaves as it was. -/
namespace Go.Proofs.Ytljcckcdmehipaa
open Go.RowKit
set_option linter.unusedVariables false

/-- Below B, and objects that are neither questions nor records are as they were. -/
structure Bq (B : Nat) (w w' : World) : Prop where
  be : Below B w w'
  kp : ∀ (k : Nat) (o : Obj), w.heap[k]? = some o → ¬ isCells o 62 → ¬ isCells o 74 → w'.heap[k]? = some o
theorem Bq.trans {B : Nat} {a b c : World} (h : Bq B a b) (k : Bq B b c) : Bq B a c := ⟨h.be.trans k.be, fun i o hb h1 h2 => k.kp i o (h.kp i o hb h1 h2) h1 h2⟩
theorem Bq.of {B : Nat} {w w' : World} (h : Below w.heap.size w w') (hB : B ≤ w.heap.size) : Bq B w w' := ⟨h.mono hB, fun i o hb _ _ => (h.block i (Array.getElem?_eq_some_iff.1 hb).1).trans hb⟩
theorem Bq.mark {B e s n : Nat} {w w1 : World} {v : Value} {xs : List Value} (ho : w.ownsRow B e s v n xs) (hg : w.grownBy w1 v.ownBlock) (hB : B ≤ w.heap.size) (he : e = 62 ∨ e = 74) : Bq B w w1 := by
  refine ⟨(Below.refl _ _).grown hg hB (fun q hq => (ho.lt q hq).1), fun i o hb h1 h2 => ?_⟩
  refine (hg.block i (Array.getElem?_eq_some_iff.1 hb).1 (fun e' => ?_)).trans hb
  rcases ho.2 with ⟨rfl, _⟩ | ⟨g', cap', cur, rfl, _, hh, _⟩
  · simp [Value.ownBlock] at e'
  · simp only [Value.ownBlock, Option.some.injEq] at e'
    subst e'
    rw [hh] at hb
    cases hb
    rcases he with rfl | rfl
    · exact h1 rfl
    · exact h2 rfl
theorem Bq.row {B b e s n : Nat} {w w' : World} {v : Value} {xs : List Value} (h : Bq B w w') (ho : w.ownsRow b e s v n xs) (h1 : e ≠ 62) (h2 : e ≠ 74) : w'.ownsRow b e s v n xs := by
  refine ⟨ho.1, ?_⟩
  rcases ho.2 with hn | ⟨g, cap, cur, rfl, hb, hh, r⟩
  · exact .inl hn
  · exact .inr ⟨g, cap, cur, rfl, hb, h.kp g _ hh h1 h2, r⟩
theorem Bq.blk {B k : Nat} {w w' : World} {cs : Array Value} {T : TypeId} (h : Bq B w w') (hb : Blk w k cs T) (h1 : T ≠ 62) (h2 : T ≠ 74) : Blk w' k cs T := h.kp k _ hb h1 h2

/-- A row is still one's own where another of its kind was written, be it the same. -/
theorem own_again {w w1 : World} {B e s n n' : Nat} {a u : Value} {xs ys zs : List Value} (hs : 0 < s) (ha : w.ownsRow B e s a n xs) (ha1 : w1.ownsRow B e s a n ys) (hu : w.ownsRow B e s u n' zs) (hg : w.grownBy w1 a.ownBlock) : ∃ zs', w1.ownsRow B e s u n' zs' := by
  by_cases hne : u.ownBlock = none ∨ u.ownBlock ≠ a.ownBlock
  · exact ⟨zs, hu.kept hg hne⟩
  · obtain ⟨h1, h2⟩ : u.ownBlock ≠ none ∧ u.ownBlock = a.ownBlock := ⟨fun e => hne (.inl e), Classical.byContradiction fun e => hne (.inr e)⟩
    rcases hu.2 with ⟨rfl, _⟩ | ⟨g, cap, cur, rfl, hb, hh, hn, hm, hsz, ht⟩
    · exact absurd rfl h1
    · rcases ha.2 with ⟨rfl, _⟩ | ⟨g', cap', cur', rfl, hb', hh', hn', hm', hsz', ht'⟩
      · simp [Value.ownBlock] at h2
      · simp only [Value.ownBlock, Option.some.injEq] at h2
        subst h2
        rw [hh] at hh'
        cases hh'
        have hcc : cap = cap' := Nat.eq_of_mul_eq_mul_right hs (hsz.symm.trans hsz')
        subst hcc
        rcases ha1.2 with ⟨h3, _⟩ | ⟨g2, cap2, cur2, h3, hb2, hh2, hn2, hm2, hsz2, ht2⟩
        · cases h3
        · cases h3
          refine ⟨cur2.toList.take (n' * s), ?_, .inr ⟨g, cap, cur2, rfl, hb, hh2, hn, hm, hsz2, ?_⟩⟩
          · have : n' * s ≤ cap * s := Nat.mul_le_mul_right s hn
            simp
            omega
          · rfl

theorem own_not {W : World} {B e s m B' e' s' m' : Nat} {v u : Value} {xs ys : List Value} (h : W.ownsRow B e s v m xs) (h' : W.ownsRow B' e' s' u m' ys) (hne : e ≠ e') : v.ownBlock = none ∨ v.ownBlock ≠ u.ownBlock := by
  cases hv : v.ownBlock with
  | none => exact .inl rfl
  | some g =>
    right
    intro e2
    exact own_kinds h h' hne g e2.symm hv

set_option maxRecDepth 100000 in
set_option maxHeartbeats 1600000 in
theorem markMsg_any (m : Mg) (q a u x : Value) (B : Nat) (w : World) (h : MOwn w B m q a u x) (hB : B ≤ w.heap.size) (s1 : m.qs.length ≤ 1100000) (s2 : m.an.length ≤ 1100000) (s3 : m.au.length ≤ 1100000) (s4 : m.ex.length ≤ 1100000) (s5 : m.qs.length + m.an.length + m.au.length + m.ex.length ≤ 1100000) :
    Calls Try.prog 10 #[.agg (mgV m.hd q a u x), .int .i64 1] w fun e w' => ∃ k : Nat, e = .returned (.int .i64 (k : Int)) ∧ Bq B w w' := by
  have kb := blk_new w (mgV m.hd q a u x) 36
  have hB0 := (Below.refl w.heap.size w).alloc (Nat.le_refl _) (.cells (mgV m.hd q a u x) 36)
  have hB1 : B ≤ (w.alloc (.cells (mgV m.hd q a u x) 36)).heap.size := Nat.le_trans hB hB0.size
  have k1 : Bq B w (w.alloc (.cells (mgV m.hd q a u x) 36)) := Bq.of hB0 hB
  have h1 := h.below hB0
  have hq := markQuestionS_any q m.qs.length B 1 _ _ h1.rq hB1 s1 (by decide)
  have hR := fun (v : Value) (n k : Nat) (hn : n ≤ 1100000) (hk : k ≤ 10000000) W xs (h : W.ownsRow B 74 5 v n xs) (hW : B ≤ W.heap.size) => markRRS_any v n B k xs W h hW hn hk
  have ha := hR a m.an.length (1 + m.qs.length * 3) s2 (by omega)
  have hu := hR u m.au.length (1 + m.qs.length * 3 + m.an.length * 5) s3 (by omega)
  have hx := hR x m.ex.length (1 + m.qs.length * 3 + m.an.length * 5 + m.au.length * 5) s4 (by omega)
  obtain ⟨qa, qc, hq'⟩ := own_sl h.rq
  obtain ⟨aa, ac, ha'⟩ := own_sl h.ra
  obtain ⟨ua, uc, hu'⟩ := own_sl h.ru
  obtain ⟨xa, xc, hx'⟩ := own_sl h.rx
  subst hq' ha' hu' hx'
  clear hR h
  obtain ⟨⟨i0, b1, i2, b3, b4, b5, b6, b7, b8, b9, i10⟩, qs, an, au, ex⟩ := m
  simp only [mgV] at *
  simp only [Int.natCast_add, Int.natCast_mul, Int.cast_ofNat_Int] at hq ha hu hx
  have rr := fun i => blk_cell kb i
  go_enter Try.func10, Try.ntmps10
  go_wp2_with first
    | (
      go_at_call 25
      refine hq.mono ?_
      rintro e w2 ⟨rfl, hr2, hg2⟩
      have m2 := Bq.mark h1.rq hg2 hB1 (.inl rfl)
      have kb2 := m2.blk kb (by decide) (by decide)
      have hB2 : B ≤ w2.heap.size := Nat.le_trans hB1 m2.be.size
      have ra2 := h1.ra.kept hg2 (own_not h1.ra h1.rq (by decide))
      have ru2 := h1.ru.kept hg2 (own_not h1.ru h1.rq (by decide))
      have rx2 := h1.rx.kept hg2 (own_not h1.rx h1.rq (by decide))
      have rr2 := fun i => blk_cell kb2 i)
    | (
      go_at_call 26
      with_reducible refine (ha _ _ ra2 hB2).mono ?_
      rintro e w3 ⟨rfl, hr3, hg3⟩
      obtain ⟨zu, ru3⟩ := own_again (by decide) ra2 hr3 ru2 hg3
      obtain ⟨zx, rx3⟩ := own_again (by decide) ra2 hr3 rx2 hg3
      have m3 := Bq.mark ra2 hg3 hB2 (.inr rfl)
      have kb3 := m3.blk kb2 (by decide) (by decide)
      have hB3 : B ≤ w3.heap.size := Nat.le_trans hB2 m3.be.size
      have rr3 := fun i => blk_cell kb3 i)
    | (
      go_at_call 26
      with_reducible refine (hu _ _ ru3 hB3).mono ?_
      rintro e w4 ⟨rfl, hr4, hg4⟩
      obtain ⟨zx4, rx4⟩ := own_again (by decide) ru3 hr4 rx3 hg4
      have m4 := Bq.mark ru3 hg4 hB3 (.inr rfl)
      have kb4 := m4.blk kb3 (by decide) (by decide)
      have hB4 : B ≤ w4.heap.size := Nat.le_trans hB3 m4.be.size
      have rr4 := fun i => blk_cell kb4 i)
    | (
      go_at_call 26
      with_reducible refine (hx _ _ rx4 hB4).mono ?_
      rintro e w5 ⟨rfl, hr5, hg5⟩)
  have m5 := Bq.mark rx4 hg5 hB4 (.inr rfl)
  go_ret
  exact ⟨1 + qs.length * 3 + an.length * 5 + au.length * 5 + ex.length * 5, by simp, k1.trans (m2.trans (m3.trans (m4.trans m5)))⟩
end Go.Proofs.Ytljcckcdmehipaa
/- laws.eqByteS, markByteS, heldByteS by their contracts. -/
namespace Go.Proofs.Ytljcckcdmehipaa
open Go.RowKit
set_option linter.unusedVariables false

set_option maxRecDepth 100000 in
set_option maxHeartbeats 800000 in
theorem eqBy_any (v u : Value) (l : List UInt8) (w : World) (h : CRow w v l.length 1 (Nm.bys l)) (h' : CRow w u l.length 1 (Nm.bys l)) :
    Calls Try.prog 8 #[v, u] w fun e w' => e = .returned (.bool true) ∧ Below w.heap.size w w' := by
  obtain ⟨_, a, cap, rfl, hcap, hmx, hc⟩ := h
  obtain ⟨_, a', cap', rfl, hcap', hmx', hc'⟩ := h'
  unfold maxLen at hmx
  have hne : ((l.length : Int) != (l.length : Int)) = false := by simp
  go_enter Try.func8, Try.ntmps8
  go_wp2
  go_loopw [5] (fun i wr => ∃ k : Nat, k ≤ l.length ∧ i = .int .i64 k ∧ Below w.heap.size w wr) (fun i _ => l.length - (intOf i).toNat)
  case atStart => exact ⟨0, Nat.zero_le _, rfl, Below.refl _ _⟩
  case round =>
    obtain ⟨k, hk, rfl, hbel⟩ := hrel
    by_cases hlt : k < l.length
    · obtain ⟨x, hx⟩ : ∃ x, l[k]? = some x := ⟨_, List.getElem?_eq_getElem hlt⟩
      have hx' : (Nm.bys l)[k]? = some (.int .u8 x.toNat) := by simp [Nm.bys, hx]
      obtain ⟨b, off, rfl, hcell⟩ := hc (by omega)
      obtain ⟨b', off', rfl, hcell'⟩ := hc' (by omega)
      have hcx : wr.cell? ⟨b, off + k, none⟩ = some (.int .u8 x.toNat) := (hbel.cell (World.block_lt_of_cell? w _ (hcell k _ hx'))).trans (hcell k _ hx')
      have hcx' : wr.cell? ⟨b', off' + k, none⟩ = some (.int .u8 x.toNat) := (hbel.cell (World.block_lt_of_cell? w _ (hcell' k _ hx'))).trans (hcell' k _ hx')
      have hxx : ((x.toNat : Int) != (x.toNat : Int)) = false := by simp
      have i1 : (k : Int) < (l.length : Int) := by omega
      clear hx hx' hcell hcell' hc hc'
      go_wp2
      go_region
      all_goals
        go_wp2
        go_roundw
        case rel => exact ⟨k + 1, by omega, by go_num, hbel.drew⟩
        case measure => simp [intOf]; omega
    · obtain rfl : k = l.length := by omega
      have i1 : (l.length : Int) ≤ (l.length : Int) := by omega
      clear hc hc'
      go_wp2
      go_ret
      exact ⟨rfl, hbel⟩

/-- The marks: 1, 2, .. as bytes. -/
def bmk (n : Nat) : List Value := (List.range n).map fun i : Nat => .int .u8 ((1 + (i : Int)) % 256)
theorem bmk_len (n : Nat) : (bmk n).length = n := by simp [bmk]
theorem bmk_get {n i : Nat} (h : i < n) : (bmk n)[i]? = some (.int .u8 ((1 + (i : Int)) % 256)) := by simp [bmk, h]
theorem take_set {L xs : List Value} {n i : Nat} {v : Value} (hL : L.length = n) (hx : xs.length = n) (hi : i < n) (hv : L[i]? = some v) : (L.take i ++ xs.drop i).set i v = L.take (i + 1) ++ xs.drop (i + 1) := by
  have h1 : (L.take i).length = i := by simp; omega
  obtain ⟨h2, e2⟩ := List.getElem?_eq_some_iff.1 hv
  rw [List.take_succ_eq_append_getElem h2, e2, List.set_append_right _ _ (by omega), h1, List.drop_eq_getElem_cons (by omega : i < xs.length), Nat.sub_self, List.set_cons_zero, List.append_assoc]
  rfl

set_option maxRecDepth 100000 in
set_option maxHeartbeats 1600000 in
theorem markBy_any (v : Value) (n B : Nat) (xs : List Value) (w : World) (hown : w.ownsRow B 5 1 v n xs) (hn : n ≤ 1048576) :
    Calls Try.prog 11 #[v, .int .i64 1] w fun e w' => e = .returned (.int .i64 (1 + (n : Int))) ∧ w'.ownsRow B 5 1 v n (bmk n) ∧ w.grownBy w' v.ownBlock := by
  have hxl : xs.length = n := by have := hown.1; omega
  rcases Nat.eq_zero_or_pos n with h0 | hpos
  · subst h0
    obtain ⟨a, cap, rfl⟩ : ∃ a cap, v = .slice a 0 cap := by
      rcases hown.2 with ⟨rfl, _⟩ | ⟨g, cap, cur, rfl, _⟩
      · exact ⟨_, _, rfl⟩
      · exact ⟨_, _, rfl⟩
    have hx0 : xs = bmk 0 := List.eq_nil_of_length_eq_zero hxl
    rw [hx0] at hown
    go_enter Try.func11, Try.ntmps11
    go_wp2
    go_loop [1, 5] (fun t i => t = .int .i64 1 ∧ i = .int .i64 0) (fun _ _ => 0)
    case atStart => exact ⟨rfl, rfl⟩
    case round =>
      obtain ⟨rfl, rfl⟩ := hrel
      go_wp2
      go_ret
      exact ⟨rfl, hown, World.grownBy.refl _ _⟩
  · obtain ⟨g, cap, rfl, hBg⟩ : ∃ g cap, v = .slice (some ⟨g, 0, none⟩) n cap ∧ B ≤ g := by
      rcases hown.2 with ⟨rfl, h0⟩ | ⟨g, cap, cur, rfl, hb, _⟩
      · omega
      · exact ⟨g, cap, rfl, hb⟩
    have hown0 : w.ownsRow B 5 1 (.slice (some ⟨g, 0, none⟩) n cap) n ((bmk n).take 0 ++ xs.drop 0) := by simpa using hown
    go_enter Try.func11, Try.ntmps11
    go_wp2
    go_loopw [1, 5] (fun t i wr => ∃ (j : Nat), j ≤ n ∧ i = .int .i64 (j : Int) ∧ t = .int .i64 (1 + (j : Int)) ∧ wr.ownsRow B 5 1 (.slice (some ⟨g, 0, none⟩) n cap) n ((bmk n).take j ++ xs.drop j) ∧ w.grownBy wr (some g))
      (fun _ i _ => n - (intOf i).toNat)
    case atStart => exact ⟨0, Nat.zero_le _, rfl, rfl, hown0, World.grownBy.refl _ _⟩
    case round =>
      obtain ⟨j, hj, rfl, rfl, hownj, hgr⟩ := hrel
      clear hown hown0
      by_cases hlt : j < n
      · have hyl : ((bmk n).take j ++ xs.drop j).length = n := by have := hownj.1; omega
        obtain ⟨y, hy⟩ : ∃ y, wr.cell? ⟨g, j, none⟩ = some y := by
          rw [hownj.cellAt j (by omega)]
          exact ⟨_, List.getElem?_eq_getElem (by omega)⟩
        have hfz := hownj.frozenAt j
        have HS : Hid ((wr.setCell ⟨g, j, none⟩ (.int .u8 ((1 + (j : Int)) % 256))).ownsRow B 5 1 (.slice (some ⟨g, 0, none⟩) n cap) n ((bmk n).take (j + 1) ++ xs.drop (j + 1)) ∧ w.grownBy (wr.setCell ⟨g, j, none⟩ (.int .u8 ((1 + (j : Int)) % 256))) (some g)) := by
          refine ⟨?_, ⟨hgr.os, hgr.tape, hgr.output, by simpa using hgr.size, fun q hq hne => by rw [heap_setCell_other wr ⟨g, j, none⟩ q _ (fun e => hne (by simp [e]))]; exact hgr.block q hq hne⟩⟩
          have := (hownj.stored j (.int .u8 ((1 + (j : Int)) % 256))).1
          rwa [take_set (bmk_len n) hxl hlt (bmk_get hlt)] at this
        have i1 : (j : Int) < (n : Int) := by omega
        have e9 : 1 + (j : Int) + 1 = 1 + ((j : Int) + 1) := by omega
        clear hownj hgr hyl
        go_wp2
        go_roundw
        case rel => exact ⟨j + 1, by omega, by go_num, by go_num, HS.out.1, HS.out.2⟩
        case measure => simp [intOf]; omega
      · obtain rfl : j = n := by omega
        have i1 : (j : Int) ≤ (j : Int) := by omega
        rw [List.take_of_length_le (by rw [bmk_len]; omega), List.drop_of_length_le (by omega), List.append_nil] at hownj
        go_wp2
        go_ret
        exact ⟨rfl, hownj, hgr⟩

set_option maxRecDepth 100000 in
set_option maxHeartbeats 1600000 in
theorem heldBy_any (v : Value) (n : Nat) (w : World) (h : CRow w v n 1 (bmk n)) (hn : n ≤ 1048576) :
    Calls Try.prog 12 #[v, .int .i64 1] w fun e w' => e = .returned (.int .i64 (1 + (n : Int))) ∧ Below w.heap.size w w' := by
  obtain ⟨_, a, cap, rfl, hcap, hmx, hc⟩ := h
  unfold maxLen at hmx
  go_enter Try.func12, Try.ntmps12
  go_wp2
  go_loopw [1, 5] (fun t i wr => ∃ k : Nat, k ≤ n ∧ i = .int .i64 k ∧ t = .int .i64 (1 + (k : Int)) ∧ Below w.heap.size w wr) (fun _ i _ => n - (intOf i).toNat)
  case atStart => exact ⟨0, Nat.zero_le _, rfl, rfl, Below.refl _ _⟩
  case round =>
    obtain ⟨k, hk, rfl, rfl, hbel⟩ := hrel
    by_cases hlt : k < n
    · obtain ⟨b, off, rfl, hcell⟩ := hc (by omega)
      have hcx := (hbel.cell (World.block_lt_of_cell? w _ (hcell k _ (bmk_get hlt)))).trans (hcell k _ (bmk_get hlt))
      have hxx : ((1 + (k : Int)) % 256 != (1 + (k : Int)) % 256) = false := by simp
      have i1 : (k : Int) < (n : Int) := by omega
      clear hcell hc
      go_wp2
      go_roundw
      case rel => exact ⟨k + 1, by omega, by go_num, by go_num, hbel⟩
      case measure => simp [intOf]; omega
    · obtain rfl : k = n := by omega
      have i1 : (k : Int) ≤ (k : Int) := by omega
      clear hc
      go_wp2
      go_ret
      exact ⟨rfl, hbel⟩
end Go.Proofs.Ytljcckcdmehipaa
/- laws.szQuestion, szQuestionS, toQuestion, toQuestionS by their contracts. -/
namespace Go.Proofs.Ytljcckcdmehipaa
open Go.RowKit
set_option linter.unusedVariables false

def szQ (r : Qr) (L : Int) : Int := if (r.nm.size : Int) ≤ L then L - r.nm.size else -1

set_option maxRecDepth 100000 in
set_option maxHeartbeats 800000 in
theorem szQuestion_any (r : Qr) (L : Int) (w : World) (h0 : 0 ≤ L) (h1 : L ≤ 1048576) (ho : r.nm.size ≤ maxLen) :
    Calls Try.prog 27 #[.agg #[.string r.nm, .int .i64 r.ty, .int .i64 r.cl], .int .i64 L] w fun e w' => e = .returned (.int .i64 (szQ r L)) ∧ Below w.heap.size w w' := by
  unfold maxLen at ho
  obtain ⟨o, ty, cl⟩ := r
  simp only at ho
  have hB := (Below.refl w.heap.size w).alloc (Nat.le_refl _) (.cells #[.string o, .int .i64 ty, .int .i64 cl] 57)
  by_cases hm : L - o.size < 0
  · have HS : Hid (szQ ⟨o, ty, cl⟩ L = -1) := if_neg (by simp only; omega)
    go_enter Try.func27, Try.ntmps27
    go_wp2
    go_ret
    rw [HS.out]
    exact ⟨rfl, hB⟩
  · have hm' : 0 ≤ L - o.size := by omega
    have HS : Hid (szQ ⟨o, ty, cl⟩ L = L - o.size) := if_pos (by simp only; omega)
    go_enter Try.func27, Try.ntmps27
    go_wp2
    go_ret
    rw [HS.out]
    exact ⟨rfl, hB⟩

set_option maxRecDepth 100000 in
set_option maxHeartbeats 1600000 in
theorem szQuestionS_any (v : Value) (xs : List Qr) (L : Int) (w : World) (h : CRow w v xs.length 3 (qvVs xs)) (hx : ∀ r ∈ xs, r.nm.size ≤ maxLen) (h0 : 0 ≤ L) (h1 : L ≤ 1048576) :
    Calls Try.prog 13 #[v, .int .i64 L] w fun e w' => e = .returned (.int .i64 (szQS xs L)) ∧ Below w.heap.size w w' := by
  obtain ⟨_, a, cap, rfl, hcap, hmx, hc⟩ := h
  unfold maxLen at hmx
  by_cases hm : L < xs.length
  · have HS : Hid (szQS xs L = -1) := if_neg (by omega)
    have hm' : L - (xs.length : Int) < 0 := by omega
    clear hx hc
    go_enter Try.func13, Try.ntmps13
    go_wp2
    go_ret
    rw [HS.out]
    exact ⟨rfl, Below.refl _ _⟩
  · have hl : (xs.length : Int) ≤ 1048576 := by omega
    have hm' : (0 : Int) ≤ L - (xs.length : Int) := by omega
    have hsz := fun (r : Qr) (hr : r ∈ xs) (K : Int) (W : World) (h0 : 0 ≤ K) (h1 : K ≤ 1048576) => szQuestion_any r K W h0 h1 (hx r hr)
    go_enter Try.func13, Try.ntmps13
    go_wp2
    go_loopw [1, 5] (fun t i wr => ∃ k : Nat, k ≤ xs.length ∧ i = .int .i64 k ∧ t = .int .i64 (L - xs.length - qsum (xs.take k)) ∧ Hid ((xs.length : Int) + qsum (xs.take k) ≤ L) ∧ Below w.heap.size w wr) (fun _ i _ => xs.length - (intOf i).toNat)
    case atStart => exact ⟨0, Nat.zero_le _, rfl, by simp [qsum], by show _ ≤ L; simp [qsum]; omega, Below.refl _ _⟩
    case round =>
      obtain ⟨k, hk, rfl, rfl, hle, hbel⟩ := hrel
      by_cases hlt : k < xs.length
      · obtain ⟨x, hxk⟩ : ∃ x, xs[k]? = some x := ⟨_, List.getElem?_eq_getElem hlt⟩
        obtain ⟨b, off, rfl, hcell⟩ := hc (by omega)
        obtain ⟨c0, c1, c2⟩ := qv_cells hcell hxk
        have put : ∀ {O : Nat} {z : Value}, w.cell? ⟨b, O, none⟩ = some z → wr.cell? ⟨b, O, none⟩ = some z := fun h => (hbel.cell (World.block_lt_of_cell? w _ h)).trans h
        replace c0 := put c0
        replace c1 := put c1
        replace c2 := put c2
        have HS : Hid (qsum (xs.take (k + 1)) = qsum (xs.take k) + x.nm.size) := qsum_step xs k x hxk
        have hs1 : Hid (qsum (xs.take (k + 1)) ≤ qsum xs) := qsum_take_le xs (k + 1)
        have hone := hsz x (List.mem_of_getElem? hxk) (L - xs.length - qsum (xs.take k)) wr (by have := hle.out; omega) (by omega)
        have i1 : (0 : Int) ≤ (k : Int) := by omega
        have i2 : (k : Int) < (xs.length : Int) := by omega
        by_cases hb : (x.nm.size : Int) ≤ L - xs.length - qsum (xs.take k)
        · have e1 : szQ x (L - xs.length - qsum (xs.take k)) = L - xs.length - qsum (xs.take (k + 1)) := by
            have := HS.out
            rw [szQ, if_pos hb]; omega
          have hnn : 0 ≤ L - (xs.length : Int) - qsum (xs.take (k + 1)) := by have := HS.out; omega
          have hle2 : Hid ((xs.length : Int) + qsum (xs.take (k + 1)) ≤ L) := by show _ ≤ L; omega
          rw [e1] at hone
          clear hxk hcell hc hx hsz HS hb e1 hs1
          generalize hL2 : (L - (xs.length : Int) - (qsum (xs.take (k + 1)) : Int)) = L2 at *
          generalize (L - (xs.length : Int) - (qsum (xs.take k) : Int)) = L1 at *
          go_wp2_with (go_at_call 27; refine hone.mono ?_; rintro e w1 ⟨rfl, hb1⟩)
          go_roundw
          case rel => exact ⟨k + 1, by omega, by go_num, by rw [hL2], hle2, Nm.below_two hbel hb1⟩
          case measure => simp [intOf]; omega
        · have HZ : Hid (szQS xs L = -1) := if_neg (by have := HS.out; have := hs1.out; omega)
          have e1 : szQ x (L - xs.length - qsum (xs.take k)) = -1 := if_neg hb
          rw [e1] at hone
          clear hxk hcell hc hx hsz HS hb e1 hs1
          generalize (L - (xs.length : Int) - (qsum (xs.take k) : Int)) = L1 at *
          go_wp2_with (go_at_call 27; refine hone.mono ?_; rintro e w1 ⟨rfl, hb1⟩)
          go_ret
          rw [HZ.out]
          exact ⟨rfl, Nm.below_two hbel hb1⟩
      · have hkl : k = xs.length := by omega
        have HZ : Hid (szQS xs L = L - xs.length - qsum (xs.take k)) := by
          have := hle.out
          rw [hkl, List.take_length] at this ⊢
          exact if_pos this
        have i2 : (xs.length : Int) ≤ (k : Int) := by omega
        clear hc hx hsz
        generalize (L - (xs.length : Int) - (qsum (xs.take k) : Int)) = L1 at *
        go_wp2
        go_ret
        rw [HZ.out]
        exact ⟨rfl, hbel⟩

set_option maxRecDepth 100000 in
set_option maxHeartbeats 1600000 in
theorem toQuestion_any (r : Qr) (w : World) :
    Calls Try.prog 36 #[.agg #[.string r.nm, .int .i64 r.ty, .int .i64 r.cl]] w fun e w' => e = .returned (.agg #[.string r.nm, .int .i64 r.ty, .int .i64 r.cl]) ∧ Below w.heap.size w w' := by
  obtain ⟨o, ty, cl⟩ := r
  go_enter Try.func36, Try.ntmps36
  go_wp2
  refine bodyPost_ret (v := .agg #[.string o, .int .i64 ty, .int .i64 cl]) ?_ rfl ⟨rfl, ?_⟩
  · simp [results, Try.results36, go_sem, Result.andThen]
  · exact (((Below.refl _ _).alloc (Nat.le_refl _) _).alloc (by simp) _).alloc (by simp; omega) _

theorem set3 {cs : List Value} {k : Nat} {A : List Value} (a b c : Value) (hl : k * 3 + 3 ≤ cs.length) (h : cs.take (k * 3) = A) :
    (((cs.set (k * 3) a).set (k * 3 + 1) b).set (k * 3 + 2) c).take ((k + 1) * 3) = A ++ [a, b, c] := by
  have hs : cs = cs.take (k * 3) ++ cs.drop (k * 3) := (List.take_append_drop _ _).symm
  have hdl : 3 ≤ (cs.drop (k * 3)).length := by simp; omega
  have hpl : (cs.take (k * 3)).length = k * 3 := by simp; omega
  rw [h] at hs hpl
  obtain ⟨q, hq⟩ : ∃ q, q = cs.drop (k * 3) := ⟨_, rfl⟩
  rw [← hq] at hs hdl
  match q, hdl with
  | y0 :: y1 :: y2 :: r, _ =>
    rw [hs]
    simp only [List.set_append, hpl, Nat.lt_irrefl, if_false, Nat.sub_self, show ¬ (k * 3 + 1 < k * 3) by omega, show ¬ (k * 3 + 2 < k * 3) by omega, Nat.add_sub_cancel_left]
    simp only [List.set_cons_zero, List.set_cons_succ]
    rw [List.take_append, hpl, show (k + 1) * 3 - k * 3 = 3 by omega, List.take_of_length_le (by omega)]
    rfl

theorem Try.infoQrz : (Try.prog.info? 62).map (fun i => (i.zero, i.size, i.bytes)) = some (some (.agg #[.string ByteArray.empty, .int .i64 0, .int .i64 0]), 3, 32) := by kernel_rfl

theorem three_at {w : World} {B e g n cap k : Nat} {cs : List Value} (h : w.ownsRow B e 3 (.slice (some ⟨g, 0, none⟩) n cap) n cs) (hk : k < n) (j : Nat) (hj : j < 3) : ∃ y, w.cell? ⟨g, k * 3 + j, none⟩ = some y := by
  rw [h.cellAt (k * 3 + j) (by omega)]
  have := h.1
  exact ⟨_, List.getElem?_eq_getElem (by omega)⟩

set_option maxRecDepth 100000 in
set_option maxHeartbeats 1600000 in
theorem toQuestionS_any (v : Value) (xs : List Qr) (w : World) (h : CRow w v xs.length 3 (qvVs xs)) (hlen : xs.length ≤ 1048576) :
    Calls Try.prog 18 #[v] w fun e w' => ∃ u, e = .returned u ∧ w'.ownsRow w.heap.size 62 3 u xs.length (qvVs xs) ∧ Below w.heap.size w w' := by
  obtain ⟨i0, hi, hz0, hz1, hz2⟩ := info_parts Try.infoQrz
  obtain ⟨_, a, cap, rfl, hcap, hmx, hc⟩ := h
  unfold maxLen at hmx
  have hto := fun (r : Qr) W => toQuestion_any r W
  go_enter Try.func18, Try.ntmps18
  go_wp2_with (at_make; refine wpList_make_full _ rfl (.tmp 6) (.tmp 6) 33 rfl w.heap.size 62 i0 _ 3 Try.underlying33 hi hz0 hz1 .i64 .i64 _ _ xs.length rfl rfl rfl rfl (by rw [hz2]; omega) (by unfold maxLen; omega) (Nat.le_refl _) ?_; intro w2 hown0 hgrow0)
  generalize hcs0 : (madeCells (Value.agg #[.string ByteArray.empty, .int .i64 0, .int .i64 0]).cells (xs.length * 3)).toList = cs0 at hown0
  clear hcs0
  go_loopw [4] (fun i wr => ∃ (k : Nat) (cs : List Value), k ≤ xs.length ∧ i = .int .i64 k ∧ wr.ownsRow w.heap.size 62 3 (.slice (some ⟨w.heap.size, 0, none⟩) xs.length xs.length) xs.length cs ∧ Hid (cs.take (k * 3) = qvVs (xs.take k)) ∧ Below w.heap.size w wr)
    (fun i _ => xs.length - (intOf i).toNat)
  case atStart => exact ⟨0, cs0, Nat.zero_le _, rfl, hown0, by show _ = _; simp [qvVs], (Below.refl _ w).grown hgrow0 (Nat.le_refl _) (fun k hk => by cases hk)⟩
  case round =>
    obtain ⟨k, cs, hk, rfl, hown, HT, hbel⟩ := hrel
    clear hown0 hgrow0
    by_cases hlt : k < xs.length
    · obtain ⟨x, hx⟩ : ∃ x, xs[k]? = some x := ⟨_, List.getElem?_eq_getElem hlt⟩
      obtain ⟨b, off, rfl, hcell⟩ := hc (by omega)
      obtain ⟨c0, c1, c2⟩ := qv_cells hcell hx
      have put : ∀ {O : Nat} {z : Value}, w.cell? ⟨b, O, none⟩ = some z → wr.cell? ⟨b, O, none⟩ = some z := fun h => (hbel.cell (World.block_lt_of_cell? w _ h)).trans h
      replace c0 := put c0
      replace c1 := put c1
      replace c2 := put c2
      have i1 : (0 : Int) ≤ (k : Int) := by omega
      have i2 : (k : Int) < (xs.length : Int) := by omega
      have hset := set3 (.string x.nm) (.int .i64 x.ty) (.int .i64 x.cl) (by have := hown.1; omega) HT.out
      have HT2 : Hid ((((cs.set (k * 3) (.string x.nm)).set (k * 3 + 1) (.int .i64 x.ty)).set (k * 3 + 2) (.int .i64 x.cl)).take ((k + 1) * 3) = qvVs (xs.take (k + 1))) := by
        show _ = _
        rw [hset, List.take_add_one, hx, qvVs_app]
        rfl
      clear hcell hc hset HT
      obtain ⟨o, ty, cl⟩ := x
      simp only at c0 c1 c2 HT2
      have hone := hto ⟨o, ty, cl⟩ wr
      simp only at hone
      clear hto hx
      go_wp2_with (go_at_call 36; refine hone.mono ?_; rintro e w1 ⟨rfl, hb1⟩; have ho1 := own_below hown hb1; obtain ⟨y0, hy0⟩ := three_at ho1 hlt 0 (by decide); obtain ⟨y1, hy1⟩ := three_at ho1 hlt 1 (by decide); obtain ⟨y2, hy2⟩ := three_at ho1 hlt 2 (by decide); rw [Nat.add_zero] at hy0; have fz := ho1.frozenAt; clear hone)
      go_roundw
      case rel => exact ⟨k + 1, _, by omega, by go_num, (((ho1.stored (k * 3) _).1.stored (k * 3 + 1) _).1.stored (k * 3 + 2) _).1, HT2, (((Nm.below_two hbel hb1).setCell (Nat.le_refl _) _).setCell (Nat.le_refl _) _).setCell (Nat.le_refl _) _⟩
      case measure => simp [intOf]; omega
    · have hkl : k = xs.length := by omega
      have hcs : cs = qvVs xs := by
        have e := HT.out
        have hl := hown.1
        rw [hkl, List.take_length, List.take_of_length_le (by omega)] at e
        exact e
      subst hcs
      have i2 : (xs.length : Int) ≤ (k : Int) := by omega
      clear hc hlt HT hto
      go_wp2
      go_ret
      exact ⟨_, rfl, hown, hbel⟩
end Go.Proofs.Ytljcckcdmehipaa
