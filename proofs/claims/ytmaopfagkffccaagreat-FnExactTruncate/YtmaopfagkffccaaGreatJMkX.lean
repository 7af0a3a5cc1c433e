import Derived.Test.YtmaopfagkffccaaGreatJMkG
import Derived.Test.YtmaopfagkffccaaGreatJCrI
import Derived.RegionTactic
import Derived.BigRegion
/- laws.markMessage: blocks beyond its lists' are as they were. -/
namespace Go.Proofs.YtmaopfagkffccaaGreat
open Go.RowKit
set_option linter.unusedVariables false

set_option maxRecDepth 100000 in
set_option maxHeartbeats 1600000 in
theorem markMsgX_any (m : Mg) (q a u x : Value) (B : Nat) (w : World) (h : MOwn w B m q a u x) (hB : B ≤ w.heap.size) (s1 : m.qs.length ≤ 1100000) (s2 : m.an.length ≤ 1100000) (s3 : m.au.length ≤ 1100000) (s4 : m.ex.length ≤ 1100000) (s5 : m.qs.length + m.an.length + m.au.length + m.ex.length ≤ 1100000) (N : Nat) (nq : ∀ g, q.ownBlock = some g → g < N) (na : ∀ g, a.ownBlock = some g → g < N) (nu : ∀ g, u.ownBlock = some g → g < N) (nx : ∀ g, x.ownBlock = some g → g < N) :
    Calls Tryz.prog 9 #[.agg (mgV m.hd q a u x), .int .i64 1] w fun e w' => ∃ k : Nat, e = .returned (.int .i64 (k : Int)) ∧ Bq B w w' ∧ ∀ k, N ≤ k → k < w.heap.size → w'.heap[k]? = w.heap[k]? := by
  have kb := blk_new w (mgV m.hd q a u x) 33
  have hB0 := (Below.refl w.heap.size w).alloc (Nat.le_refl _) (.cells (mgV m.hd q a u x) 33)
  have hB1 : B ≤ (w.alloc (.cells (mgV m.hd q a u x) 33)).heap.size := Nat.le_trans hB hB0.size
  have k1 : Bq B w (w.alloc (.cells (mgV m.hd q a u x) 33)) := Bq.of hB0 hB
  have h1 := h.below hB0
  have hq := markQuestionS_any q m.qs.length B 1 _ _ h1.rq hB1 s1 (by decide)
  have hR := fun (v : Value) (n k : Nat) (hn : n ≤ 1100000) (hk : k ≤ 10000000) W xs (h : W.ownsRow B 72 5 v n xs) (hW : B ≤ W.heap.size) => markRRS_any v n B k xs W h hW hn hk
  have ha := hR a m.an.length (1 + m.qs.length * 3) s2 (by omega)
  have hu := hR u m.au.length (1 + m.qs.length * 3 + m.an.length * 5) s3 (by omega)
  have hx := hR x m.ex.length (1 + m.qs.length * 3 + m.an.length * 5 + m.au.length * 5) s4 (by omega)
  obtain ⟨qa, qc, hq'⟩ := own_sl h.rq
  obtain ⟨aa, ac, ha'⟩ := own_sl h.ra
  obtain ⟨ua, uc, hu'⟩ := own_sl h.ru
  obtain ⟨xa, xc, hx'⟩ := own_sl h.rx
  subst hq' ha' hu' hx'
  clear hR h
  obtain ⟨⟨i0, b1, i2, b3, b4, b5, b6, b7, b8, b9, i10⟩, qs, an, au, ex⟩ := m
  simp only [mgV] at *
  simp only [Int.natCast_add, Int.natCast_mul, Int.cast_ofNat_Int] at hq ha hu hx
  have rr := fun i => blk_cell kb i
  go_enter Tryz.func9, Tryz.ntmps9
  go_wp2_with first
    | (
      go_at_call 26
      refine hq.mono ?_
      rintro e w2 ⟨rfl, hr2, hg2⟩
      have m2 := Bq.mark h1.rq hg2 hB1 (.inl rfl)
      have kb2 := m2.blk kb (by decide) (by decide)
      have hB2 : B ≤ w2.heap.size := Nat.le_trans hB1 m2.be.size
      have ra2 := h1.ra.kept hg2 (own_not h1.ra h1.rq (by decide))
      have ru2 := h1.ru.kept hg2 (own_not h1.ru h1.rq (by decide))
      have rx2 := h1.rx.kept hg2 (own_not h1.rx h1.rq (by decide))
      have rr2 := fun i => blk_cell kb2 i)
    | (
      go_at_call 27
      with_reducible refine (ha _ _ ra2 hB2).mono ?_
      rintro e w3 ⟨rfl, hr3, hg3⟩
      obtain ⟨zu, ru3⟩ := own_again (by decide) ra2 hr3 ru2 hg3
      obtain ⟨zx, rx3⟩ := own_again (by decide) ra2 hr3 rx2 hg3
      have m3 := Bq.mark ra2 hg3 hB2 (.inr rfl)
      have kb3 := m3.blk kb2 (by decide) (by decide)
      have hB3 : B ≤ w3.heap.size := Nat.le_trans hB2 m3.be.size
      have rr3 := fun i => blk_cell kb3 i)
    | (
      go_at_call 27
      with_reducible refine (hu _ _ ru3 hB3).mono ?_
      rintro e w4 ⟨rfl, hr4, hg4⟩
      obtain ⟨zx4, rx4⟩ := own_again (by decide) ru3 hr4 rx3 hg4
      have m4 := Bq.mark ru3 hg4 hB3 (.inr rfl)
      have kb4 := m4.blk kb3 (by decide) (by decide)
      have hB4 : B ≤ w4.heap.size := Nat.le_trans hB3 m4.be.size
      have rr4 := fun i => blk_cell kb4 i)
    | (
      go_at_call 27
      with_reducible refine (hx _ _ rx4 hB4).mono ?_
      rintro e w5 ⟨rfl, hr5, hg5⟩)
  have m5 := Bq.mark rx4 hg5 hB4 (.inr rfl)
  have keep : ∀ k, N ≤ k → k < w.heap.size → w5.heap[k]? = w.heap[k]? := by
    intro k h1 h2
    have z1 := hB0.size
    have z2 := hg2.size
    have z3 := hg3.size
    have z4 := hg4.size
    have t1 := hB0.block k h2
    have t2 := hg2.block k (by omega) (fun e => by have := nq k e.symm; omega)
    have t3 := hg3.block k (by omega) (fun e => by have := na k e.symm; omega)
    have t4 := hg4.block k (by omega) (fun e => by have := nu k e.symm; omega)
    have t5 := hg5.block k (by omega) (fun e => by have := nx k e.symm; omega)
    rw [t5, t4, t3, t2, t1]
  go_ret
  exact ⟨1 + qs.length * 3 + an.length * 5 + au.length * 5 + ex.length * 5, by simp, k1.trans (m2.trans (m3.trans (m4.trans m5))), keep⟩
end Go.Proofs.YtmaopfagkffccaaGreat
/- laws.szQuestion, szQuestionS, toQuestion, toQuestionS by their contracts. -/
namespace Go.Proofs.YtmaopfagkffccaaGreat
open Go.RowKit
set_option linter.unusedVariables false

def szQ (r : Qr) (L : Int) : Int := if (r.nm.size : Int) ≤ L then L - r.nm.size else -1

set_option maxRecDepth 100000 in
set_option maxHeartbeats 800000 in
theorem szQuestion_any (r : Qr) (L : Int) (w : World) (h0 : 0 ≤ L) (h1 : L ≤ 1048576) (ho : r.nm.size ≤ maxLen) :
    Calls Tryz.prog 30 #[.agg #[.string r.nm, .int .i64 r.ty, .int .i64 r.cl], .int .i64 L] w fun e w' => e = .returned (.int .i64 (szQ r L)) ∧ Below w.heap.size w w' := by
  unfold maxLen at ho
  obtain ⟨o, ty, cl⟩ := r
  simp only at ho
  have hB := (Below.refl w.heap.size w).alloc (Nat.le_refl _) (.cells #[.string o, .int .i64 ty, .int .i64 cl] 58)
  by_cases hm : L - o.size < 0
  · have HS : Hid (szQ ⟨o, ty, cl⟩ L = -1) := if_neg (by simp only; omega)
    go_enter Tryz.func30, Tryz.ntmps30
    go_wp2
    go_ret
    rw [HS.out]
    exact ⟨rfl, hB⟩
  · have hm' : 0 ≤ L - o.size := by omega
    have HS : Hid (szQ ⟨o, ty, cl⟩ L = L - o.size) := if_pos (by simp only; omega)
    go_enter Tryz.func30, Tryz.ntmps30
    go_wp2
    go_ret
    rw [HS.out]
    exact ⟨rfl, hB⟩

set_option maxRecDepth 100000 in
set_option maxHeartbeats 1600000 in
theorem szQuestionS_any (v : Value) (xs : List Qr) (L : Int) (w : World) (h : CRow w v xs.length 3 (qvVs xs)) (hx : ∀ r ∈ xs, r.nm.size ≤ maxLen) (h0 : 0 ≤ L) (h1 : L ≤ 1048576) :
    Calls Tryz.prog 11 #[v, .int .i64 L] w fun e w' => e = .returned (.int .i64 (szQS xs L)) ∧ Below w.heap.size w w' := by
  obtain ⟨_, a, cap, rfl, hcap, hmx, hc⟩ := h
  unfold maxLen at hmx
  by_cases hm : L < xs.length
  · have HS : Hid (szQS xs L = -1) := if_neg (by omega)
    have hm' : L - (xs.length : Int) < 0 := by omega
    clear hx hc
    go_enter Tryz.func11, Tryz.ntmps11
    go_wp2
    go_ret
    rw [HS.out]
    exact ⟨rfl, Below.refl _ _⟩
  · have hl : (xs.length : Int) ≤ 1048576 := by omega
    have hm' : (0 : Int) ≤ L - (xs.length : Int) := by omega
    have hsz := fun (r : Qr) (hr : r ∈ xs) (K : Int) (W : World) (h0 : 0 ≤ K) (h1 : K ≤ 1048576) => szQuestion_any r K W h0 h1 (hx r hr)
    go_enter Tryz.func11, Tryz.ntmps11
    go_wp2
    go_loopw [1, 5] (fun t i wr => ∃ k : Nat, k ≤ xs.length ∧ i = .int .i64 k ∧ t = .int .i64 (L - xs.length - qsum (xs.take k)) ∧ Hid ((xs.length : Int) + qsum (xs.take k) ≤ L) ∧ Below w.heap.size w wr) (fun _ i _ => xs.length - (intOf i).toNat)
    case atStart => exact ⟨0, Nat.zero_le _, rfl, by simp [qsum], by show _ ≤ L; simp [qsum]; omega, Below.refl _ _⟩
    case round =>
      obtain ⟨k, hk, rfl, rfl, hle, hbel⟩ := hrel
      by_cases hlt : k < xs.length
      · obtain ⟨x, hxk⟩ : ∃ x, xs[k]? = some x := ⟨_, List.getElem?_eq_getElem hlt⟩
        obtain ⟨b, off, rfl, hcell⟩ := hc (by omega)
        obtain ⟨c0, c1, c2⟩ := qv_cells hcell hxk
        have put : ∀ {O : Nat} {z : Value}, w.cell? ⟨b, O, none⟩ = some z → wr.cell? ⟨b, O, none⟩ = some z := fun h => (hbel.cell (World.block_lt_of_cell? w _ h)).trans h
        replace c0 := put c0
        replace c1 := put c1
        replace c2 := put c2
        have HS : Hid (qsum (xs.take (k + 1)) = qsum (xs.take k) + x.nm.size) := qsum_step xs k x hxk
        have hs1 : Hid (qsum (xs.take (k + 1)) ≤ qsum xs) := qsum_take_le xs (k + 1)
        have hone := hsz x (List.mem_of_getElem? hxk) (L - xs.length - qsum (xs.take k)) wr (by have := hle.out; omega) (by omega)
        have i1 : (0 : Int) ≤ (k : Int) := by omega
        have i2 : (k : Int) < (xs.length : Int) := by omega
        by_cases hb : (x.nm.size : Int) ≤ L - xs.length - qsum (xs.take k)
        · have e1 : szQ x (L - xs.length - qsum (xs.take k)) = L - xs.length - qsum (xs.take (k + 1)) := by
            have := HS.out
            rw [szQ, if_pos hb]; omega
          have hnn : 0 ≤ L - (xs.length : Int) - qsum (xs.take (k + 1)) := by have := HS.out; omega
          have hle2 : Hid ((xs.length : Int) + qsum (xs.take (k + 1)) ≤ L) := by show _ ≤ L; omega
          rw [e1] at hone
          clear hxk hcell hc hx hsz HS hb e1 hs1
          generalize hL2 : (L - (xs.length : Int) - (qsum (xs.take (k + 1)) : Int)) = L2 at *
          generalize (L - (xs.length : Int) - (qsum (xs.take k) : Int)) = L1 at *
          go_wp2_with (go_at_call 30; refine hone.mono ?_; rintro e w1 ⟨rfl, hb1⟩)
          go_roundw
          case rel => exact ⟨k + 1, by omega, by go_num, by rw [hL2], hle2, Nm.below_two hbel hb1⟩
          case measure => simp [intOf]; omega
        · have HZ : Hid (szQS xs L = -1) := if_neg (by have := HS.out; have := hs1.out; omega)
          have e1 : szQ x (L - xs.length - qsum (xs.take k)) = -1 := if_neg hb
          rw [e1] at hone
          clear hxk hcell hc hx hsz HS hb e1 hs1
          generalize (L - (xs.length : Int) - (qsum (xs.take k) : Int)) = L1 at *
          go_wp2_with (go_at_call 30; refine hone.mono ?_; rintro e w1 ⟨rfl, hb1⟩)
          go_ret
          rw [HZ.out]
          exact ⟨rfl, Nm.below_two hbel hb1⟩
      · have hkl : k = xs.length := by omega
        have HZ : Hid (szQS xs L = L - xs.length - qsum (xs.take k)) := by
          have := hle.out
          rw [hkl, List.take_length] at this ⊢
          exact if_pos this
        have i2 : (xs.length : Int) ≤ (k : Int) := by omega
        clear hc hx hsz
        generalize (L - (xs.length : Int) - (qsum (xs.take k) : Int)) = L1 at *
        go_wp2
        go_ret
        rw [HZ.out]
        exact ⟨rfl, hbel⟩

set_option maxRecDepth 100000 in
set_option maxHeartbeats 1600000 in
theorem toQuestion_any (r : Qr) (w : World) :
    Calls Tryz.prog 38 #[.agg #[.string r.nm, .int .i64 r.ty, .int .i64 r.cl]] w fun e w' => e = .returned (.agg #[.string r.nm, .int .i64 r.ty, .int .i64 r.cl]) ∧ Below w.heap.size w w' := by
  obtain ⟨o, ty, cl⟩ := r
  go_enter Tryz.func38, Tryz.ntmps38
  go_wp2
  refine bodyPost_ret (v := .agg #[.string o, .int .i64 ty, .int .i64 cl]) ?_ rfl ⟨rfl, ?_⟩
  · simp [results, Tryz.results38, go_sem, Result.andThen]
  · exact (((Below.refl _ _).alloc (Nat.le_refl _) _).alloc (by simp) _).alloc (by simp; omega) _

theorem set3 {cs : List Value} {k : Nat} {A : List Value} (a b c : Value) (hl : k * 3 + 3 ≤ cs.length) (h : cs.take (k * 3) = A) :
    (((cs.set (k * 3) a).set (k * 3 + 1) b).set (k * 3 + 2) c).take ((k + 1) * 3) = A ++ [a, b, c] := by
  have hs : cs = cs.take (k * 3) ++ cs.drop (k * 3) := (List.take_append_drop _ _).symm
  have hdl : 3 ≤ (cs.drop (k * 3)).length := by simp; omega
  have hpl : (cs.take (k * 3)).length = k * 3 := by simp; omega
  rw [h] at hs hpl
  obtain ⟨q, hq⟩ : ∃ q, q = cs.drop (k * 3) := ⟨_, rfl⟩
  rw [← hq] at hs hdl
  match q, hdl with
  | y0 :: y1 :: y2 :: r, _ =>
    rw [hs]
    simp only [List.set_append, hpl, Nat.lt_irrefl, if_false, Nat.sub_self, show ¬ (k * 3 + 1 < k * 3) by omega, show ¬ (k * 3 + 2 < k * 3) by omega, Nat.add_sub_cancel_left]
    simp only [List.set_cons_zero, List.set_cons_succ]
    rw [List.take_append, hpl, show (k + 1) * 3 - k * 3 = 3 by omega, List.take_of_length_le (by omega)]
    rfl

theorem Tryz.infoQrz : (Tryz.prog.info? 63).map (fun i => (i.zero, i.size, i.bytes)) = some (some (.agg #[.string ByteArray.empty, .int .i64 0, .int .i64 0]), 3, 32) := by kernel_rfl

theorem three_at {w : World} {B e g n cap k : Nat} {cs : List Value} (h : w.ownsRow B e 3 (.slice (some ⟨g, 0, none⟩) n cap) n cs) (hk : k < n) (j : Nat) (hj : j < 3) : ∃ y, w.cell? ⟨g, k * 3 + j, none⟩ = some y := by
  rw [h.cellAt (k * 3 + j) (by omega)]
  have := h.1
  exact ⟨_, List.getElem?_eq_getElem (by omega)⟩

set_option maxRecDepth 100000 in
set_option maxHeartbeats 1600000 in
theorem toQuestionS_any (v : Value) (xs : List Qr) (w : World) (h : CRow w v xs.length 3 (qvVs xs)) (hlen : xs.length ≤ 1048576) :
    Calls Tryz.prog 17 #[v] w fun e w' => ∃ u, e = .returned u ∧ w'.ownsRow w.heap.size 63 3 u xs.length (qvVs xs) ∧ Below w.heap.size w w' := by
  obtain ⟨i0, hi, hz0, hz1, hz2⟩ := info_parts Tryz.infoQrz
  obtain ⟨_, a, cap, rfl, hcap, hmx, hc⟩ := h
  unfold maxLen at hmx
  have hto := fun (r : Qr) W => toQuestion_any r W
  go_enter Tryz.func17, Tryz.ntmps17
  go_wp2_with (at_make; refine wpList_make_full _ rfl (.tmp 6) (.tmp 6) 30 rfl w.heap.size 63 i0 _ 3 Tryz.underlying30 hi hz0 hz1 .i64 .i64 _ _ xs.length rfl rfl rfl rfl (by rw [hz2]; omega) (by unfold maxLen; omega) (Nat.le_refl _) ?_; intro w2 hown0 hgrow0)
  generalize hcs0 : (madeCells (Value.agg #[.string ByteArray.empty, .int .i64 0, .int .i64 0]).cells (xs.length * 3)).toList = cs0 at hown0
  clear hcs0
  go_loopw [4] (fun i wr => ∃ (k : Nat) (cs : List Value), k ≤ xs.length ∧ i = .int .i64 k ∧ wr.ownsRow w.heap.size 63 3 (.slice (some ⟨w.heap.size, 0, none⟩) xs.length xs.length) xs.length cs ∧ Hid (cs.take (k * 3) = qvVs (xs.take k)) ∧ Below w.heap.size w wr)
    (fun i _ => xs.length - (intOf i).toNat)
  case atStart => exact ⟨0, cs0, Nat.zero_le _, rfl, hown0, by show _ = _; simp [qvVs], (Below.refl _ w).grown hgrow0 (Nat.le_refl _) (fun k hk => by cases hk)⟩
  case round =>
    obtain ⟨k, cs, hk, rfl, hown, HT, hbel⟩ := hrel
    clear hown0 hgrow0
    by_cases hlt : k < xs.length
    · obtain ⟨x, hx⟩ : ∃ x, xs[k]? = some x := ⟨_, List.getElem?_eq_getElem hlt⟩
      obtain ⟨b, off, rfl, hcell⟩ := hc (by omega)
      obtain ⟨c0, c1, c2⟩ := qv_cells hcell hx
      have put : ∀ {O : Nat} {z : Value}, w.cell? ⟨b, O, none⟩ = some z → wr.cell? ⟨b, O, none⟩ = some z := fun h => (hbel.cell (World.block_lt_of_cell? w _ h)).trans h
      replace c0 := put c0
      replace c1 := put c1
      replace c2 := put c2
      have i1 : (0 : Int) ≤ (k : Int) := by omega
      have i2 : (k : Int) < (xs.length : Int) := by omega
      have hset := set3 (.string x.nm) (.int .i64 x.ty) (.int .i64 x.cl) (by have := hown.1; omega) HT.out
      have HT2 : Hid ((((cs.set (k * 3) (.string x.nm)).set (k * 3 + 1) (.int .i64 x.ty)).set (k * 3 + 2) (.int .i64 x.cl)).take ((k + 1) * 3) = qvVs (xs.take (k + 1))) := by
        show _ = _
        rw [hset, List.take_add_one, hx, qvVs_app]
        rfl
      clear hcell hc hset HT
      obtain ⟨o, ty, cl⟩ := x
      simp only at c0 c1 c2 HT2
      have hone := hto ⟨o, ty, cl⟩ wr
      simp only at hone
      clear hto hx
      go_wp2_with (go_at_call 38; refine hone.mono ?_; rintro e w1 ⟨rfl, hb1⟩; have ho1 := own_below hown hb1; obtain ⟨y0, hy0⟩ := three_at ho1 hlt 0 (by decide); obtain ⟨y1, hy1⟩ := three_at ho1 hlt 1 (by decide); obtain ⟨y2, hy2⟩ := three_at ho1 hlt 2 (by decide); rw [Nat.add_zero] at hy0; have fz := ho1.frozenAt; clear hone)
      go_roundw
      case rel => exact ⟨k + 1, _, by omega, by go_num, (((ho1.stored (k * 3) _).1.stored (k * 3 + 1) _).1.stored (k * 3 + 2) _).1, HT2, (((Nm.below_two hbel hb1).setCell (Nat.le_refl _) _).setCell (Nat.le_refl _) _).setCell (Nat.le_refl _) _⟩
      case measure => simp [intOf]; omega
    · have hkl : k = xs.length := by omega
      have hcs : cs = qvVs xs := by
        have e := HT.out
        have hl := hown.1
        rw [hkl, List.take_length, List.take_of_length_le (by omega)] at e
        exact e
      subst hcs
      have i2 : (xs.length : Int) ≤ (k : Int) := by omega
      clear hc hlt HT hto
      go_wp2
      go_ret
      exact ⟨_, rfl, hown, hbel⟩
end Go.Proofs.YtmaopfagkffccaaGreat
