import Derived.Test.YtmaopfagkffccaaGreatJMath
import Derived.RegionTactic
import Derived.BigRegion
/- laws.szRR, szRRS, toRR, toRRS by their contracts. -/
namespace Go.Proofs.YtmaopfagkffccaaGreat
open Go.RowKit
set_option linter.unusedVariables false

theorem ret_int {a b : Int} (h : a = b) : Ending.returned (.int .i64 a) = .returned (.int .i64 b) := by rw [h]
def szR (r : Rr) (L : Int) : Int := if (r.own.size : Int) + r.da.size ≤ L then L - r.own.size - r.da.size else -1

set_option maxRecDepth 100000 in
set_option maxHeartbeats 800000 in
theorem szRR_any (r : Rr) (L : Int) (w : World) (h0 : 0 ≤ L) (h1 : L ≤ 1048576) (ho : r.own.size ≤ maxLen) (hd : r.da.size ≤ maxLen) :
    Calls Tryz.prog 31 #[.agg #[.string r.own, .int .i64 r.ty, .int .i64 r.cl, .int .i64 r.tt, .string r.da], .int .i64 L] w fun e w' => e = .returned (.int .i64 (szR r L)) ∧ Below w.heap.size w w' := by
  unfold maxLen at ho hd
  obtain ⟨o, ty, cl, tt, da⟩ := r
  simp only at ho hd
  have hB := (Below.refl w.heap.size w).alloc (Nat.le_refl _) (.cells #[.string o, .int .i64 ty, .int .i64 cl, .int .i64 tt, .string da] 61)
  by_cases hm : L - o.size < 0
  · have HS : Hid (szR ⟨o, ty, cl, tt, da⟩ L = -1) := if_neg (by simp only; omega)
    go_enter Tryz.func31, Tryz.ntmps31
    go_wp2
    go_ret
    rw [HS.out]
    exact ⟨rfl, hB⟩
  · have hm' : 0 ≤ L - o.size := by omega
    by_cases hn : L - o.size - da.size < 0
    · have HS : Hid (szR ⟨o, ty, cl, tt, da⟩ L = -1) := if_neg (by simp only; omega)
      go_enter Tryz.func31, Tryz.ntmps31
      go_wp2
      go_ret
      rw [HS.out]
      exact ⟨rfl, hB⟩
    · have hn' : 0 ≤ L - o.size - da.size := by omega
      have HS : Hid (szR ⟨o, ty, cl, tt, da⟩ L = L - o.size - da.size) := if_pos (by simp only; omega)
      go_enter Tryz.func31, Tryz.ntmps31
      go_wp2
      go_ret
      rw [HS.out]
      exact ⟨rfl, hB⟩

set_option maxRecDepth 100000 in
set_option maxHeartbeats 1600000 in
theorem szRRS_any (v : Value) (xs : List Rr) (L : Int) (w : World) (h : CRow w v xs.length 5 (rvVs xs)) (hx : ∀ r ∈ xs, r.own.size ≤ maxLen ∧ r.da.size ≤ maxLen) (h0 : 0 ≤ L) (h1 : L ≤ 1048576) :
    Calls Tryz.prog 12 #[v, .int .i64 L] w fun e w' => e = .returned (.int .i64 (szRS xs L)) ∧ Below w.heap.size w w' := by
  obtain ⟨_, a, cap, rfl, hcap, hmx, hc⟩ := h
  unfold maxLen at hmx
  by_cases hm : L < xs.length
  · have HS : Hid (szRS xs L = -1) := if_neg (by omega)
    have hm' : L - (xs.length : Int) < 0 := by omega
    clear hx hc
    go_enter Tryz.func12, Tryz.ntmps12
    go_wp2
    go_ret
    rw [HS.out]
    exact ⟨rfl, Below.refl _ _⟩
  · have hl : (xs.length : Int) ≤ 1048576 := by omega
    have hm' : (0 : Int) ≤ L - (xs.length : Int) := by omega
    have hsz := fun (r : Rr) (hr : r ∈ xs) (K : Int) (W : World) (h0 : 0 ≤ K) (h1 : K ≤ 1048576) => szRR_any r K W h0 h1 (hx r hr).1 (hx r hr).2
    go_enter Tryz.func12, Tryz.ntmps12
    go_wp2
    go_loopw [1, 5] (fun t i wr => ∃ k : Nat, k ≤ xs.length ∧ i = .int .i64 k ∧ t = .int .i64 (L - xs.length - rsum (xs.take k)) ∧ Hid ((xs.length : Int) + rsum (xs.take k) ≤ L) ∧ Below w.heap.size w wr) (fun _ i _ => xs.length - (intOf i).toNat)
    case atStart => exact ⟨0, Nat.zero_le _, rfl, by simp [rsum], by show _ ≤ L; simp [rsum]; omega, Below.refl _ _⟩
    case round =>
      obtain ⟨k, hk, rfl, rfl, hle, hbel⟩ := hrel
      by_cases hlt : k < xs.length
      · obtain ⟨x, hxk⟩ : ∃ x, xs[k]? = some x := ⟨_, List.getElem?_eq_getElem hlt⟩
        obtain ⟨b, off, rfl, hcell⟩ := hc (by omega)
        obtain ⟨c0, c1, c2, c3, c4⟩ := rv_cells hcell hxk
        have put : ∀ {O : Nat} {z : Value}, w.cell? ⟨b, O, none⟩ = some z → wr.cell? ⟨b, O, none⟩ = some z := fun h => (hbel.cell (World.block_lt_of_cell? w _ h)).trans h
        replace c0 := put c0
        replace c1 := put c1
        replace c2 := put c2
        replace c3 := put c3
        replace c4 := put c4
        have HS : Hid (rsum (xs.take (k + 1)) = rsum (xs.take k) + (x.own.size + x.da.size)) := rsum_step xs k x hxk
        have hs1 : Hid (rsum (xs.take (k + 1)) ≤ rsum xs) := rsum_take_le xs (k + 1)
        have hone := hsz x (List.mem_of_getElem? hxk) (L - xs.length - rsum (xs.take k)) wr (by have := hle.out; omega) (by omega)
        have i1 : (0 : Int) ≤ (k : Int) := by omega
        have i2 : (k : Int) < (xs.length : Int) := by omega
        by_cases hb : (x.own.size : Int) + x.da.size ≤ L - xs.length - rsum (xs.take k)
        · have e1 : szR x (L - xs.length - rsum (xs.take k)) = L - xs.length - rsum (xs.take (k + 1)) := by
            have := HS.out
            rw [szR, if_pos hb]; omega
          have hnn : 0 ≤ L - (xs.length : Int) - rsum (xs.take (k + 1)) := by have := HS.out; omega
          have hle2 : Hid ((xs.length : Int) + rsum (xs.take (k + 1)) ≤ L) := by show _ ≤ L; omega
          rw [e1] at hone
          clear hxk hcell hc hx hsz HS hb e1 hs1
          generalize hL2 : (L - (xs.length : Int) - (rsum (xs.take (k + 1)) : Int)) = L2 at *
          generalize (L - (xs.length : Int) - (rsum (xs.take k) : Int)) = L1 at *
          go_wp2_with (go_at_call 31; refine hone.mono ?_; rintro e w1 ⟨rfl, hb1⟩)
          go_roundw
          case rel => exact ⟨k + 1, by omega, by go_num, by rw [hL2], hle2, Nm.below_two hbel hb1⟩
          case measure => simp [intOf]; omega
        · have HZ : Hid (szRS xs L = -1) := if_neg (by have := HS.out; have := hs1.out; omega)
          have e1 : szR x (L - xs.length - rsum (xs.take k)) = -1 := if_neg hb
          rw [e1] at hone
          clear hxk hcell hc hx hsz HS hb e1 hs1
          generalize (L - (xs.length : Int) - (rsum (xs.take k) : Int)) = L1 at *
          go_wp2_with (go_at_call 31; refine hone.mono ?_; rintro e w1 ⟨rfl, hb1⟩)
          go_ret
          rw [HZ.out]
          exact ⟨rfl, Nm.below_two hbel hb1⟩
      · have hkl : k = xs.length := by omega
        have HZ : Hid (szRS xs L = L - xs.length - rsum (xs.take k)) := by
          have := hle.out
          rw [hkl, List.take_length] at this ⊢
          exact if_pos this
        have i2 : (xs.length : Int) ≤ (k : Int) := by omega
        clear hc hx hsz
        generalize (L - (xs.length : Int) - (rsum (xs.take k) : Int)) = L1 at *
        go_wp2
        go_ret
        rw [HZ.out]
        exact ⟨rfl, hbel⟩

set_option maxRecDepth 100000 in
set_option maxHeartbeats 1600000 in
theorem toRR_any (r : Rr) (w : World) :
    Calls Tryz.prog 39 #[.agg #[.string r.own, .int .i64 r.ty, .int .i64 r.cl, .int .i64 r.tt, .string r.da]] w fun e w' => e = .returned (.agg #[.string r.own, .int .i64 r.ty, .int .i64 r.cl, .int .i64 r.tt, .string r.da]) ∧ Below w.heap.size w w' := by
  obtain ⟨o, ty, cl, tt, da⟩ := r
  go_enter Tryz.func39, Tryz.ntmps39
  go_wp2
  refine bodyPost_ret (v := .agg #[.string o, .int .i64 ty, .int .i64 cl, .int .i64 tt, .string da]) ?_ rfl ⟨rfl, ?_⟩
  · simp [results, Tryz.results39, go_sem, Result.andThen]
  · exact (((Below.refl _ _).alloc (Nat.le_refl _) _).alloc (by simp) _).alloc (by simp; omega) _

theorem set5 {cs : List Value} {k : Nat} {A : List Value} (a b c d e : Value) (hl : k * 5 + 5 ≤ cs.length) (h : cs.take (k * 5) = A) :
    (((((cs.set (k * 5) a).set (k * 5 + 1) b).set (k * 5 + 2) c).set (k * 5 + 3) d).set (k * 5 + 4) e).take ((k + 1) * 5) = A ++ [a, b, c, d, e] := by
  have hs : cs = cs.take (k * 5) ++ cs.drop (k * 5) := (List.take_append_drop _ _).symm
  have hdl : 5 ≤ (cs.drop (k * 5)).length := by simp; omega
  have hpl : (cs.take (k * 5)).length = k * 5 := by simp; omega
  rw [h] at hs hpl
  obtain ⟨q, hq⟩ : ∃ q, q = cs.drop (k * 5) := ⟨_, rfl⟩
  rw [← hq] at hs hdl
  match q, hdl with
  | y0 :: y1 :: y2 :: y3 :: y4 :: r, _ =>
    rw [hs]
    simp only [List.set_append, hpl, Nat.lt_irrefl, if_false, Nat.sub_self, show ¬ (k * 5 + 1 < k * 5) by omega, show ¬ (k * 5 + 2 < k * 5) by omega, show ¬ (k * 5 + 3 < k * 5) by omega, show ¬ (k * 5 + 4 < k * 5) by omega, Nat.add_sub_cancel_left]
    simp only [List.set_cons_zero, List.set_cons_succ]
    rw [List.take_append, hpl, show (k + 1) * 5 - k * 5 = 5 by omega, List.take_of_length_le (by omega)]
    rfl

theorem Tryz.infoRrz : (Tryz.prog.info? 72).map (fun i => (i.zero, i.size, i.bytes)) = some (some (.agg #[.string ByteArray.empty, .int .i64 0, .int .i64 0, .int .i64 0, .string ByteArray.empty]), 5, 56) := by kernel_rfl

theorem five_at {w : World} {B e g n cap k : Nat} {cs : List Value} (h : w.ownsRow B e 5 (.slice (some ⟨g, 0, none⟩) n cap) n cs) (hk : k < n) (j : Nat) (hj : j < 5) : ∃ y, w.cell? ⟨g, k * 5 + j, none⟩ = some y := by
  rw [h.cellAt (k * 5 + j) (by omega)]
  have := h.1
  exact ⟨_, List.getElem?_eq_getElem (by omega)⟩

set_option maxRecDepth 100000 in
set_option maxHeartbeats 1600000 in
theorem toRRS_any (v : Value) (xs : List Rr) (w : World) (h : CRow w v xs.length 5 (rvVs xs)) (hlen : xs.length ≤ 1048576) :
    Calls Tryz.prog 18 #[v] w fun e w' => ∃ u, e = .returned u ∧ w'.ownsRow w.heap.size 72 5 u xs.length (rvVs xs) ∧ Below w.heap.size w w' := by
  obtain ⟨i0, hi, hz0, hz1, hz2⟩ := info_parts Tryz.infoRrz
  obtain ⟨_, a, cap, rfl, hcap, hmx, hc⟩ := h
  unfold maxLen at hmx
  have hto := fun (r : Rr) W => toRR_any r W
  go_enter Tryz.func18, Tryz.ntmps18
  go_wp2_with (at_make; refine wpList_make_full _ rfl (.tmp 6) (.tmp 6) 31 rfl w.heap.size 72 i0 _ 5 Tryz.underlying31 hi hz0 hz1 .i64 .i64 _ _ xs.length rfl rfl rfl rfl (by rw [hz2]; omega) (by unfold maxLen; omega) (Nat.le_refl _) ?_; intro w2 hown0 hgrow0)
  generalize hcs0 : (madeCells (Value.agg #[.string ByteArray.empty, .int .i64 0, .int .i64 0, .int .i64 0, .string ByteArray.empty]).cells (xs.length * 5)).toList = cs0 at hown0
  clear hcs0
  go_loopw [4] (fun i wr => ∃ (k : Nat) (cs : List Value), k ≤ xs.length ∧ i = .int .i64 k ∧ wr.ownsRow w.heap.size 72 5 (.slice (some ⟨w.heap.size, 0, none⟩) xs.length xs.length) xs.length cs ∧ Hid (cs.take (k * 5) = rvVs (xs.take k)) ∧ Below w.heap.size w wr)
    (fun i _ => xs.length - (intOf i).toNat)
  case atStart => exact ⟨0, cs0, Nat.zero_le _, rfl, hown0, by show _ = _; simp [rvVs], (Below.refl _ w).grown hgrow0 (Nat.le_refl _) (fun k hk => by cases hk)⟩
  case round =>
    obtain ⟨k, cs, hk, rfl, hown, HT, hbel⟩ := hrel
    clear hown0 hgrow0
    by_cases hlt : k < xs.length
    · obtain ⟨x, hx⟩ : ∃ x, xs[k]? = some x := ⟨_, List.getElem?_eq_getElem hlt⟩
      obtain ⟨b, off, rfl, hcell⟩ := hc (by omega)
      obtain ⟨c0, c1, c2, c3, c4⟩ := rv_cells hcell hx
      have put : ∀ {O : Nat} {z : Value}, w.cell? ⟨b, O, none⟩ = some z → wr.cell? ⟨b, O, none⟩ = some z := fun h => (hbel.cell (World.block_lt_of_cell? w _ h)).trans h
      replace c0 := put c0
      replace c1 := put c1
      replace c2 := put c2
      replace c3 := put c3
      replace c4 := put c4
      have i1 : (0 : Int) ≤ (k : Int) := by omega
      have i2 : (k : Int) < (xs.length : Int) := by omega
      have hset := set5 (.string x.own) (.int .i64 x.ty) (.int .i64 x.cl) (.int .i64 x.tt) (.string x.da) (by have := hown.1; omega) HT.out
      have HT2 : Hid ((((((cs.set (k * 5) (.string x.own)).set (k * 5 + 1) (.int .i64 x.ty)).set (k * 5 + 2) (.int .i64 x.cl)).set (k * 5 + 3) (.int .i64 x.tt)).set (k * 5 + 4) (.string x.da)).take ((k + 1) * 5) = rvVs (xs.take (k + 1))) := by
        show _ = _
        rw [hset, List.take_add_one, hx, rvVs_app]
        rfl
      clear hcell hc hset HT
      obtain ⟨o, ty, cl, tt, da⟩ := x
      simp only at c0 c1 c2 c3 c4 HT2
      have hone := hto ⟨o, ty, cl, tt, da⟩ wr
      simp only at hone
      clear hto hx
      go_wp2_with (go_at_call 39; refine hone.mono ?_; rintro e w1 ⟨rfl, hb1⟩; have ho1 := own_below hown hb1; obtain ⟨y0, hy0⟩ := five_at ho1 hlt 0 (by decide); obtain ⟨y1, hy1⟩ := five_at ho1 hlt 1 (by decide); obtain ⟨y2, hy2⟩ := five_at ho1 hlt 2 (by decide); obtain ⟨y3, hy3⟩ := five_at ho1 hlt 3 (by decide); obtain ⟨y4, hy4⟩ := five_at ho1 hlt 4 (by decide); rw [Nat.add_zero] at hy0; have fz := ho1.frozenAt; clear hone)
      go_roundw
      case rel => exact ⟨k + 1, _, by omega, by go_num, (((((ho1.stored (k * 5) _).1.stored (k * 5 + 1) _).1.stored (k * 5 + 2) _).1.stored (k * 5 + 3) _).1.stored (k * 5 + 4) _).1, HT2, (((((Nm.below_two hbel hb1).setCell (Nat.le_refl _) _).setCell (Nat.le_refl _) _).setCell (Nat.le_refl _) _).setCell (Nat.le_refl _) _).setCell (Nat.le_refl _) _⟩
      case measure => simp [intOf]; omega
    · have hkl : k = xs.length := by omega
      have hcs : cs = rvVs xs := by
        have e := HT.out
        have hl := hown.1
        rw [hkl, List.take_length, List.take_of_length_le (by omega)] at e
        exact e
      subst hcs
      have i2 : (xs.length : Int) ≤ (k : Int) := by omega
      clear hc hlt HT hto
      go_wp2
      go_ret
      exact ⟨_, rfl, hown, hbel⟩
end Go.Proofs.YtmaopfagkffccaaGreat
