import Derived.Test.YtcamccoaoiobdaaGreatJSSmall
import Derived.RegionTactic
import Derived.BigRegion
import Derived.Deep.RegionHeld3
import Derived.Deep.Slices
import Derived.ChangeSame
/- laws.eqRRS over records as they come in, by its contract. -/
namespace Go.Proofs.YtcamccoaoiobdaaGreat
open Go.RowKit
set_option linter.unusedVariables false

theorem strv_ne (s : ByteArray) : (s.toList != s.toList) = false ∧ (s.toList == s.toList) = true := by simp

set_option maxRecDepth 100000 in
set_option maxHeartbeats 400000 in
theorem eqRV_any (s t : ByteArray) (x y z : Int) (w : World) :
    Calls Tryz.prog 26 #[.agg #[.string s, .int .i64 x, .int .i64 y, .int .i64 z, .string t], .agg #[.string s, .int .i64 x, .int .i64 y, .int .i64 z, .string t]] w fun e w' => e = .returned (.bool true) ∧ Below w.heap.size w w' := by
  have e1 : (x != x) = false := by simp
  have e2 : (y != y) = false := by simp
  have e5 : (z != z) = false := by simp
  obtain ⟨e3, e4⟩ := strv_ne s
  obtain ⟨e6, e7⟩ := strv_ne t
  go_enter Tryz.func26, Tryz.ntmps26
  go_wp2
  go_ret
  exact ⟨rfl, ((Below.refl _ _).alloc (Nat.le_refl _) _).alloc (by simp) _⟩

set_option maxRecDepth 100000 in
set_option maxHeartbeats 1600000 in
theorem eqRVS_any (v u : Value) (xs : List Rr) (w : World) (h : CRow w v xs.length 5 (rvVs xs)) (h' : CRow w u xs.length 5 (rvVs xs)) :
    Calls Tryz.prog 9 #[v, u] w fun e w' => e = .returned (.bool true) ∧ Below w.heap.size w w' := by
  obtain ⟨_, a, cap, rfl, hcap, hmx, hc⟩ := h
  obtain ⟨_, a', cap', rfl, hcap', hmx', hc'⟩ := h'
  unfold maxLen at hmx hmx'
  have hne : ((xs.length : Int) != (xs.length : Int)) = false := by simp
  go_enter Tryz.func9, Tryz.ntmps9
  go_wp2
  go_loopw [5] (fun i wr => ∃ k : Nat, k ≤ xs.length ∧ i = .int .i64 k ∧ Below w.heap.size w wr) (fun i _ => xs.length - (intOf i).toNat)
  case atStart => exact ⟨0, Nat.zero_le _, rfl, Below.refl _ _⟩
  case round =>
    obtain ⟨k, hk, rfl, hbel⟩ := hrel
    by_cases hlt : k < xs.length
    · obtain ⟨x, hx⟩ : ∃ x, xs[k]? = some x := ⟨_, List.getElem?_eq_getElem hlt⟩
      obtain ⟨b, off, rfl, hcell⟩ := hc (by omega)
      obtain ⟨b', off', rfl, hcell'⟩ := hc' (by omega)
      have R1 := rv_cells hcell hx
      have R2 := rv_cells hcell' hx
      obtain ⟨o, ty, cl, tt, da⟩ := x
      simp only at R1 R2
      have hS : ∀ W, Below w.heap.size w W → ((W.cell? ⟨b, off + k * 5, none⟩ = some (.string o) ∧ W.cell? ⟨b, off + k * 5 + 1, none⟩ = some (.int .i64 ty) ∧ W.cell? ⟨b, off + k * 5 + 2, none⟩ = some (.int .i64 cl) ∧ W.cell? ⟨b, off + k * 5 + 3, none⟩ = some (.int .i64 tt) ∧ W.cell? ⟨b, off + k * 5 + 4, none⟩ = some (.string da)) ∧ (W.cell? ⟨b', off' + k * 5, none⟩ = some (.string o) ∧ W.cell? ⟨b', off' + k * 5 + 1, none⟩ = some (.int .i64 ty) ∧ W.cell? ⟨b', off' + k * 5 + 2, none⟩ = some (.int .i64 cl) ∧ W.cell? ⟨b', off' + k * 5 + 3, none⟩ = some (.int .i64 tt) ∧ W.cell? ⟨b', off' + k * 5 + 4, none⟩ = some (.string da))) ∧ Below w.heap.size w W := by
        intro W hW
        have put : ∀ {B O : Nat} {z : Value}, w.cell? ⟨B, O, none⟩ = some z → W.cell? ⟨B, O, none⟩ = some z := fun h => (hW.cell (World.block_lt_of_cell? w _ h)).trans h
        exact ⟨⟨⟨put R1.1, put R1.2.1, put R1.2.2.1, put R1.2.2.2.1, put R1.2.2.2.2⟩, ⟨put R2.1, put R2.2.1, put R2.2.2.1, put R2.2.2.2.1, put R2.2.2.2.2⟩⟩, hW⟩
      have hS0 := hS wr.drew hbel.drew
      have heq := fun W (hW : Below w.heap.size w W) => (eqRV_any o da ty cl tt W).mono (R' := fun e w' => e = .returned (.bool true) ∧ Below w.heap.size w w') (by rintro e w' ⟨he, hb⟩; exact ⟨he, hW.trans (hb.mono hW.size)⟩)
      have i1 : (0 : Int) ≤ (k : Int) := by omega
      have i2 : (k : Int) < (xs.length : Int) := by omega
      clear hc hc' hcell hcell' hx R1 R2
      go_wp2
      go_region_held3 (fun W => ((W.cell? ⟨b, off + k * 5, none⟩ = some (.string o) ∧ W.cell? ⟨b, off + k * 5 + 1, none⟩ = some (.int .i64 ty) ∧ W.cell? ⟨b, off + k * 5 + 2, none⟩ = some (.int .i64 cl) ∧ W.cell? ⟨b, off + k * 5 + 3, none⟩ = some (.int .i64 tt) ∧ W.cell? ⟨b, off + k * 5 + 4, none⟩ = some (.string da)) ∧ (W.cell? ⟨b', off' + k * 5, none⟩ = some (.string o) ∧ W.cell? ⟨b', off' + k * 5 + 1, none⟩ = some (.int .i64 ty) ∧ W.cell? ⟨b', off' + k * 5 + 2, none⟩ = some (.int .i64 cl) ∧ W.cell? ⟨b', off' + k * 5 + 3, none⟩ = some (.int .i64 tt) ∧ W.cell? ⟨b', off' + k * 5 + 4, none⟩ = some (.string da))) ∧ Below w.heap.size w W) (first | with_reducible assumption | with_reducible exact hS0) ((first | (go_at_call 26; refine (heq _ hS0.2).mono ?_; rintro e w' ⟨rfl, hb1⟩; have hS1 := hS _ hb1)))
      go_wp2
      go_roundw
      case rel => exact ⟨k + 1, by omega, by go_num, hS1.2⟩
      case measure => simp [intOf]; omega
    · clear hc hc'
      have i2 : (xs.length : Int) ≤ (k : Int) := by omega
      go_wp2
      go_ret
      exact ⟨rfl, hbel⟩
end Go.Proofs.YtcamccoaoiobdaaGreat
/- laws.szRR, szRRS, toRR, toRRS by their contracts. -/
namespace Go.Proofs.YtcamccoaoiobdaaGreat
open Go.RowKit
set_option linter.unusedVariables false

theorem ret_int {a b : Int} (h : a = b) : Ending.returned (.int .i64 a) = .returned (.int .i64 b) := by rw [h]
def szR (r : Rr) (L : Int) : Int := if (r.own.size : Int) + r.da.size ≤ L then L - r.own.size - r.da.size else -1

set_option maxRecDepth 100000 in
set_option maxHeartbeats 800000 in
theorem szRR_any (r : Rr) (L : Int) (w : World) (h0 : 0 ≤ L) (h1 : L ≤ 1048576) (ho : r.own.size ≤ maxLen) (hd : r.da.size ≤ maxLen) :
    Calls Tryz.prog 13 #[.agg #[.string r.own, .int .i64 r.ty, .int .i64 r.cl, .int .i64 r.tt, .string r.da], .int .i64 L] w fun e w' => e = .returned (.int .i64 (szR r L)) ∧ Below w.heap.size w w' := by
  unfold maxLen at ho hd
  obtain ⟨o, ty, cl, tt, da⟩ := r
  simp only at ho hd
  have hB := (Below.refl w.heap.size w).alloc (Nat.le_refl _) (.cells #[.string o, .int .i64 ty, .int .i64 cl, .int .i64 tt, .string da] 38)
  by_cases hm : L - o.size < 0
  · have HS : Hid (szR ⟨o, ty, cl, tt, da⟩ L = -1) := if_neg (by simp only; omega)
    go_enter Tryz.func13, Tryz.ntmps13
    go_wp2
    go_ret
    rw [HS.out]
    exact ⟨rfl, hB⟩
  · have hm' : 0 ≤ L - o.size := by omega
    by_cases hn : L - o.size - da.size < 0
    · have HS : Hid (szR ⟨o, ty, cl, tt, da⟩ L = -1) := if_neg (by simp only; omega)
      go_enter Tryz.func13, Tryz.ntmps13
      go_wp2
      go_ret
      rw [HS.out]
      exact ⟨rfl, hB⟩
    · have hn' : 0 ≤ L - o.size - da.size := by omega
      have HS : Hid (szR ⟨o, ty, cl, tt, da⟩ L = L - o.size - da.size) := if_pos (by simp only; omega)
      go_enter Tryz.func13, Tryz.ntmps13
      go_wp2
      go_ret
      rw [HS.out]
      exact ⟨rfl, hB⟩

set_option maxRecDepth 100000 in
set_option maxHeartbeats 1600000 in
theorem szRRS_any (v : Value) (xs : List Rr) (L : Int) (w : World) (h : CRow w v xs.length 5 (rvVs xs)) (hx : ∀ r ∈ xs, r.own.size ≤ maxLen ∧ r.da.size ≤ maxLen) (h0 : 0 ≤ L) (h1 : L ≤ 1048576) :
    Calls Tryz.prog 4 #[v, .int .i64 L] w fun e w' => e = .returned (.int .i64 (szRS xs L)) ∧ Below w.heap.size w w' := by
  obtain ⟨_, a, cap, rfl, hcap, hmx, hc⟩ := h
  unfold maxLen at hmx
  by_cases hm : L < xs.length
  · have HS : Hid (szRS xs L = -1) := if_neg (by omega)
    have hm' : L - (xs.length : Int) < 0 := by omega
    clear hx hc
    go_enter Tryz.func4, Tryz.ntmps4
    go_wp2
    go_ret
    rw [HS.out]
    exact ⟨rfl, Below.refl _ _⟩
  · have hl : (xs.length : Int) ≤ 1048576 := by omega
    have hm' : (0 : Int) ≤ L - (xs.length : Int) := by omega
    have hsz := fun (r : Rr) (hr : r ∈ xs) (K : Int) (W : World) (h0 : 0 ≤ K) (h1 : K ≤ 1048576) => szRR_any r K W h0 h1 (hx r hr).1 (hx r hr).2
    go_enter Tryz.func4, Tryz.ntmps4
    go_wp2
    go_loopw [1, 5] (fun t i wr => ∃ k : Nat, k ≤ xs.length ∧ i = .int .i64 k ∧ t = .int .i64 (L - xs.length - rsum (xs.take k)) ∧ Hid ((xs.length : Int) + rsum (xs.take k) ≤ L) ∧ Below w.heap.size w wr) (fun _ i _ => xs.length - (intOf i).toNat)
    case atStart => exact ⟨0, Nat.zero_le _, rfl, by simp [rsum], by show _ ≤ L; simp [rsum]; omega, Below.refl _ _⟩
    case round =>
      obtain ⟨k, hk, rfl, rfl, hle, hbel⟩ := hrel
      by_cases hlt : k < xs.length
      · obtain ⟨x, hxk⟩ : ∃ x, xs[k]? = some x := ⟨_, List.getElem?_eq_getElem hlt⟩
        obtain ⟨b, off, rfl, hcell⟩ := hc (by omega)
        obtain ⟨c0, c1, c2, c3, c4⟩ := rv_cells hcell hxk
        have put : ∀ {O : Nat} {z : Value}, w.cell? ⟨b, O, none⟩ = some z → wr.cell? ⟨b, O, none⟩ = some z := fun h => (hbel.cell (World.block_lt_of_cell? w _ h)).trans h
        replace c0 := put c0
        replace c1 := put c1
        replace c2 := put c2
        replace c3 := put c3
        replace c4 := put c4
        have HS : Hid (rsum (xs.take (k + 1)) = rsum (xs.take k) + (x.own.size + x.da.size)) := rsum_step xs k x hxk
        have hs1 : Hid (rsum (xs.take (k + 1)) ≤ rsum xs) := rsum_take_le xs (k + 1)
        have hone := hsz x (List.mem_of_getElem? hxk) (L - xs.length - rsum (xs.take k)) wr (by have := hle.out; omega) (by omega)
        have i1 : (0 : Int) ≤ (k : Int) := by omega
        have i2 : (k : Int) < (xs.length : Int) := by omega
        by_cases hb : (x.own.size : Int) + x.da.size ≤ L - xs.length - rsum (xs.take k)
        · have e1 : szR x (L - xs.length - rsum (xs.take k)) = L - xs.length - rsum (xs.take (k + 1)) := by
            have := HS.out
            rw [szR, if_pos hb]; omega
          have hnn : 0 ≤ L - (xs.length : Int) - rsum (xs.take (k + 1)) := by have := HS.out; omega
          have hle2 : Hid ((xs.length : Int) + rsum (xs.take (k + 1)) ≤ L) := by show _ ≤ L; omega
          rw [e1] at hone
          clear hxk hcell hc hx hsz HS hb e1 hs1
          generalize hL2 : (L - (xs.length : Int) - (rsum (xs.take (k + 1)) : Int)) = L2 at *
          generalize (L - (xs.length : Int) - (rsum (xs.take k) : Int)) = L1 at *
          go_wp2_with (go_at_call 13; refine hone.mono ?_; rintro e w1 ⟨rfl, hb1⟩)
          go_roundw
          case rel => exact ⟨k + 1, by omega, by go_num, by rw [hL2], hle2, Nm.below_two hbel hb1⟩
          case measure => simp [intOf]; omega
        · have HZ : Hid (szRS xs L = -1) := if_neg (by have := HS.out; have := hs1.out; omega)
          have e1 : szR x (L - xs.length - rsum (xs.take k)) = -1 := if_neg hb
          rw [e1] at hone
          clear hxk hcell hc hx hsz HS hb e1 hs1
          generalize (L - (xs.length : Int) - (rsum (xs.take k) : Int)) = L1 at *
          go_wp2_with (go_at_call 13; refine hone.mono ?_; rintro e w1 ⟨rfl, hb1⟩)
          go_ret
          rw [HZ.out]
          exact ⟨rfl, Nm.below_two hbel hb1⟩
      · have hkl : k = xs.length := by omega
        have HZ : Hid (szRS xs L = L - xs.length - rsum (xs.take k)) := by
          have := hle.out
          rw [hkl, List.take_length] at this ⊢
          exact if_pos this
        have i2 : (xs.length : Int) ≤ (k : Int) := by omega
        clear hc hx hsz
        generalize (L - (xs.length : Int) - (rsum (xs.take k) : Int)) = L1 at *
        go_wp2
        go_ret
        rw [HZ.out]
        exact ⟨rfl, hbel⟩

set_option maxRecDepth 100000 in
set_option maxHeartbeats 1600000 in
theorem toRR_any (r : Rr) (w : World) :
    Calls Tryz.prog 22 #[.agg #[.string r.own, .int .i64 r.ty, .int .i64 r.cl, .int .i64 r.tt, .string r.da]] w fun e w' => e = .returned (.agg #[.string r.own, .int .i64 r.ty, .int .i64 r.cl, .int .i64 r.tt, .string r.da]) ∧ Below w.heap.size w w' := by
  obtain ⟨o, ty, cl, tt, da⟩ := r
  go_enter Tryz.func22, Tryz.ntmps22
  go_wp2
  refine bodyPost_ret (v := .agg #[.string o, .int .i64 ty, .int .i64 cl, .int .i64 tt, .string da]) ?_ rfl ⟨rfl, ?_⟩
  · simp [results, Tryz.results22, go_sem, Result.andThen]
  · exact (((Below.refl _ _).alloc (Nat.le_refl _) _).alloc (by simp) _).alloc (by simp; omega) _

theorem set5 {cs : List Value} {k : Nat} {A : List Value} (a b c d e : Value) (hl : k * 5 + 5 ≤ cs.length) (h : cs.take (k * 5) = A) :
    (((((cs.set (k * 5) a).set (k * 5 + 1) b).set (k * 5 + 2) c).set (k * 5 + 3) d).set (k * 5 + 4) e).take ((k + 1) * 5) = A ++ [a, b, c, d, e] := by
  have hs : cs = cs.take (k * 5) ++ cs.drop (k * 5) := (List.take_append_drop _ _).symm
  have hdl : 5 ≤ (cs.drop (k * 5)).length := by simp; omega
  have hpl : (cs.take (k * 5)).length = k * 5 := by simp; omega
  rw [h] at hs hpl
  obtain ⟨q, hq⟩ : ∃ q, q = cs.drop (k * 5) := ⟨_, rfl⟩
  rw [← hq] at hs hdl
  match q, hdl with
  | y0 :: y1 :: y2 :: y3 :: y4 :: r, _ =>
    rw [hs]
    simp only [List.set_append, hpl, Nat.lt_irrefl, if_false, Nat.sub_self, show ¬ (k * 5 + 1 < k * 5) by omega, show ¬ (k * 5 + 2 < k * 5) by omega, show ¬ (k * 5 + 3 < k * 5) by omega, show ¬ (k * 5 + 4 < k * 5) by omega, Nat.add_sub_cancel_left]
    simp only [List.set_cons_zero, List.set_cons_succ]
    rw [List.take_append, hpl, show (k + 1) * 5 - k * 5 = 5 by omega, List.take_of_length_le (by omega)]
    rfl

theorem Tryz.infoRrz : (Tryz.prog.info? 42).map (fun i => (i.zero, i.size, i.bytes)) = some (some (.agg #[.string ByteArray.empty, .int .i64 0, .int .i64 0, .int .i64 0, .string ByteArray.empty]), 5, 56) := by kernel_rfl

theorem five_at {w : World} {B e g n cap k : Nat} {cs : List Value} (h : w.ownsRow B e 5 (.slice (some ⟨g, 0, none⟩) n cap) n cs) (hk : k < n) (j : Nat) (hj : j < 5) : ∃ y, w.cell? ⟨g, k * 5 + j, none⟩ = some y := by
  rw [h.cellAt (k * 5 + j) (by omega)]
  have := h.1
  exact ⟨_, List.getElem?_eq_getElem (by omega)⟩

set_option maxRecDepth 100000 in
set_option maxHeartbeats 1600000 in
theorem toRRS_any (v : Value) (xs : List Rr) (w : World) (h : CRow w v xs.length 5 (rvVs xs)) (hlen : xs.length ≤ 1048576) :
    Calls Tryz.prog 6 #[v] w fun e w' => ∃ u, e = .returned u ∧ w'.ownsRow w.heap.size 42 5 u xs.length (rvVs xs) ∧ Below w.heap.size w w' := by
  obtain ⟨i0, hi, hz0, hz1, hz2⟩ := info_parts Tryz.infoRrz
  obtain ⟨_, a, cap, rfl, hcap, hmx, hc⟩ := h
  unfold maxLen at hmx
  have hto := fun (r : Rr) W => toRR_any r W
  go_enter Tryz.func6, Tryz.ntmps6
  go_wp2_with (at_make; refine wpList_make_full _ rfl (.tmp 6) (.tmp 6) 29 rfl w.heap.size 42 i0 _ 5 Tryz.underlying29 hi hz0 hz1 .i64 .i64 _ _ xs.length rfl rfl rfl rfl (by rw [hz2]; omega) (by unfold maxLen; omega) (Nat.le_refl _) ?_; intro w2 hown0 hgrow0)
  generalize hcs0 : (madeCells (Value.agg #[.string ByteArray.empty, .int .i64 0, .int .i64 0, .int .i64 0, .string ByteArray.empty]).cells (xs.length * 5)).toList = cs0 at hown0
  clear hcs0
  go_loopw [4] (fun i wr => ∃ (k : Nat) (cs : List Value), k ≤ xs.length ∧ i = .int .i64 k ∧ wr.ownsRow w.heap.size 42 5 (.slice (some ⟨w.heap.size, 0, none⟩) xs.length xs.length) xs.length cs ∧ Hid (cs.take (k * 5) = rvVs (xs.take k)) ∧ Below w.heap.size w wr)
    (fun i _ => xs.length - (intOf i).toNat)
  case atStart => exact ⟨0, cs0, Nat.zero_le _, rfl, hown0, by show _ = _; simp [rvVs], (Below.refl _ w).grown hgrow0 (Nat.le_refl _) (fun k hk => by cases hk)⟩
  case round =>
    obtain ⟨k, cs, hk, rfl, hown, HT, hbel⟩ := hrel
    clear hown0 hgrow0
    by_cases hlt : k < xs.length
    · obtain ⟨x, hx⟩ : ∃ x, xs[k]? = some x := ⟨_, List.getElem?_eq_getElem hlt⟩
      obtain ⟨b, off, rfl, hcell⟩ := hc (by omega)
      obtain ⟨c0, c1, c2, c3, c4⟩ := rv_cells hcell hx
      have put : ∀ {O : Nat} {z : Value}, w.cell? ⟨b, O, none⟩ = some z → wr.cell? ⟨b, O, none⟩ = some z := fun h => (hbel.cell (World.block_lt_of_cell? w _ h)).trans h
      replace c0 := put c0
      replace c1 := put c1
      replace c2 := put c2
      replace c3 := put c3
      replace c4 := put c4
      have i1 : (0 : Int) ≤ (k : Int) := by omega
      have i2 : (k : Int) < (xs.length : Int) := by omega
      have hset := set5 (.string x.own) (.int .i64 x.ty) (.int .i64 x.cl) (.int .i64 x.tt) (.string x.da) (by have := hown.1; omega) HT.out
      have HT2 : Hid ((((((cs.set (k * 5) (.string x.own)).set (k * 5 + 1) (.int .i64 x.ty)).set (k * 5 + 2) (.int .i64 x.cl)).set (k * 5 + 3) (.int .i64 x.tt)).set (k * 5 + 4) (.string x.da)).take ((k + 1) * 5) = rvVs (xs.take (k + 1))) := by
        show _ = _
        rw [hset, List.take_add_one, hx, rvVs_app]
        rfl
      clear hcell hc hset HT
      obtain ⟨o, ty, cl, tt, da⟩ := x
      simp only at c0 c1 c2 c3 c4 HT2
      have hone := hto ⟨o, ty, cl, tt, da⟩ wr
      simp only at hone
      clear hto hx
      go_wp2_with (go_at_call 22; refine hone.mono ?_; rintro e w1 ⟨rfl, hb1⟩; have ho1 := own_below hown hb1; obtain ⟨y0, hy0⟩ := five_at ho1 hlt 0 (by decide); obtain ⟨y1, hy1⟩ := five_at ho1 hlt 1 (by decide); obtain ⟨y2, hy2⟩ := five_at ho1 hlt 2 (by decide); obtain ⟨y3, hy3⟩ := five_at ho1 hlt 3 (by decide); obtain ⟨y4, hy4⟩ := five_at ho1 hlt 4 (by decide); rw [Nat.add_zero] at hy0; have fz := ho1.frozenAt; clear hone)
      go_roundw
      case rel => exact ⟨k + 1, _, by omega, by go_num, (((((ho1.stored (k * 5) _).1.stored (k * 5 + 1) _).1.stored (k * 5 + 2) _).1.stored (k * 5 + 3) _).1.stored (k * 5 + 4) _).1, HT2, (((((Nm.below_two hbel hb1).setCell (Nat.le_refl _) _).setCell (Nat.le_refl _) _).setCell (Nat.le_refl _) _).setCell (Nat.le_refl _) _).setCell (Nat.le_refl _) _⟩
      case measure => simp [intOf]; omega
    · have hkl : k = xs.length := by omega
      have hcs : cs = rvVs xs := by
        have e := HT.out
        have hl := hown.1
        rw [hkl, List.take_length, List.take_of_length_le (by omega)] at e
        exact e
      subst hcs
      have i2 : (xs.length : Int) ≤ (k : Int) := by omega
      clear hc hlt HT hto
      go_wp2
      go_ret
      exact ⟨_, rfl, hown, hbel⟩
end Go.Proofs.YtcamccoaoiobdaaGreat
/- A slice of records that came in, opened. -/
namespace Go.Proofs.YtcamccoaoiobdaaGreat
open Go.RowKit Go.Deep
set_option linter.unusedVariables false

section
variable {H : Type} {enc : TypeId × Value → H} {w : World} {base : Nat} {spare : Nat → Bool} {held : Bool}

theorem rr_c : Tryz.prog.cellsOf 9 = 1 ∧ Tryz.prog.cellsOf 2 = 1 ∧ Tryz.prog.cellsOf 38 = 5 := ⟨by kernel_rfl, by kernel_rfl, by kernel_rfl⟩

set_option maxRecDepth 100000 in
theorem open_rr {fuel : Nat} {cs : List Value} {x : DataW H × List MemPlace} (h : DataW.trod enc Tryz.prog w base spare held fuel 38 cs = some x) (hl : cs.length = 5) :
    ∃ r : Rr, cs = rvV r ∧ r.own.size ≤ maxLen ∧ r.da.size ≤ maxLen ∧ (Lit.int .i64 r.ty).wf = true ∧ (Lit.int .i64 r.cl).wf = true ∧ (Lit.int .i64 r.tt).wf = true := by
  obtain ⟨xs, n, _, _, _, hxl, hf⟩ := DataW.trod_struct Tryz.underlying38 h
  obtain ⟨c1, c2, _⟩ := rr_c
  match cs, hl with
  | [v0, v1, v2, v3, v4], _ =>
    have g0 := hf 0 _ rfl
    have g1 := hf 1 _ rfl
    have g2 := hf 2 _ rfl
    have g3 := hf 3 _ rfl
    have g4 := hf 4 _ rfl
    match xs, hxl with
    | [y0, y1, y2, y3, y4], _ =>
      simp [c1, c2] at g0 g1 g2 g3 g4
      obtain ⟨s0, e0, _, w0⟩ := DataW.trod_string Tryz.underlying9 g0
      obtain ⟨n1, e1, _, w1⟩ := DataW.trod_int Tryz.underlying2 g1
      obtain ⟨n2, e2, _, w2⟩ := DataW.trod_int Tryz.underlying2 g2
      obtain ⟨n3, e3, _, w3⟩ := DataW.trod_int Tryz.underlying2 g3
      obtain ⟨s4, e4, _, w4⟩ := DataW.trod_string Tryz.underlying9 g4
      simp at e0 e1 e2 e3 e4
      subst e0 e1 e2 e3 e4
      exact ⟨⟨s0, n1, n2, n3, s4⟩, rfl, w0, w4, w1, w2, w3⟩

theorem rr_default : Nonempty Rr := ⟨⟨.empty, 0, 0, 0, .empty⟩⟩

theorem choose_rr {n : Nat} {p : Nat → Rr → Prop} (h : ∀ i, i < n → ∃ x, p i x) : ∃ f : Nat → Rr, ∀ i, i < n → p i (f i) := by
  classical
  refine ⟨fun i => if hi : i < n then Classical.choose (h i hi) else ⟨.empty, 0, 0, 0, .empty⟩, fun i hi => ?_⟩
  simp only [dif_pos hi]
  exact Classical.choose_spec (h i hi)

theorem rv_range (f : Nat → Rr) : ∀ (n k j : Nat), k < n → j < 5 → (rvVs ((List.range n).map f))[k * 5 + j]? = (rvV (f k))[j]? := by
  intro n k j hk hj
  exact rvVs_at _ k j (f k) (by simp [hk]) hj

set_option maxRecDepth 100000 in
theorem open_rrs {t : TypeId} {fuel : Nat} {v : Value} {x : DataW H × List MemPlace} (ht : Tryz.prog.underlying t = some (.slice 38)) (h : DataW.trod enc Tryz.prog w base spare held fuel t [v] = some x) :
    ∃ xs : List Rr, CRow w v xs.length 5 (rvVs xs) ∧ ∀ r ∈ xs, r.own.size ≤ maxLen ∧ r.da.size ≤ maxLen ∧ (Lit.int .i64 r.ty).wf = true ∧ (Lit.int .i64 r.cl).wf = true ∧ (Lit.int .i64 r.tt).wf = true := by
  rcases open_slice ht h with ⟨e, _⟩ | ⟨a, len, cap, m, n, D, Pl, e, hb, hl, hm, hmm, _, hx⟩
  · simp at e
    subst e
    exact ⟨[], ⟨rfl, none, 0, rfl, Nat.le_refl _, by decide, fun h => absurd h (by simp)⟩, by simp⟩
  · simp at e
    subst e
    have hlm : len ≤ m := by rw [hmm]; split <;> omega
    obtain ⟨_, _, c5⟩ := rr_c
    rw [c5] at hx
    obtain ⟨f, hf⟩ := choose_rr (n := len) (p := fun i r => (∀ j, j < 5 → w.cell? ((a.add (i * 5)).add j) = (rvV r)[j]?) ∧ r.own.size ≤ maxLen ∧ r.da.size ≤ maxLen ∧ (Lit.int .i64 r.ty).wf = true ∧ (Lit.int .i64 r.cl).wf = true ∧ (Lit.int .i64 r.tt).wf = true) (fun i hi => by
      obtain ⟨cs', h1, h2⟩ := hx i (by omega)
      obtain ⟨_, hlen, hcell⟩ := World.cells?_some h1
      obtain ⟨r, rfl, q⟩ := open_rr h2 hlen
      exact ⟨r, hcell, q⟩)
    refine ⟨(List.range len).map f, ⟨?_, some a, cap, by simp, by simpa using hl, hm, fun hpos => ?_⟩, ?_⟩
    · rw [rvVs_len]
    · have hlen : 0 < len := by simpa using hpos
      obtain ⟨b, off, spot⟩ := a
      have h0 := (hf 0 hlen).1 0 (by decide)
      have h0' : w.cell? ((Addr.mk b off spot).add (0 * 5 + 0)) = some (.string (f 0).own) := by rw [← add_add]; exact h0
      have hspot : spot = none := by simpa [Addr.add] using World.cell?_spot h0'
      subst hspot
      refine ⟨b, off, rfl, ?_⟩
      intro i y hy
      have hi : i < len * 5 := by
        have := (List.getElem?_eq_some_iff.1 hy).1
        rw [rvVs_len] at this
        simpa using this
      obtain ⟨k, j, hk, hj, rfl⟩ : ∃ k j, k < len ∧ j < 5 ∧ i = k * 5 + j := ⟨i / 5, i % 5, by omega, by omega, by omega⟩
      rw [rv_range f len k j hk hj] at hy
      have := (hf k hk).1 j hj
      rw [add_add, hy, Nm.addr_add] at this
      exact this
    · intro r hr
      simp only [List.mem_map, List.mem_range] at hr
      obtain ⟨i, hi, rfl⟩ := hr
      exact (hf i hi).2
end
end Go.Proofs.YtcamccoaoiobdaaGreat
