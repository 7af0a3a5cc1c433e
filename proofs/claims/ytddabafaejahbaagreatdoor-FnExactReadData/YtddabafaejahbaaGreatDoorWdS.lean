import Derived.Test.YtddabafaejahbaaGreatDoorJTxt6A
import Derived.Test.YtddabafaejahbaaGreatDoorJCutM
import Derived.RegionTactic
import Derived.BigRegion
/- laws.szWord, szWordS, toWord, toWordS by their contracts. -/
namespace Go.Proofs.YtddabafaejahbaaGreatDoor
open Go.RowKit
set_option linter.unusedVariables false

theorem wszS_step {ws : List Wrd} {k : Nat} {x : Wrd} (h : ws[k]? = some x) : wsz (ws.take (k + 1)) = wsz (ws.take k) + x.1.size := by
  have hl := List.getElem?_eq_some_iff.1 h
  rw [List.take_succ_eq_append_getElem hl.1, hl.2, wsz_app, wsz_cons]
  rfl
def szWS (xs : List Wrd) (L : Int) : Int := if (xs.length : Int) + (wsz xs : Int) ≤ L then L - xs.length - wsz xs else -1
def szWd (x : Wrd) (L : Int) : Int := if (x.1.size : Int) ≤ L then L - x.1.size else -1

set_option maxRecDepth 100000 in
set_option maxHeartbeats 800000 in
theorem szWd_any (x : Wrd) (L : Int) (w : World) (h0 : 0 ≤ L) (h1 : L ≤ 1048576) (hd : x.1.size ≤ maxLen) :
    Calls Tryz.prog 15 #[.agg #[.string x.1, .bool x.2], .int .i64 L] w fun e w' => e = .returned (.int .i64 (szWd x L)) ∧ Below w.heap.size w w' := by
  unfold maxLen at hd
  obtain ⟨da, o⟩ := x
  simp only at hd
  have hB := (Below.refl w.heap.size w).alloc (Nat.le_refl _) (.cells #[.string da, .bool o] 38)
  by_cases hm : L - da.size < 0
  · have HS : Hid (szWd (da, o) L = -1) := if_neg (by simp only; omega)
    go_enter Tryz.func15, Tryz.ntmps15
    go_wp2
    go_ret
    rw [HS.out]
    exact ⟨rfl, hB⟩
  · have hm' : 0 ≤ L - da.size := by omega
    have HS : Hid (szWd (da, o) L = L - da.size) := if_pos (by simp only; omega)
    go_enter Tryz.func15, Tryz.ntmps15
    go_wp2
    go_ret
    rw [HS.out]
    exact ⟨rfl, hB⟩

theorem wd_cells {w : World} {xs : List Wrd} {b off k : Nat} {x : Wrd} (hc : ∀ (i : Nat) (y : Value), (wdVs xs)[i]? = some y → w.cell? ⟨b, off + i, none⟩ = some y) (h : xs[k]? = some x) :
    w.cell? ⟨b, off + k * 2, none⟩ = some (.string x.1) ∧ w.cell? ⟨b, off + k * 2 + 1, none⟩ = some (.bool x.2) :=
  ⟨hc (k * 2) _ ((wdVs_at xs k 0 x h (by decide)).trans rfl), hc (k * 2 + 1) _ ((wdVs_at xs k 1 x h (by decide)).trans rfl)⟩

set_option maxRecDepth 100000 in
set_option maxHeartbeats 1600000 in
theorem szWordS_any (v : Value) (xs : List Wrd) (L : Int) (w : World) (h : CRow w v xs.length 2 (wdVs xs)) (hx : ∀ r ∈ xs, r.1.size ≤ maxLen) (h0 : 0 ≤ L) (h1 : L ≤ 1048576) :
    Calls Tryz.prog 5 #[v, .int .i64 L] w fun e w' => e = .returned (.int .i64 (szWS xs L)) ∧ Below w.heap.size w w' := by
  obtain ⟨_, a, cap, rfl, hcap, hmx, hc⟩ := h
  unfold maxLen at hmx
  by_cases hm : L < xs.length
  · have HS : Hid (szWS xs L = -1) := if_neg (by omega)
    have hm' : L - (xs.length : Int) < 0 := by omega
    clear hx hc
    go_enter Tryz.func5, Tryz.ntmps5
    go_wp2
    go_ret
    rw [HS.out]
    exact ⟨rfl, Below.refl _ _⟩
  · have hl : (xs.length : Int) ≤ 1048576 := by omega
    have hm' : (0 : Int) ≤ L - (xs.length : Int) := by omega
    have hsz := fun (r : Wrd) (hr : r ∈ xs) (K : Int) (W : World) (h0 : 0 ≤ K) (h1 : K ≤ 1048576) => szWd_any r K W h0 h1 (hx r hr)
    go_enter Tryz.func5, Tryz.ntmps5
    go_wp2
    go_loopw [1, 5] (fun t i wr => ∃ k : Nat, k ≤ xs.length ∧ i = .int .i64 k ∧ t = .int .i64 (L - xs.length - wsz (xs.take k)) ∧ Hid ((xs.length : Int) + wsz (xs.take k) ≤ L) ∧ Below w.heap.size w wr) (fun _ i _ => xs.length - (intOf i).toNat)
    case atStart => exact ⟨0, Nat.zero_le _, rfl, by simp [wsz], by show _ ≤ L; simp [wsz]; omega, Below.refl _ _⟩
    case round =>
      obtain ⟨k, hk, rfl, rfl, hle, hbel⟩ := hrel
      by_cases hlt : k < xs.length
      · obtain ⟨x, hxk⟩ : ∃ x, xs[k]? = some x := ⟨_, List.getElem?_eq_getElem hlt⟩
        obtain ⟨b, off, rfl, hcell⟩ := hc (by omega)
        obtain ⟨c0, c1⟩ := wd_cells hcell hxk
        have put : ∀ {O : Nat} {z : Value}, w.cell? ⟨b, O, none⟩ = some z → wr.cell? ⟨b, O, none⟩ = some z := fun h => (hbel.cell (World.block_lt_of_cell? w _ h)).trans h
        replace c0 := put c0
        replace c1 := put c1
        have HS : Hid (wsz (xs.take (k + 1)) = wsz (xs.take k) + (x.1.size)) := wszS_step hxk
        have hs1 : Hid (wsz (xs.take (k + 1)) ≤ wsz xs) := wsz_take xs (k + 1)
        have hone := hsz x (List.mem_of_getElem? hxk) (L - xs.length - wsz (xs.take k)) wr (by have := hle.out; omega) (by omega)
        have i1 : (0 : Int) ≤ (k : Int) := by omega
        have i2 : (k : Int) < (xs.length : Int) := by omega
        by_cases hb : (x.1.size : Int) ≤ L - xs.length - wsz (xs.take k)
        · have e1 : szWd x (L - xs.length - wsz (xs.take k)) = L - xs.length - wsz (xs.take (k + 1)) := by
            have := HS.out
            rw [szWd, if_pos hb]; omega
          have hnn : 0 ≤ L - (xs.length : Int) - wsz (xs.take (k + 1)) := by have := HS.out; omega
          have hle2 : Hid ((xs.length : Int) + wsz (xs.take (k + 1)) ≤ L) := by show _ ≤ L; omega
          rw [e1] at hone
          clear hxk hcell hc hx hsz HS hb e1 hs1
          generalize hL2 : (L - (xs.length : Int) - (wsz (xs.take (k + 1)) : Int)) = L2 at *
          generalize (L - (xs.length : Int) - (wsz (xs.take k) : Int)) = L1 at *
          go_wp2_with (go_at_call 15; refine hone.mono ?_; rintro e w1 ⟨rfl, hb1⟩)
          go_roundw
          case rel => exact ⟨k + 1, by omega, by go_num, by rw [hL2], hle2, Nm.below_two hbel hb1⟩
          case measure => simp [intOf]; omega
        · have HZ : Hid (szWS xs L = -1) := if_neg (by have := HS.out; have := hs1.out; omega)
          have e1 : szWd x (L - xs.length - wsz (xs.take k)) = -1 := if_neg hb
          rw [e1] at hone
          clear hxk hcell hc hx hsz HS hb e1 hs1
          generalize (L - (xs.length : Int) - (wsz (xs.take k) : Int)) = L1 at *
          go_wp2_with (go_at_call 15; refine hone.mono ?_; rintro e w1 ⟨rfl, hb1⟩)
          go_ret
          rw [HZ.out]
          exact ⟨rfl, Nm.below_two hbel hb1⟩
      · have hkl : k = xs.length := by omega
        have HZ : Hid (szWS xs L = L - xs.length - wsz (xs.take k)) := by
          have := hle.out
          rw [hkl, List.take_length] at this ⊢
          exact if_pos this
        have i2 : (xs.length : Int) ≤ (k : Int) := by omega
        clear hc hx hsz
        generalize (L - (xs.length : Int) - (wsz (xs.take k) : Int)) = L1 at *
        go_wp2
        go_ret
        rw [HZ.out]
        exact ⟨rfl, hbel⟩

set_option maxRecDepth 100000 in
set_option maxHeartbeats 1600000 in
theorem toWd_any (kn : ByteArray) (sc : Bool) (w : World) :
    Calls Tryz.prog 23 #[.agg #[.string kn, .bool sc]] w fun e w' => e = .returned (.agg #[.string kn, .bool sc]) ∧ Below w.heap.size w w' := by
  go_enter Tryz.func23, Tryz.ntmps23
  go_wp2
  refine bodyPost_ret (v := .agg #[.string kn, .bool sc]) ?_ rfl ⟨rfl, ?_⟩
  · simp [results, Tryz.results23, go_sem, Result.andThen]
  · exact (((Below.refl _ _).alloc (Nat.le_refl _) _).alloc (by simp) _).alloc (by simp; omega) _

theorem setW2 {cs : List Value} {k : Nat} {A : List Value} (a b : Value) (hl : k * 2 + 2 ≤ cs.length) (h : cs.take (k * 2) = A) :
    ((cs.set (k * 2) a).set (k * 2 + 1) b).take ((k + 1) * 2) = A ++ [a, b] := by
  have hs : cs = cs.take (k * 2) ++ cs.drop (k * 2) := (List.take_append_drop _ _).symm
  have hdl : 2 ≤ (cs.drop (k * 2)).length := by simp; omega
  have hpl : (cs.take (k * 2)).length = k * 2 := by simp; omega
  rw [h] at hs hpl
  obtain ⟨q, hq⟩ : ∃ q, q = cs.drop (k * 2) := ⟨_, rfl⟩
  rw [← hq] at hs hdl
  match q, hdl with
  | y0 :: y1 :: r, _ =>
    rw [hs]
    simp only [List.set_append, hpl, Nat.lt_irrefl, if_false, Nat.sub_self, show ¬ (k * 2 + 1 < k * 2) by omega, Nat.add_sub_cancel_left]
    simp only [List.set_cons_zero, List.set_cons_succ]
    rw [List.take_append, hpl, show (k + 1) * 2 - k * 2 = 2 by omega, List.take_of_length_le (by omega)]
    rfl

theorem Tryz.infoWdz : (Tryz.prog.info? 40).map (fun i => (i.zero, i.size, i.bytes)) = some (some (.agg #[.string ByteArray.empty, .bool false]), 2, 24) := by kernel_rfl

theorem wdw_at {w : World} {B e g n cap k : Nat} {cs : List Value} (h : w.ownsRow B e 2 (.slice (some ⟨g, 0, none⟩) n cap) n cs) (hk : k < n) (j : Nat) (hj : j < 2) : ∃ y, w.cell? ⟨g, k * 2 + j, none⟩ = some y := by
  rw [h.cellAt (k * 2 + j) (by omega)]
  have := h.1
  exact ⟨_, List.getElem?_eq_getElem (by omega)⟩
theorem wdVs_stepS {xs : List Wrd} {k : Nat} {x : Wrd} (hx : xs[k]? = some x) : wdVs (xs.take (k + 1)) = wdVs (xs.take k) ++ [.string x.1, .bool x.2] := by
  rw [List.take_add_one, hx]
  simp [wdVs, wdV]

set_option maxRecDepth 100000 in
set_option maxHeartbeats 1600000 in
theorem toWordS_any (v : Value) (xs : List Wrd) (w : World) (h : CRow w v xs.length 2 (wdVs xs)) (hlen : xs.length ≤ 1048576) :
    Calls Tryz.prog 7 #[v] w fun e w' => ∃ u, e = .returned u ∧ w'.ownsRow w.heap.size 40 2 u xs.length (wdVs xs) ∧ Below w.heap.size w w' := by
  obtain ⟨i0, hi, hz0, hz1, hz2⟩ := info_parts Tryz.infoWdz
  obtain ⟨_, a, cap, rfl, hcap, hmx, hc⟩ := h
  unfold maxLen at hmx
  have hto := fun (r : Wrd) W => toWd_any r.1 r.2 W
  go_enter Tryz.func7, Tryz.ntmps7
  go_wp2_with (at_make; refine wpList_make_full _ rfl (.tmp 6) (.tmp 6) 26 rfl w.heap.size 40 i0 _ 2 Tryz.underlying26 hi hz0 hz1 .i64 .i64 _ _ xs.length rfl rfl rfl rfl (by rw [hz2]; omega) (by unfold maxLen; omega) (Nat.le_refl _) ?_; intro w2 hown0 hgrow0)
  generalize hcs0 : (madeCells (Value.agg #[.string ByteArray.empty, .bool false]).cells (xs.length * 2)).toList = cs0 at hown0
  clear hcs0
  go_loopw [4] (fun i wr => ∃ (k : Nat) (cs : List Value), k ≤ xs.length ∧ i = .int .i64 k ∧ wr.ownsRow w.heap.size 40 2 (.slice (some ⟨w.heap.size, 0, none⟩) xs.length xs.length) xs.length cs ∧ Hid (cs.take (k * 2) = wdVs (xs.take k)) ∧ Below w.heap.size w wr)
    (fun i _ => xs.length - (intOf i).toNat)
  case atStart => exact ⟨0, cs0, Nat.zero_le _, rfl, hown0, by show _ = _; simp [wdVs], (Below.refl _ w).grown hgrow0 (Nat.le_refl _) (fun k hk => by cases hk)⟩
  case round =>
    obtain ⟨k, cs, hk, rfl, hown, HT, hbel⟩ := hrel
    clear hown0 hgrow0
    by_cases hlt : k < xs.length
    · obtain ⟨x, hx⟩ : ∃ x, xs[k]? = some x := ⟨_, List.getElem?_eq_getElem hlt⟩
      obtain ⟨b, off, rfl, hcell⟩ := hc (by omega)
      obtain ⟨c0, c1⟩ := wd_cells hcell hx
      have put : ∀ {O : Nat} {z : Value}, w.cell? ⟨b, O, none⟩ = some z → wr.cell? ⟨b, O, none⟩ = some z := fun h => (hbel.cell (World.block_lt_of_cell? w _ h)).trans h
      replace c0 := put c0
      replace c1 := put c1
      have i1 : (0 : Int) ≤ (k : Int) := by omega
      have i2 : (k : Int) < (xs.length : Int) := by omega
      have hset := setW2 (.string x.1) (.bool x.2) (by have := hown.1; omega) HT.out
      have HT2 : Hid (((cs.set (k * 2) (.string x.1)).set (k * 2 + 1) (.bool x.2)).take ((k + 1) * 2) = wdVs (xs.take (k + 1))) := by
        show _ = _
        rw [hset, wdVs_stepS hx]
      clear hcell hc hset HT
      obtain ⟨da, o⟩ := x
      simp only at c0 c1 HT2
      have hone := hto (da, o) wr
      simp only at hone
      clear hto hx
      go_wp2_with (go_at_call 23; refine hone.mono ?_; rintro e w1 ⟨rfl, hb1⟩; have ho1 := own_below hown hb1; obtain ⟨y0, hy0⟩ := wdw_at ho1 hlt 0 (by decide); obtain ⟨y1, hy1⟩ := wdw_at ho1 hlt 1 (by decide); rw [Nat.add_zero] at hy0; have fz := ho1.frozenAt; clear hone)
      go_roundw
      case rel => exact ⟨k + 1, _, by omega, by go_num, ((ho1.stored (k * 2) _).1.stored (k * 2 + 1) _).1, HT2, ((Nm.below_two hbel hb1).setCell (Nat.le_refl _) _).setCell (Nat.le_refl _) _⟩
      case measure => simp [intOf]; omega
    · have hkl : k = xs.length := by omega
      have hcs : cs = wdVs xs := by
        have e := HT.out
        have hl := hown.1
        rw [hkl, List.take_length, List.take_of_length_le (by omega)] at e
        exact e
      subst hcs
      have i2 : (xs.length : Int) ≤ (k : Int) := by omega
      clear hc hlt HT hto
      go_wp2
      go_ret
      exact ⟨_, rfl, hown, hbel⟩
end Go.Proofs.YtddabafaejahbaaGreatDoor
