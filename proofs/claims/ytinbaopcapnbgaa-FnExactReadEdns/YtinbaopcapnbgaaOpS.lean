import Derived.Test.YtinbaopcapnbgaaCRow
import Derived.RegionTactic
import Derived.BigRegion
/- Options of a message's sender: rows of them; laws.szOption, szOptionS, toOption, toOptionS by their contracts. -/
namespace Go.Proofs.Ytinbaopcapnbgaa
open Go.RowKit
set_option linter.unusedVariables false

/-- the cells of a row of options -/
def opVs (xs : List (Int × ByteArray)) : List Value := xs.flatMap fun k => [.int .i64 k.1, .string k.2]
theorem opVs_len (xs : List (Int × ByteArray)) : (opVs xs).length = xs.length * 2 := by
  induction xs with
  | nil => rfl
  | cons x xs ih =>
    have e : opVs (x :: xs) = [.int .i64 x.1, .string x.2] ++ opVs xs := by simp [opVs]
    rw [e, List.length_append, ih]
    simp
    omega
theorem opVs_at : ∀ (xs : List (Int × ByteArray)) (k j : Nat) (x : Int × ByteArray), xs[k]? = some x → j < 2 → (opVs xs)[k * 2 + j]? = [Value.int .i64 x.1, .string x.2][j]? := by
  intro xs
  induction xs with
  | nil => intro k j x h; simp at h
  | cons y xs ih =>
    intro k j x h hj
    have e : opVs (y :: xs) = [.int .i64 y.1, .string y.2] ++ opVs xs := by simp [opVs]
    cases k with
    | zero =>
      simp at h; subst h
      rw [e, Nat.zero_mul, Nat.zero_add, List.getElem?_append_left (by simpa using hj)]
    | succ k =>
      simp at h
      rw [e, List.getElem?_append_right (by simp; omega), show (k + 1) * 2 + j - [Value.int .i64 y.1, .string y.2].length = k * 2 + j by simp; omega]
      exact ih k j x h hj

/-- The bytes of options, as the laws count them. -/
def osum : List (Int × ByteArray) → Nat
  | [] => 0
  | x :: xs => x.2.size + osum xs
theorem osum_step : ∀ (xs : List (Int × ByteArray)) (k : Nat) (x : Int × ByteArray), xs[k]? = some x → osum (xs.take (k + 1)) = osum (xs.take k) + (x.2.size) := by
  intro xs
  induction xs with
  | nil => intro k x h; simp at h
  | cons y xs ih =>
    intro k x h
    cases k with
    | zero => simp at h; subst h; simp [osum]
    | succ k =>
      simp at h
      have := ih k x h
      simp only [List.take_succ_cons, osum]; omega
theorem osum_take_le : ∀ (xs : List (Int × ByteArray)) (k : Nat), osum (xs.take k) ≤ osum xs := by
  intro xs
  induction xs with
  | nil => intro k; simp [osum]
  | cons y xs ih =>
    intro k
    cases k with
    | zero => simp [osum]
    | succ k => have := ih k; simp only [List.take_succ_cons, osum]; omega
theorem osum_mem : ∀ (xs : List (Int × ByteArray)) (x : Int × ByteArray), x ∈ xs → x.2.size ≤ osum xs := by
  intro xs
  induction xs with
  | nil => intro x h; simp at h
  | cons y xs ih =>
    intro x h
    rcases List.mem_cons.1 h with rfl | h
    · simp only [osum]; omega
    · have := ih x h; simp only [osum]; omega
def szOS (xs : List (Int × ByteArray)) (L : Int) : Int := if (xs.length : Int) + (osum xs : Int) ≤ L then L - xs.length - osum xs else -1
def szOp (x : Int × ByteArray) (L : Int) : Int := if (x.2.size : Int) ≤ L then L - x.2.size else -1

set_option maxRecDepth 100000 in
set_option maxHeartbeats 800000 in
theorem szOp_any (x : Int × ByteArray) (L : Int) (w : World) (h0 : 0 ≤ L) (h1 : L ≤ 1048576) (hd : x.2.size ≤ maxLen) :
    Calls Try.prog 20 #[.agg #[.int .i64 x.1, .string x.2], .int .i64 L] w fun e w' => e = .returned (.int .i64 (szOp x L)) ∧ Below w.heap.size w w' := by
  unfold maxLen at hd
  obtain ⟨o, da⟩ := x
  simp only at hd
  have hB := (Below.refl w.heap.size w).alloc (Nat.le_refl _) (.cells #[.int .i64 o, .string da] 57)
  by_cases hm : L - da.size < 0
  · have HS : Hid (szOp (o, da) L = -1) := if_neg (by simp only; omega)
    go_enter Try.func20, Try.ntmps20
    go_wp2
    go_ret
    rw [HS.out]
    exact ⟨rfl, hB⟩
  · have hm' : 0 ≤ L - da.size := by omega
    have HS : Hid (szOp (o, da) L = L - da.size) := if_pos (by simp only; omega)
    go_enter Try.func20, Try.ntmps20
    go_wp2
    go_ret
    rw [HS.out]
    exact ⟨rfl, hB⟩

theorem op_cells {w : World} {xs : List (Int × ByteArray)} {b off k : Nat} {x : Int × ByteArray} (hc : ∀ (i : Nat) (y : Value), (opVs xs)[i]? = some y → w.cell? ⟨b, off + i, none⟩ = some y) (h : xs[k]? = some x) :
    w.cell? ⟨b, off + k * 2, none⟩ = some (.int .i64 x.1) ∧ w.cell? ⟨b, off + k * 2 + 1, none⟩ = some (.string x.2) :=
  ⟨hc (k * 2) _ ((opVs_at xs k 0 x h (by decide)).trans rfl), hc (k * 2 + 1) _ ((opVs_at xs k 1 x h (by decide)).trans rfl)⟩

set_option maxRecDepth 100000 in
set_option maxHeartbeats 1600000 in
theorem szOptionS_any (v : Value) (xs : List (Int × ByteArray)) (L : Int) (w : World) (h : CRow w v xs.length 2 (opVs xs)) (hx : ∀ r ∈ xs, r.2.size ≤ maxLen) (h0 : 0 ≤ L) (h1 : L ≤ 1048576) :
    Calls Try.prog 5 #[v, .int .i64 L] w fun e w' => e = .returned (.int .i64 (szOS xs L)) ∧ Below w.heap.size w w' := by
  obtain ⟨_, a, cap, rfl, hcap, hmx, hc⟩ := h
  unfold maxLen at hmx
  by_cases hm : L < xs.length
  · have HS : Hid (szOS xs L = -1) := if_neg (by omega)
    have hm' : L - (xs.length : Int) < 0 := by omega
    clear hx hc
    go_enter Try.func5, Try.ntmps5
    go_wp2
    go_ret
    rw [HS.out]
    exact ⟨rfl, Below.refl _ _⟩
  · have hl : (xs.length : Int) ≤ 1048576 := by omega
    have hm' : (0 : Int) ≤ L - (xs.length : Int) := by omega
    have hsz := fun (r : Int × ByteArray) (hr : r ∈ xs) (K : Int) (W : World) (h0 : 0 ≤ K) (h1 : K ≤ 1048576) => szOp_any r K W h0 h1 (hx r hr)
    go_enter Try.func5, Try.ntmps5
    go_wp2
    go_loopw [1, 5] (fun t i wr => ∃ k : Nat, k ≤ xs.length ∧ i = .int .i64 k ∧ t = .int .i64 (L - xs.length - osum (xs.take k)) ∧ Hid ((xs.length : Int) + osum (xs.take k) ≤ L) ∧ Below w.heap.size w wr) (fun _ i _ => xs.length - (intOf i).toNat)
    case atStart => exact ⟨0, Nat.zero_le _, rfl, by simp [osum], by show _ ≤ L; simp [osum]; omega, Below.refl _ _⟩
    case round =>
      obtain ⟨k, hk, rfl, rfl, hle, hbel⟩ := hrel
      by_cases hlt : k < xs.length
      · obtain ⟨x, hxk⟩ : ∃ x, xs[k]? = some x := ⟨_, List.getElem?_eq_getElem hlt⟩
        obtain ⟨b, off, rfl, hcell⟩ := hc (by omega)
        obtain ⟨c0, c1⟩ := op_cells hcell hxk
        have put : ∀ {O : Nat} {z : Value}, w.cell? ⟨b, O, none⟩ = some z → wr.cell? ⟨b, O, none⟩ = some z := fun h => (hbel.cell (World.block_lt_of_cell? w _ h)).trans h
        replace c0 := put c0
        replace c1 := put c1
        have HS : Hid (osum (xs.take (k + 1)) = osum (xs.take k) + (x.2.size)) := osum_step xs k x hxk
        have hs1 : Hid (osum (xs.take (k + 1)) ≤ osum xs) := osum_take_le xs (k + 1)
        have hone := hsz x (List.mem_of_getElem? hxk) (L - xs.length - osum (xs.take k)) wr (by have := hle.out; omega) (by omega)
        have i1 : (0 : Int) ≤ (k : Int) := by omega
        have i2 : (k : Int) < (xs.length : Int) := by omega
        by_cases hb : (x.2.size : Int) ≤ L - xs.length - osum (xs.take k)
        · have e1 : szOp x (L - xs.length - osum (xs.take k)) = L - xs.length - osum (xs.take (k + 1)) := by
            have := HS.out
            rw [szOp, if_pos hb]; omega
          have hnn : 0 ≤ L - (xs.length : Int) - osum (xs.take (k + 1)) := by have := HS.out; omega
          have hle2 : Hid ((xs.length : Int) + osum (xs.take (k + 1)) ≤ L) := by show _ ≤ L; omega
          rw [e1] at hone
          clear hxk hcell hc hx hsz HS hb e1 hs1
          generalize hL2 : (L - (xs.length : Int) - (osum (xs.take (k + 1)) : Int)) = L2 at *
          generalize (L - (xs.length : Int) - (osum (xs.take k) : Int)) = L1 at *
          go_wp2_with (go_at_call 20; refine hone.mono ?_; rintro e w1 ⟨rfl, hb1⟩)
          go_roundw
          case rel => exact ⟨k + 1, by omega, by go_num, by rw [hL2], hle2, Nm.below_two hbel hb1⟩
          case measure => simp [intOf]; omega
        · have HZ : Hid (szOS xs L = -1) := if_neg (by have := HS.out; have := hs1.out; omega)
          have e1 : szOp x (L - xs.length - osum (xs.take k)) = -1 := if_neg hb
          rw [e1] at hone
          clear hxk hcell hc hx hsz HS hb e1 hs1
          generalize (L - (xs.length : Int) - (osum (xs.take k) : Int)) = L1 at *
          go_wp2_with (go_at_call 20; refine hone.mono ?_; rintro e w1 ⟨rfl, hb1⟩)
          go_ret
          rw [HZ.out]
          exact ⟨rfl, Nm.below_two hbel hb1⟩
      · have hkl : k = xs.length := by omega
        have HZ : Hid (szOS xs L = L - xs.length - osum (xs.take k)) := by
          have := hle.out
          rw [hkl, List.take_length] at this ⊢
          exact if_pos this
        have i2 : (xs.length : Int) ≤ (k : Int) := by omega
        clear hc hx hsz
        generalize (L - (xs.length : Int) - (osum (xs.take k) : Int)) = L1 at *
        go_wp2
        go_ret
        rw [HZ.out]
        exact ⟨rfl, hbel⟩

set_option maxRecDepth 100000 in
set_option maxHeartbeats 1600000 in
theorem toOp_any (kn : Int) (sc : ByteArray) (w : World) :
    Calls Try.prog 23 #[.agg #[.int .i64 kn, .string sc]] w fun e w' => e = .returned (.agg #[.int .i64 kn, .string sc]) ∧ Below w.heap.size w w' := by
  go_enter Try.func23, Try.ntmps23
  go_wp2
  refine bodyPost_ret (v := .agg #[.int .i64 kn, .string sc]) ?_ rfl ⟨rfl, ?_⟩
  · simp [results, Try.results23, go_sem, Result.andThen]
  · exact (((Below.refl _ _).alloc (Nat.le_refl _) _).alloc (by simp) _).alloc (by simp; omega) _

theorem setO2 {cs : List Value} {k : Nat} {A : List Value} (a b : Value) (hl : k * 2 + 2 ≤ cs.length) (h : cs.take (k * 2) = A) :
    ((cs.set (k * 2) a).set (k * 2 + 1) b).take ((k + 1) * 2) = A ++ [a, b] := by
  have hs : cs = cs.take (k * 2) ++ cs.drop (k * 2) := (List.take_append_drop _ _).symm
  have hdl : 2 ≤ (cs.drop (k * 2)).length := by simp; omega
  have hpl : (cs.take (k * 2)).length = k * 2 := by simp; omega
  rw [h] at hs hpl
  obtain ⟨q, hq⟩ : ∃ q, q = cs.drop (k * 2) := ⟨_, rfl⟩
  rw [← hq] at hs hdl
  match q, hdl with
  | y0 :: y1 :: r, _ =>
    rw [hs]
    simp only [List.set_append, hpl, Nat.lt_irrefl, if_false, Nat.sub_self, show ¬ (k * 2 + 1 < k * 2) by omega, Nat.add_sub_cancel_left]
    simp only [List.set_cons_zero, List.set_cons_succ]
    rw [List.take_append, hpl, show (k + 1) * 2 - k * 2 = 2 by omega, List.take_of_length_le (by omega)]
    rfl

theorem Try.infoOpz : (Try.prog.info? 60).map (fun i => (i.zero, i.size, i.bytes)) = some (some (.agg #[.int .i64 0, .string ByteArray.empty]), 2, 24) := by kernel_rfl

theorem optw_at {w : World} {B e g n cap k : Nat} {cs : List Value} (h : w.ownsRow B e 2 (.slice (some ⟨g, 0, none⟩) n cap) n cs) (hk : k < n) (j : Nat) (hj : j < 2) : ∃ y, w.cell? ⟨g, k * 2 + j, none⟩ = some y := by
  rw [h.cellAt (k * 2 + j) (by omega)]
  have := h.1
  exact ⟨_, List.getElem?_eq_getElem (by omega)⟩
theorem opVs_step {xs : List (Int × ByteArray)} {k : Nat} {x : Int × ByteArray} (hx : xs[k]? = some x) : opVs (xs.take (k + 1)) = opVs (xs.take k) ++ [.int .i64 x.1, .string x.2] := by
  rw [List.take_add_one, hx]
  simp [opVs]

set_option maxRecDepth 100000 in
set_option maxHeartbeats 1600000 in
theorem toOptionS_any (v : Value) (xs : List (Int × ByteArray)) (w : World) (h : CRow w v xs.length 2 (opVs xs)) (hlen : xs.length ≤ 1048576) :
    Calls Try.prog 7 #[v] w fun e w' => ∃ u, e = .returned u ∧ w'.ownsRow w.heap.size 60 2 u xs.length (opVs xs) ∧ Below w.heap.size w w' := by
  obtain ⟨i0, hi, hz0, hz1, hz2⟩ := info_parts Try.infoOpz
  obtain ⟨_, a, cap, rfl, hcap, hmx, hc⟩ := h
  unfold maxLen at hmx
  have hto := fun (r : Int × ByteArray) W => toOp_any r.1 r.2 W
  go_enter Try.func7, Try.ntmps7
  go_wp2_with (at_make; refine wpList_make_full _ rfl (.tmp 6) (.tmp 6) 28 rfl w.heap.size 60 i0 _ 2 Try.underlying28 hi hz0 hz1 .i64 .i64 _ _ xs.length rfl rfl rfl rfl (by rw [hz2]; omega) (by unfold maxLen; omega) (Nat.le_refl _) ?_; intro w2 hown0 hgrow0)
  generalize hcs0 : (madeCells (Value.agg #[.int .i64 0, .string ByteArray.empty]).cells (xs.length * 2)).toList = cs0 at hown0
  clear hcs0
  go_loopw [4] (fun i wr => ∃ (k : Nat) (cs : List Value), k ≤ xs.length ∧ i = .int .i64 k ∧ wr.ownsRow w.heap.size 60 2 (.slice (some ⟨w.heap.size, 0, none⟩) xs.length xs.length) xs.length cs ∧ Hid (cs.take (k * 2) = opVs (xs.take k)) ∧ Below w.heap.size w wr)
    (fun i _ => xs.length - (intOf i).toNat)
  case atStart => exact ⟨0, cs0, Nat.zero_le _, rfl, hown0, by show _ = _; simp [opVs], (Below.refl _ w).grown hgrow0 (Nat.le_refl _) (fun k hk => by cases hk)⟩
  case round =>
    obtain ⟨k, cs, hk, rfl, hown, HT, hbel⟩ := hrel
    clear hown0 hgrow0
    by_cases hlt : k < xs.length
    · obtain ⟨x, hx⟩ : ∃ x, xs[k]? = some x := ⟨_, List.getElem?_eq_getElem hlt⟩
      obtain ⟨b, off, rfl, hcell⟩ := hc (by omega)
      obtain ⟨c0, c1⟩ := op_cells hcell hx
      have put : ∀ {O : Nat} {z : Value}, w.cell? ⟨b, O, none⟩ = some z → wr.cell? ⟨b, O, none⟩ = some z := fun h => (hbel.cell (World.block_lt_of_cell? w _ h)).trans h
      replace c0 := put c0
      replace c1 := put c1
      have i1 : (0 : Int) ≤ (k : Int) := by omega
      have i2 : (k : Int) < (xs.length : Int) := by omega
      have hset := setO2 (.int .i64 x.1) (.string x.2) (by have := hown.1; omega) HT.out
      have HT2 : Hid (((cs.set (k * 2) (.int .i64 x.1)).set (k * 2 + 1) (.string x.2)).take ((k + 1) * 2) = opVs (xs.take (k + 1))) := by
        show _ = _
        rw [hset, opVs_step hx]
      clear hcell hc hset HT
      obtain ⟨o, da⟩ := x
      simp only at c0 c1 HT2
      have hone := hto (o, da) wr
      simp only at hone
      clear hto hx
      go_wp2_with (go_at_call 23; refine hone.mono ?_; rintro e w1 ⟨rfl, hb1⟩; have ho1 := own_below hown hb1; obtain ⟨y0, hy0⟩ := optw_at ho1 hlt 0 (by decide); obtain ⟨y1, hy1⟩ := optw_at ho1 hlt 1 (by decide); rw [Nat.add_zero] at hy0; have fz := ho1.frozenAt; clear hone)
      go_roundw
      case rel => exact ⟨k + 1, _, by omega, by go_num, ((ho1.stored (k * 2) _).1.stored (k * 2 + 1) _).1, HT2, ((Nm.below_two hbel hb1).setCell (Nat.le_refl _) _).setCell (Nat.le_refl _) _⟩
      case measure => simp [intOf]; omega
    · have hkl : k = xs.length := by omega
      have hcs : cs = opVs xs := by
        have e := HT.out
        have hl := hown.1
        rw [hkl, List.take_length, List.take_of_length_le (by omega)] at e
        exact e
      subst hcs
      have i2 : (xs.length : Int) ≤ (k : Int) := by omega
      clear hc hlt HT hto
      go_wp2
      go_ret
      exact ⟨_, rfl, hown, hbel⟩
end Go.Proofs.Ytinbaopcapnbgaa
