import Derived.Test.YtfficbpalibmoaaGreatDoorJJoin
import Derived.RegionTactic
import Derived.BigRegion
import Derived.Test.YtfficbpalibmoaaGreatDoorJVfW
import Derived.Deep.RegionHeld3
import Derived.Deep.Slices
import Derived.ChangeSame
import Derived.Test.YtfficbpalibmoaaGreatDoorRows
import Derived.ProofKit
import Derived.LaidMore
import Derived.OpenShut
import Derived.Below
import Derived.Lib.LaidTab
import Derived.MakeChecks
/- laws.szKey, szKeyS, toKey, toKeyS by their contracts. -/
namespace Go.Proofs.YtfficbpalibmoaaGreatDoor
open Go.RowKit
set_option linter.unusedVariables false

/-- The bytes of keys, as the laws count them. -/
def ksum : List (ByteArray × ByteArray) → Nat
  | [] => 0
  | x :: xs => x.1.size + x.2.size + ksum xs
theorem ksum_step : ∀ (xs : List (ByteArray × ByteArray)) (k : Nat) (x : ByteArray × ByteArray), xs[k]? = some x → ksum (xs.take (k + 1)) = ksum (xs.take k) + (x.1.size + x.2.size) := by
  intro xs
  induction xs with
  | nil => intro k x h; simp at h
  | cons y xs ih =>
    intro k x h
    cases k with
    | zero => simp at h; subst h; simp [ksum]
    | succ k =>
      simp at h
      have := ih k x h
      simp only [List.take_succ_cons, ksum]; omega
theorem ksum_take_le : ∀ (xs : List (ByteArray × ByteArray)) (k : Nat), ksum (xs.take k) ≤ ksum xs := by
  intro xs
  induction xs with
  | nil => intro k; simp [ksum]
  | cons y xs ih =>
    intro k
    cases k with
    | zero => simp [ksum]
    | succ k => have := ih k; simp only [List.take_succ_cons, ksum]; omega
theorem ksum_mem : ∀ (xs : List (ByteArray × ByteArray)) (x : ByteArray × ByteArray), x ∈ xs → x.1.size + x.2.size ≤ ksum xs := by
  intro xs
  induction xs with
  | nil => intro x h; simp at h
  | cons y xs ih =>
    intro x h
    rcases List.mem_cons.1 h with rfl | h
    · simp only [ksum]; omega
    · have := ih x h; simp only [ksum]; omega
def szKS (xs : List (ByteArray × ByteArray)) (L : Int) : Int := if (xs.length : Int) + (ksum xs : Int) ≤ L then L - xs.length - ksum xs else -1
def szKy (x : ByteArray × ByteArray) (L : Int) : Int := if (x.1.size : Int) + x.2.size ≤ L then L - x.1.size - x.2.size else -1

set_option maxRecDepth 100000 in
set_option maxHeartbeats 800000 in
theorem szKy_any (x : ByteArray × ByteArray) (L : Int) (w : World) (h0 : 0 ≤ L) (h1 : L ≤ 1048576) (ho : x.1.size ≤ maxLen) (hd : x.2.size ≤ maxLen) :
    Calls Tryz.prog 16 #[.agg #[.string x.1, .string x.2], .int .i64 L] w fun e w' => e = .returned (.int .i64 (szKy x L)) ∧ Below w.heap.size w w' := by
  unfold maxLen at ho hd
  obtain ⟨o, da⟩ := x
  simp only at ho hd
  have hB := (Below.refl w.heap.size w).alloc (Nat.le_refl _) (.cells #[.string o, .string da] 40)
  by_cases hm : L - o.size < 0
  · have HS : Hid (szKy (o, da) L = -1) := if_neg (by simp only; omega)
    go_enter Tryz.func16, Tryz.ntmps16
    go_wp2
    go_ret
    rw [HS.out]
    exact ⟨rfl, hB⟩
  · have hm' : 0 ≤ L - o.size := by omega
    by_cases hn : L - o.size - da.size < 0
    · have HS : Hid (szKy (o, da) L = -1) := if_neg (by simp only; omega)
      go_enter Tryz.func16, Tryz.ntmps16
      go_wp2
      go_ret
      rw [HS.out]
      exact ⟨rfl, hB⟩
    · have hn' : 0 ≤ L - o.size - da.size := by omega
      have HS : Hid (szKy (o, da) L = L - o.size - da.size) := if_pos (by simp only; omega)
      go_enter Tryz.func16, Tryz.ntmps16
      go_wp2
      go_ret
      rw [HS.out]
      exact ⟨rfl, hB⟩

theorem ky_cells {w : World} {xs : List (ByteArray × ByteArray)} {b off k : Nat} {x : ByteArray × ByteArray} (hc : ∀ (i : Nat) (y : Value), (kyVs xs)[i]? = some y → w.cell? ⟨b, off + i, none⟩ = some y) (h : xs[k]? = some x) :
    w.cell? ⟨b, off + k * 2, none⟩ = some (.string x.1) ∧ w.cell? ⟨b, off + k * 2 + 1, none⟩ = some (.string x.2) :=
  ⟨hc (k * 2) _ ((kyVs_at xs k 0 x h (by decide)).trans rfl), hc (k * 2 + 1) _ ((kyVs_at xs k 1 x h (by decide)).trans rfl)⟩

set_option maxRecDepth 100000 in
set_option maxHeartbeats 1600000 in
theorem szKeyS_any (v : Value) (xs : List (ByteArray × ByteArray)) (L : Int) (w : World) (h : CRow w v xs.length 2 (kyVs xs)) (hx : ∀ r ∈ xs, r.1.size ≤ maxLen ∧ r.2.size ≤ maxLen) (h0 : 0 ≤ L) (h1 : L ≤ 1048576) :
    Calls Tryz.prog 4 #[v, .int .i64 L] w fun e w' => e = .returned (.int .i64 (szKS xs L)) ∧ Below w.heap.size w w' := by
  obtain ⟨_, a, cap, rfl, hcap, hmx, hc⟩ := h
  unfold maxLen at hmx
  by_cases hm : L < xs.length
  · have HS : Hid (szKS xs L = -1) := if_neg (by omega)
    have hm' : L - (xs.length : Int) < 0 := by omega
    clear hx hc
    go_enter Tryz.func4, Tryz.ntmps4
    go_wp2
    go_ret
    rw [HS.out]
    exact ⟨rfl, Below.refl _ _⟩
  · have hl : (xs.length : Int) ≤ 1048576 := by omega
    have hm' : (0 : Int) ≤ L - (xs.length : Int) := by omega
    have hsz := fun (r : ByteArray × ByteArray) (hr : r ∈ xs) (K : Int) (W : World) (h0 : 0 ≤ K) (h1 : K ≤ 1048576) => szKy_any r K W h0 h1 (hx r hr).1 (hx r hr).2
    go_enter Tryz.func4, Tryz.ntmps4
    go_wp2
    go_loopw [1, 5] (fun t i wr => ∃ k : Nat, k ≤ xs.length ∧ i = .int .i64 k ∧ t = .int .i64 (L - xs.length - ksum (xs.take k)) ∧ Hid ((xs.length : Int) + ksum (xs.take k) ≤ L) ∧ Below w.heap.size w wr) (fun _ i _ => xs.length - (intOf i).toNat)
    case atStart => exact ⟨0, Nat.zero_le _, rfl, by simp [ksum], by show _ ≤ L; simp [ksum]; omega, Below.refl _ _⟩
    case round =>
      obtain ⟨k, hk, rfl, rfl, hle, hbel⟩ := hrel
      by_cases hlt : k < xs.length
      · obtain ⟨x, hxk⟩ : ∃ x, xs[k]? = some x := ⟨_, List.getElem?_eq_getElem hlt⟩
        obtain ⟨b, off, rfl, hcell⟩ := hc (by omega)
        obtain ⟨c0, c1⟩ := ky_cells hcell hxk
        have put : ∀ {O : Nat} {z : Value}, w.cell? ⟨b, O, none⟩ = some z → wr.cell? ⟨b, O, none⟩ = some z := fun h => (hbel.cell (World.block_lt_of_cell? w _ h)).trans h
        replace c0 := put c0
        replace c1 := put c1
        have HS : Hid (ksum (xs.take (k + 1)) = ksum (xs.take k) + (x.1.size + x.2.size)) := ksum_step xs k x hxk
        have hs1 : Hid (ksum (xs.take (k + 1)) ≤ ksum xs) := ksum_take_le xs (k + 1)
        have hone := hsz x (List.mem_of_getElem? hxk) (L - xs.length - ksum (xs.take k)) wr (by have := hle.out; omega) (by omega)
        have i1 : (0 : Int) ≤ (k : Int) := by omega
        have i2 : (k : Int) < (xs.length : Int) := by omega
        by_cases hb : (x.1.size : Int) + x.2.size ≤ L - xs.length - ksum (xs.take k)
        · have e1 : szKy x (L - xs.length - ksum (xs.take k)) = L - xs.length - ksum (xs.take (k + 1)) := by
            have := HS.out
            rw [szKy, if_pos hb]; omega
          have hnn : 0 ≤ L - (xs.length : Int) - ksum (xs.take (k + 1)) := by have := HS.out; omega
          have hle2 : Hid ((xs.length : Int) + ksum (xs.take (k + 1)) ≤ L) := by show _ ≤ L; omega
          rw [e1] at hone
          clear hxk hcell hc hx hsz HS hb e1 hs1
          generalize hL2 : (L - (xs.length : Int) - (ksum (xs.take (k + 1)) : Int)) = L2 at *
          generalize (L - (xs.length : Int) - (ksum (xs.take k) : Int)) = L1 at *
          go_wp2_with (go_at_call 16; refine hone.mono ?_; rintro e w1 ⟨rfl, hb1⟩)
          go_roundw
          case rel => exact ⟨k + 1, by omega, by go_num, by rw [hL2], hle2, Nm.below_two hbel hb1⟩
          case measure => simp [intOf]; omega
        · have HZ : Hid (szKS xs L = -1) := if_neg (by have := HS.out; have := hs1.out; omega)
          have e1 : szKy x (L - xs.length - ksum (xs.take k)) = -1 := if_neg hb
          rw [e1] at hone
          clear hxk hcell hc hx hsz HS hb e1 hs1
          generalize (L - (xs.length : Int) - (ksum (xs.take k) : Int)) = L1 at *
          go_wp2_with (go_at_call 16; refine hone.mono ?_; rintro e w1 ⟨rfl, hb1⟩)
          go_ret
          rw [HZ.out]
          exact ⟨rfl, Nm.below_two hbel hb1⟩
      · have hkl : k = xs.length := by omega
        have HZ : Hid (szKS xs L = L - xs.length - ksum (xs.take k)) := by
          have := hle.out
          rw [hkl, List.take_length] at this ⊢
          exact if_pos this
        have i2 : (xs.length : Int) ≤ (k : Int) := by omega
        clear hc hx hsz
        generalize (L - (xs.length : Int) - (ksum (xs.take k) : Int)) = L1 at *
        go_wp2
        go_ret
        rw [HZ.out]
        exact ⟨rfl, hbel⟩

set_option maxRecDepth 100000 in
set_option maxHeartbeats 1600000 in
theorem toKy_any (kn sc : ByteArray) (w : World) :
    Calls Tryz.prog 26 #[.agg #[.string kn, .string sc]] w fun e w' => e = .returned (.agg #[.string kn, .string sc]) ∧ Below w.heap.size w w' := by
  go_enter Tryz.func26, Tryz.ntmps26
  go_wp2
  refine bodyPost_ret (v := .agg #[.string kn, .string sc]) ?_ rfl ⟨rfl, ?_⟩
  · simp [results, Tryz.results26, go_sem, Result.andThen]
  · exact (((Below.refl _ _).alloc (Nat.le_refl _) _).alloc (by simp) _).alloc (by simp; omega) _

theorem set2 {cs : List Value} {k : Nat} {A : List Value} (a b : Value) (hl : k * 2 + 2 ≤ cs.length) (h : cs.take (k * 2) = A) :
    ((cs.set (k * 2) a).set (k * 2 + 1) b).take ((k + 1) * 2) = A ++ [a, b] := by
  have hs : cs = cs.take (k * 2) ++ cs.drop (k * 2) := (List.take_append_drop _ _).symm
  have hdl : 2 ≤ (cs.drop (k * 2)).length := by simp; omega
  have hpl : (cs.take (k * 2)).length = k * 2 := by simp; omega
  rw [h] at hs hpl
  obtain ⟨q, hq⟩ : ∃ q, q = cs.drop (k * 2) := ⟨_, rfl⟩
  rw [← hq] at hs hdl
  match q, hdl with
  | y0 :: y1 :: r, _ =>
    rw [hs]
    simp only [List.set_append, hpl, Nat.lt_irrefl, if_false, Nat.sub_self, show ¬ (k * 2 + 1 < k * 2) by omega, Nat.add_sub_cancel_left]
    simp only [List.set_cons_zero, List.set_cons_succ]
    rw [List.take_append, hpl, show (k + 1) * 2 - k * 2 = 2 by omega, List.take_of_length_le (by omega)]
    rfl

theorem Tryz.infoKyz : (Tryz.prog.info? 52).map (fun i => (i.zero, i.size, i.bytes)) = some (some (.agg #[.string ByteArray.empty, .string ByteArray.empty]), 2, 32) := by kernel_rfl

theorem two_at {w : World} {B e g n cap k : Nat} {cs : List Value} (h : w.ownsRow B e 2 (.slice (some ⟨g, 0, none⟩) n cap) n cs) (hk : k < n) (j : Nat) (hj : j < 2) : ∃ y, w.cell? ⟨g, k * 2 + j, none⟩ = some y := by
  rw [h.cellAt (k * 2 + j) (by omega)]
  have := h.1
  exact ⟨_, List.getElem?_eq_getElem (by omega)⟩
theorem kyVs_step {xs : List (ByteArray × ByteArray)} {k : Nat} {x : ByteArray × ByteArray} (hx : xs[k]? = some x) : kyVs (xs.take (k + 1)) = kyVs (xs.take k) ++ [.string x.1, .string x.2] := by
  rw [List.take_add_one, hx]
  simp [kyVs]

set_option maxRecDepth 100000 in
set_option maxHeartbeats 1600000 in
theorem toKeyS_any (v : Value) (xs : List (ByteArray × ByteArray)) (w : World) (h : CRow w v xs.length 2 (kyVs xs)) (hlen : xs.length ≤ 1048576) :
    Calls Tryz.prog 7 #[v] w fun e w' => ∃ u, e = .returned u ∧ w'.ownsRow w.heap.size 52 2 u xs.length (kyVs xs) ∧ Below w.heap.size w w' := by
  obtain ⟨i0, hi, hz0, hz1, hz2⟩ := info_parts Tryz.infoKyz
  obtain ⟨_, a, cap, rfl, hcap, hmx, hc⟩ := h
  unfold maxLen at hmx
  have hto := fun (r : ByteArray × ByteArray) W => toKy_any r.1 r.2 W
  go_enter Tryz.func7, Tryz.ntmps7
  go_wp2_with (at_make; refine wpList_make_full _ rfl (.tmp 6) (.tmp 6) 29 rfl w.heap.size 52 i0 _ 2 Tryz.underlying29 hi hz0 hz1 .i64 .i64 _ _ xs.length rfl rfl rfl rfl (by rw [hz2]; omega) (by unfold maxLen; omega) (Nat.le_refl _) ?_; intro w2 hown0 hgrow0)
  generalize hcs0 : (madeCells (Value.agg #[.string ByteArray.empty, .string ByteArray.empty]).cells (xs.length * 2)).toList = cs0 at hown0
  clear hcs0
  go_loopw [4] (fun i wr => ∃ (k : Nat) (cs : List Value), k ≤ xs.length ∧ i = .int .i64 k ∧ wr.ownsRow w.heap.size 52 2 (.slice (some ⟨w.heap.size, 0, none⟩) xs.length xs.length) xs.length cs ∧ Hid (cs.take (k * 2) = kyVs (xs.take k)) ∧ Below w.heap.size w wr)
    (fun i _ => xs.length - (intOf i).toNat)
  case atStart => exact ⟨0, cs0, Nat.zero_le _, rfl, hown0, by show _ = _; simp [kyVs], (Below.refl _ w).grown hgrow0 (Nat.le_refl _) (fun k hk => by cases hk)⟩
  case round =>
    obtain ⟨k, cs, hk, rfl, hown, HT, hbel⟩ := hrel
    clear hown0 hgrow0
    by_cases hlt : k < xs.length
    · obtain ⟨x, hx⟩ : ∃ x, xs[k]? = some x := ⟨_, List.getElem?_eq_getElem hlt⟩
      obtain ⟨b, off, rfl, hcell⟩ := hc (by omega)
      obtain ⟨c0, c1⟩ := ky_cells hcell hx
      have put : ∀ {O : Nat} {z : Value}, w.cell? ⟨b, O, none⟩ = some z → wr.cell? ⟨b, O, none⟩ = some z := fun h => (hbel.cell (World.block_lt_of_cell? w _ h)).trans h
      replace c0 := put c0
      replace c1 := put c1
      have i1 : (0 : Int) ≤ (k : Int) := by omega
      have i2 : (k : Int) < (xs.length : Int) := by omega
      have hset := set2 (.string x.1) (.string x.2) (by have := hown.1; omega) HT.out
      have HT2 : Hid (((cs.set (k * 2) (.string x.1)).set (k * 2 + 1) (.string x.2)).take ((k + 1) * 2) = kyVs (xs.take (k + 1))) := by
        show _ = _
        rw [hset, kyVs_step hx]
      clear hcell hc hset HT
      obtain ⟨o, da⟩ := x
      simp only at c0 c1 HT2
      have hone := hto (o, da) wr
      simp only at hone
      clear hto hx
      go_wp2_with (go_at_call 26; refine hone.mono ?_; rintro e w1 ⟨rfl, hb1⟩; have ho1 := own_below hown hb1; obtain ⟨y0, hy0⟩ := two_at ho1 hlt 0 (by decide); obtain ⟨y1, hy1⟩ := two_at ho1 hlt 1 (by decide); rw [Nat.add_zero] at hy0; have fz := ho1.frozenAt; clear hone)
      go_roundw
      case rel => exact ⟨k + 1, _, by omega, by go_num, ((ho1.stored (k * 2) _).1.stored (k * 2 + 1) _).1, HT2, ((Nm.below_two hbel hb1).setCell (Nat.le_refl _) _).setCell (Nat.le_refl _) _⟩
      case measure => simp [intOf]; omega
    · have hkl : k = xs.length := by omega
      have hcs : cs = kyVs xs := by
        have e := HT.out
        have hl := hown.1
        rw [hkl, List.take_length, List.take_of_length_le (by omega)] at e
        exact e
      subst hcs
      have i2 : (xs.length : Int) ≤ (k : Int) := by omega
      clear hc hlt HT hto
      go_wp2
      go_ret
      exact ⟨_, rfl, hown, hbel⟩
end Go.Proofs.YtfficbpalibmoaaGreatDoor
/- laws.eqKey, eqKeyS, markKeyS by their contracts. -/
namespace Go.Proofs.YtfficbpalibmoaaGreatDoor
open Go.RowKit
set_option linter.unusedVariables false

set_option maxRecDepth 100000 in
set_option maxHeartbeats 400000 in
theorem eqKy_any (s t : ByteArray) (w : World) :
    Calls Tryz.prog 35 #[.agg #[.string s, .string t], .agg #[.string s, .string t]] w fun e w' => e = .returned (.bool true) ∧ Below w.heap.size w w' := by
  obtain ⟨e3, e4⟩ := mr_ne s
  obtain ⟨e6, e7⟩ := mr_ne t
  go_enter Tryz.func35, Tryz.ntmps35
  go_wp2
  go_ret
  exact ⟨rfl, ((Below.refl _ _).alloc (Nat.le_refl _) _).alloc (by simp) _⟩

set_option maxRecDepth 100000 in
set_option maxHeartbeats 1600000 in
theorem eqKeyS_any (v u : Value) (xs : List (ByteArray × ByteArray)) (w : World) (h : CRow w v xs.length 2 (kyVs xs)) (h' : CRow w u xs.length 2 (kyVs xs)) :
    Calls Tryz.prog 11 #[v, u] w fun e w' => e = .returned (.bool true) ∧ Below w.heap.size w w' := by
  obtain ⟨_, a, cap, rfl, hcap, hmx, hc⟩ := h
  obtain ⟨_, a', cap', rfl, hcap', hmx', hc'⟩ := h'
  unfold maxLen at hmx hmx'
  have hne : ((xs.length : Int) != (xs.length : Int)) = false := by simp
  go_enter Tryz.func11, Tryz.ntmps11
  go_wp2
  go_loopw [5] (fun i wr => ∃ k : Nat, k ≤ xs.length ∧ i = .int .i64 k ∧ Below w.heap.size w wr) (fun i _ => xs.length - (intOf i).toNat)
  case atStart => exact ⟨0, Nat.zero_le _, rfl, Below.refl _ _⟩
  case round =>
    obtain ⟨k, hk, rfl, hbel⟩ := hrel
    by_cases hlt : k < xs.length
    · obtain ⟨x, hx⟩ : ∃ x, xs[k]? = some x := ⟨_, List.getElem?_eq_getElem hlt⟩
      obtain ⟨b, off, rfl, hcell⟩ := hc (by omega)
      obtain ⟨b', off', rfl, hcell'⟩ := hc' (by omega)
      have R1 := ky_cells hcell hx
      have R2 := ky_cells hcell' hx
      obtain ⟨o, da⟩ := x
      simp only at R1 R2
      have hS : ∀ W, Below w.heap.size w W → ((W.cell? ⟨b, off + k * 2, none⟩ = some (.string o) ∧ W.cell? ⟨b, off + k * 2 + 1, none⟩ = some (.string da)) ∧ (W.cell? ⟨b', off' + k * 2, none⟩ = some (.string o) ∧ W.cell? ⟨b', off' + k * 2 + 1, none⟩ = some (.string da))) ∧ Below w.heap.size w W := by
        intro W hW
        have put : ∀ {B O : Nat} {z : Value}, w.cell? ⟨B, O, none⟩ = some z → W.cell? ⟨B, O, none⟩ = some z := fun h => (hW.cell (World.block_lt_of_cell? w _ h)).trans h
        exact ⟨⟨⟨put R1.1, put R1.2⟩, ⟨put R2.1, put R2.2⟩⟩, hW⟩
      have hS0 := hS wr.drew hbel.drew
      have heq := fun W (hW : Below w.heap.size w W) => (eqKy_any o da W).mono (R' := fun e w' => e = .returned (.bool true) ∧ Below w.heap.size w w') (by rintro e w' ⟨he, hb⟩; exact ⟨he, hW.trans (hb.mono hW.size)⟩)
      have i1 : (0 : Int) ≤ (k : Int) := by omega
      have i2 : (k : Int) < (xs.length : Int) := by omega
      clear hc hc' hcell hcell' hx R1 R2
      go_wp2
      go_region_held3 (fun W => ((W.cell? ⟨b, off + k * 2, none⟩ = some (.string o) ∧ W.cell? ⟨b, off + k * 2 + 1, none⟩ = some (.string da)) ∧ (W.cell? ⟨b', off' + k * 2, none⟩ = some (.string o) ∧ W.cell? ⟨b', off' + k * 2 + 1, none⟩ = some (.string da))) ∧ Below w.heap.size w W) (first | with_reducible assumption | with_reducible exact hS0) ((first | (go_at_call 35; refine (heq _ hS0.2).mono ?_; rintro e w' ⟨rfl, hb1⟩; have hS1 := hS _ hb1)))
      go_wp2
      go_roundw
      case rel => exact ⟨k + 1, by omega, by go_num, hS1.2⟩
      case measure => simp [intOf]; omega
    · clear hc hc'
      have i2 : (xs.length : Int) ≤ (k : Int) := by omega
      go_wp2
      go_ret
      exact ⟨rfl, hbel⟩

/-- The marks of keys: a text a cell. -/
def mkK (k i : Nat) : Value := .string (mkS (k + i))

set_option maxRecDepth 100000 in
set_option maxHeartbeats 1600000 in
theorem markKeyS_any (v : Value) (n B k : Nat) (xs : List Value) (w : World) (hown : w.ownsRow B 52 2 v n xs) (hB : B ≤ w.heap.size) (hn : n ≤ 1100000) (hk : k ≤ 10000000) :
    Calls Tryz.prog 13 #[v, .int .i64 (k : Int)] w fun e w' => e = .returned (.int .i64 ((k + n * 2 : Nat) : Int)) ∧ w'.ownsRow B 52 2 v n (mkL mkK k (n * 2)) ∧ w.grownBy w' v.ownBlock := by
  have hxl : xs.length = n * 2 := hown.1
  rcases Nat.eq_zero_or_pos n with h0 | hpos
  · subst h0
    obtain ⟨a, cap, rfl⟩ : ∃ a cap, v = .slice a 0 cap := by
      rcases hown.2 with ⟨rfl, _⟩ | ⟨g, cap, cur, rfl, _⟩
      · exact ⟨_, _, rfl⟩
      · exact ⟨_, _, rfl⟩
    have hx0 : xs = [] := List.length_eq_zero_iff.1 (by omega)
    subst hx0
    go_enter Tryz.func13, Tryz.ntmps13
    go_wp2
    go_loop [1, 5] (fun t i => t = .int .i64 (k : Int) ∧ i = .int .i64 0) (fun _ _ => 0)
    case atStart => exact ⟨rfl, rfl⟩
    case round =>
      obtain ⟨rfl, rfl⟩ := hrel
      go_wp2
      go_ret
      exact ⟨rfl, by simpa [mkL] using hown, World.grownBy.refl _ _⟩
  · obtain ⟨g, cap, rfl, hBg⟩ : ∃ g cap, v = .slice (some ⟨g, 0, none⟩) n cap ∧ B ≤ g := by
      rcases hown.2 with ⟨rfl, h0⟩ | ⟨g, cap, cur, rfl, hb, _⟩
      · omega
      · exact ⟨g, cap, rfl, hb⟩
    have hglt := (hown.lt g rfl).2
    go_enter Tryz.func13, Tryz.ntmps13
    go_wp2
    go_loopw [1, 5] (fun t i wr => ∃ j : Nat, j ≤ n ∧ i = .int .i64 (j : Int) ∧ t = .int .i64 ((k + j * 2 : Nat) : Int) ∧ wr.ownsRow B 52 2 (.slice (some ⟨g, 0, none⟩) n cap) n ((mkL mkK k (n * 2)).take (j * 2) ++ xs.drop (j * 2)) ∧ w.grownBy wr (some g))
      (fun _ i _ => n - (intOf i).toNat)
    case atStart => exact ⟨0, Nat.zero_le _, rfl, rfl, by simpa using hown, World.grownBy.refl _ _⟩
    case round =>
      obtain ⟨j, hj, rfl, rfl, hownj, hgr⟩ := hrel
      clear hown
      by_cases hlt : j < n
      · have s0 := mkL_set (f := mkK) (k := k) hxl (i := j * 2) (by omega)
        have s1 := mkL_set (f := mkK) (k := k) hxl (i := j * 2 + 1) (by omega)
        have m0 : mkK k (j * 2) = .string (mkS (k + j * 2)) := rfl
        have m1 : mkK k (j * 2 + 1) = .string (mkS (k + j * 2 + 1)) := rfl
        rw [m0] at s0
        rw [m1] at s1
        have hmt := fun W => markText_any (k + j * 2) W (by omega)
        rw [show (((k + j * 2 : Nat)) : Int) = (k : Int) + (j : Int) * 2 by omega] at hmt
        have hmt4 := fun W => markText_any (k + j * 2 + 1) W (by omega)
        rw [show (((k + j * 2 + 1 : Nat)) : Int) = (k : Int) + (j : Int) * 2 + 1 by omega] at hmt4
        have hg : ∀ (V : World) i u, w.grownBy V (some g) → w.grownBy (V.setCell ⟨g, i, none⟩ u) (some g) := fun V i u h =>
          ⟨h.os, h.tape, h.output, by simpa using h.size, fun q hq hne => by rw [heap_setCell_other V ⟨g, i, none⟩ q _ (fun e => hne (by simp [e]))]; exact h.block q hq hne⟩
        have HST : Hid (∀ W, Below wr.heap.size wr W → (∃ y, W.cell? ⟨g, j * 2, none⟩ = some y) ∧ W.frozen? ⟨g, j * 2, none⟩ = false ∧
            ((W.setCell ⟨g, j * 2, none⟩ (.string (mkS (k + j * 2)))).ownsRow B 52 2 (.slice (some ⟨g, 0, none⟩) n cap) n ((mkL mkK k (n * 2)).take (j * 2 + 1) ++ xs.drop (j * 2 + 1)) ∧ w.grownBy (W.setCell ⟨g, j * 2, none⟩ (.string (mkS (k + j * 2)))) (some g))) := by
          intro W hW
          have h0 := own_below hownj hW
          have o0 := (h0.stored (j * 2) (.string (mkS (k + j * 2)))).1
          rw [s0] at o0
          refine ⟨?_, h0.frozenAt _, o0, ?_⟩
          · rw [h0.cellAt (j * 2) (by omega)]; exact mkL_cell hxl (by omega)
          · exact hg _ _ _ (mr_below hgr hW)
        have HSU : Hid (∀ V W : World, (V.ownsRow B 52 2 (.slice (some ⟨g, 0, none⟩) n cap) n ((mkL mkK k (n * 2)).take (j * 2 + 1) ++ xs.drop (j * 2 + 1)) ∧ w.grownBy V (some g)) → Below V.heap.size V W → (∃ y, W.cell? ⟨g, j * 2 + 1, none⟩ = some y) ∧ W.frozen? ⟨g, j * 2 + 1, none⟩ = false ∧ ((W.setCell ⟨g, j * 2 + 1, none⟩ (.string (mkS (k + j * 2 + 1)))).ownsRow B 52 2 (.slice (some ⟨g, 0, none⟩) n cap) n ((mkL mkK k (n * 2)).take (j * 2 + 1 + 1) ++ xs.drop (j * 2 + 1 + 1)) ∧ w.grownBy (W.setCell ⟨g, j * 2 + 1, none⟩ (.string (mkS (k + j * 2 + 1)))) (some g))) := by
          intro V W hV hW
          have h0 := own_below hV.1 hW
          have o4 := (h0.stored (j * 2 + 1) (.string (mkS (k + j * 2 + 1)))).1
          rw [s1] at o4
          refine ⟨?_, h0.frozenAt _, o4, hg _ _ _ (mr_below hV.2 hW)⟩
          rw [h0.cellAt (j * 2 + 1) (by omega)]; exact mkL_cell hxl (by omega)
        have HE : Hid ((j + 1) * 2 = j * 2 + 1 + 1) := by show _ = _; omega
        generalize mkS (k + j * 2) = ms at *
        generalize mkS (k + j * 2 + 1) = mt at *
        clear s0 s1 m0 m1 hownj hgr hg
        go_wp2_with (first | (go_at_call 36; with_reducible refine (hmt _).mono ?_; rintro e w2 ⟨rfl, hb2⟩; obtain ⟨⟨y0, c0⟩, f0, hx⟩ := HST.out w2 hb2; have HX := Nm.hide hx; clear hx) | (go_at_call 36; with_reducible refine (hmt4 _).mono ?_; rintro e w3 ⟨rfl, hb3⟩; obtain ⟨⟨y4, c4⟩, f4, hx4⟩ := HSU.out _ _ HX.out hb3; have HY := Nm.hide hx4; clear hx4))
        go_roundw
        case rel => exact ⟨j + 1, by omega, by go_num, by go_num, by rw [HE.out]; exact HY.out.1, HY.out.2⟩
        case measure => simp [intOf]; omega
      · have hje : j = n := by omega
        subst hje
        rw [mkL_done hxl] at hownj
        go_wp2
        go_ret
        exact ⟨rfl, hownj, hgr⟩
end Go.Proofs.YtfficbpalibmoaaGreatDoor
/- A slice of keys that came in, opened. -/
namespace Go.Proofs.YtfficbpalibmoaaGreatDoor
open Go.RowKit Go.Deep
set_option linter.unusedVariables false

section
variable {H : Type} {enc : TypeId × Value → H} {w : World} {base : Nat} {spare : Nat → Bool} {held : Bool}

theorem kp_c : Tryz.prog.cellsOf 9 = 1 ∧ Tryz.prog.cellsOf 40 = 2 := ⟨by kernel_rfl, by kernel_rfl⟩

set_option maxRecDepth 100000 in
theorem open_ky {fuel : Nat} {cs : List Value} {x : DataW H × List MemPlace} (h : DataW.trod enc Tryz.prog w base spare held fuel 40 cs = some x) (hl : cs.length = 2) :
    ∃ r : ByteArray × ByteArray, cs = [.string r.1, .string r.2] ∧ r.1.size ≤ maxLen ∧ r.2.size ≤ maxLen := by
  obtain ⟨xs, n, _, _, _, hxl, hf⟩ := DataW.trod_struct Tryz.underlying40 h
  obtain ⟨c1, _⟩ := kp_c
  match cs, hl with
  | [v0, v1], _ =>
    have g0 := hf 0 _ rfl
    have g1 := hf 1 _ rfl
    match xs, hxl with
    | [y0, y1], _ =>
      simp [c1] at g0 g1
      obtain ⟨s0, e0, _, w0⟩ := DataW.trod_string Tryz.underlying9 g0
      obtain ⟨s1, e1, _, w1⟩ := DataW.trod_string Tryz.underlying9 g1
      simp at e0 e1
      subst e0 e1
      exact ⟨(s0, s1), rfl, w0, w1⟩

theorem choose_ky {n : Nat} {p : Nat → ByteArray × ByteArray → Prop} (h : ∀ i, i < n → ∃ x, p i x) : ∃ f : Nat → ByteArray × ByteArray, ∀ i, i < n → p i (f i) := by
  classical
  refine ⟨fun i => if hi : i < n then Classical.choose (h i hi) else (.empty, .empty), fun i hi => ?_⟩
  simp only [dif_pos hi]
  exact Classical.choose_spec (h i hi)

theorem ky_range (f : Nat → ByteArray × ByteArray) : ∀ (n k j : Nat), k < n → j < 2 → (kyVs ((List.range n).map f))[k * 2 + j]? = [Value.string (f k).1, .string (f k).2][j]? := by
  intro n k j hk hj
  exact kyVs_at _ k j (f k) (by simp [hk]) hj

set_option maxRecDepth 100000 in
theorem open_keys {t : TypeId} {fuel : Nat} {v : Value} {x : DataW H × List MemPlace} (ht : Tryz.prog.underlying t = some (.slice 40)) (h : DataW.trod enc Tryz.prog w base spare held fuel t [v] = some x) :
    ∃ xs : List (ByteArray × ByteArray), CRow w v xs.length 2 (kyVs xs) ∧ ∀ r ∈ xs, r.1.size ≤ maxLen ∧ r.2.size ≤ maxLen := by
  rcases open_slice ht h with ⟨e, _⟩ | ⟨a, len, cap, m, n, D, Pl, e, hb, hl, hm, hmm, _, hx⟩
  · simp at e
    subst e
    exact ⟨[], ⟨rfl, none, 0, rfl, Nat.le_refl _, by decide, fun h => absurd h (by simp)⟩, by simp⟩
  · simp at e
    subst e
    have hlm : len ≤ m := by rw [hmm]; split <;> omega
    obtain ⟨_, c5⟩ := kp_c
    rw [c5] at hx
    obtain ⟨f, hf⟩ := choose_ky (n := len) (p := fun i r => (∀ j, j < 2 → w.cell? ((a.add (i * 2)).add j) = [Value.string r.1, .string r.2][j]?) ∧ r.1.size ≤ maxLen ∧ r.2.size ≤ maxLen) (fun i hi => by
      obtain ⟨cs', h1, h2⟩ := hx i (by omega)
      obtain ⟨_, hlen, hcell⟩ := World.cells?_some h1
      obtain ⟨r, rfl, q⟩ := open_ky h2 hlen
      exact ⟨r, hcell, q⟩)
    refine ⟨(List.range len).map f, ⟨?_, some a, cap, by simp, by simpa using hl, hm, fun hpos => ?_⟩, ?_⟩
    · rw [kyVs_len]
    · have hlen : 0 < len := by simpa using hpos
      obtain ⟨b, off, spot⟩ := a
      have h0 := (hf 0 hlen).1 0 (by decide)
      have h0' : w.cell? ((Addr.mk b off spot).add (0 * 2 + 0)) = some (.string (f 0).1) := by rw [← add_add]; exact h0
      have hspot : spot = none := by simpa [Addr.add] using World.cell?_spot h0'
      subst hspot
      refine ⟨b, off, rfl, ?_⟩
      intro i y hy
      have hi : i < len * 2 := by
        have := (List.getElem?_eq_some_iff.1 hy).1
        rw [kyVs_len] at this
        simpa using this
      obtain ⟨k, j, hk, hj, rfl⟩ : ∃ k j, k < len ∧ j < 2 ∧ i = k * 2 + j := ⟨i / 2, i % 2, by omega, by omega, by omega⟩
      rw [ky_range f len k j hk hj] at hy
      have := (hf k hk).1 j hj
      rw [add_add, hy, Nm.addr_add] at this
      exact this
    · intro r hr
      simp only [List.mem_map, List.mem_range] at hr
      obtain ⟨i, hi, rfl⟩ := hr
      exact (hf i hi).2
end
end Go.Proofs.YtfficbpalibmoaaGreatDoor
/- What a listed variable gives: its block, cell for cell. -/
namespace Go.Proofs.YtfficbpalibmoaaGreatDoor
open Go.RowKit Go.ChangeShapes

theorem laid_mem {P : Program} {w : World} : ∀ {l : List (String × DataW Unit)} {ps : List MemPlace}, DataW.LaidVars P w l ps → ∀ {n : String} {d : DataW Unit}, (n, d) ∈ l →
    ∃ g t cs fuel p, P.globalNamed n = some g ∧ (P.globals[g]?).map (·.type) = some t ∧ w.var? P n = some cs ∧ DataW.trod (fun _ => ()) P w 0 (fun _ => true) false fuel t cs.toList = some (d, p) := by
  intro l
  induction l with
  | nil => intro ps _ n d h; cases h
  | cons x r ih =>
    intro ps h n d hm
    obtain ⟨n0, d0⟩ := x
    obtain ⟨g, t, cs, fuel, p, q, h1, h2, h3, h4, hr, _⟩ := h
    rcases List.mem_cons.1 hm with e | e
    · cases e
      exact ⟨g, t, cs, fuel, p, h1, h2, h3, h4⟩
    · exact ih hr e

theorem var_block {P : Program} {w : World} {n : String} {g : Nat} {cs : Array Value} (hg : P.globalNamed n = some g) (h : w.var? P n = some cs) : ∃ t fr, w.heap[g]? = some (.cells cs t fr) := by
  simp only [World.var?, hg, Option.bind_some] at h
  split at h
  · rename_i c t fr hh
    cases h
    exact ⟨t, fr, hh⟩
  · cases h

/-- A listed table of integers. -/
theorem tab_of_laid {P : Program} {W : World} {l : List (String × DataW Unit)} (h : laidMet P l W) {name : String} {k : IntKind} {zs : List Int} {g : Nat} {t e : TypeId} {n : Nat}
    (hm : (name, Lib.tabData k zs) ∈ l) (hg : P.globalNamed name = some g) (hty : (P.globals[g]?).map (·.type) = some t) (ht : P.underlying t = some (.array n e)) (he : P.underlying e = some (.int k)) (hce : P.cellsOf e = 1) (hct : P.cellsOf t = n) :
    Lib.TabIs P W name k zs := by
  obtain ⟨ps, hv, _⟩ := h
  obtain ⟨g', t', cs, fuel, p, hg', ht', hvar, hd⟩ := laid_mem hv hm
  obtain rfl := Option.some.inj (hg.symm.trans hg')
  obtain rfl := Option.some.inj (hty.symm.trans ht')
  unfold Lib.TabIs
  rw [hvar, ← Lib.cells_of_tab ht he hce hct hd]

/-- A table of pairs of a text and a number. -/
def pairData {H : Type} (l : List (List UInt8 × Int)) : DataW H := .agg (l.map fun x => .agg [.lit (.string x.1), .lit (.int .i64 x.2)])
def pairCells (l : List (List UInt8 × Int)) : List Value := l.flatMap fun x => [.string ⟨x.1.toArray⟩, .int .i64 x.2]

theorem pairCells_at : ∀ (l : List (List UInt8 × Int)) (i : Nat) (x : List UInt8 × Int), l[i]? = some x → (pairCells l)[2 * i]? = some (.string ⟨x.1.toArray⟩) ∧ (pairCells l)[2 * i + 1]? = some (.int .i64 x.2) := by
  intro l
  induction l with
  | nil => intro i x h; simp at h
  | cons y r ih =>
    intro i x h
    cases i with
    | zero => simp at h; subst h; exact ⟨rfl, rfl⟩
    | succ i =>
      have e : pairCells (y :: r) = .string ⟨y.1.toArray⟩ :: .int .i64 y.2 :: pairCells r := rfl
      have := ih i x (by simpa using h)
      rw [e, show 2 * (i + 1) = 2 * i + 1 + 1 by omega, show 2 * i + 1 + 1 + 1 = (2 * i + 1) + 1 + 1 by omega]
      simpa using this
theorem pairCells_length (l : List (List UInt8 × Int)) : (pairCells l).length = 2 * l.length := by
  induction l with
  | nil => rfl
  | cons y r ih =>
    have e : pairCells (y :: r) = .string ⟨y.1.toArray⟩ :: .int .i64 y.2 :: pairCells r := rfl
    rw [e]; simp [ih]; omega

theorem cells_of_pairs {H : Type} {enc : TypeId × Value → H} {P : Program} {w : World} {base : Nat} {sp : Nat → Bool} {held : Bool} {fuel : Nat} {t e ts ti : TypeId} {f0 f1 : Field} {n : Nat} {cs : List Value} {zs : List (List UInt8 × Int)} {p : List MemPlace}
    (ht : P.underlying t = some (.array n e)) (he : P.underlying e = some (.struct #[f0, f1])) (h0 : f0.type = ts) (h1 : f1.type = ti) (o0 : f0.offset = 0) (o1 : f1.offset = 1)
    (hs : P.underlying ts = some .string) (hi : P.underlying ti = some (.int .i64)) (hcs : P.cellsOf ts = 1) (hci : P.cellsOf ti = 1) (hce : P.cellsOf e = 2) (hct : P.cellsOf t = 2 * n)
    (h : DataW.trod enc P w base sp held fuel t cs = some (pairData zs, p)) : cs = pairCells zs := by
  obtain ⟨xs, m, _, hx, hl, hxl, hel⟩ := DataW.trod_array ht h
  simp only [pairData, Prod.mk.injEq, DataW.agg.injEq] at hx
  have hx1 := hx.1
  have hzl : zs.length = n := by
    have := congrArg List.length hx1
    simp at this
    omega
  rw [hct] at hl
  apply List.ext_getElem?
  intro i
  by_cases hin : i < 2 * n
  · obtain ⟨k, hk⟩ : ∃ k, i = 2 * k ∨ i = 2 * k + 1 := ⟨i / 2, by omega⟩
    have hkn : k < n := by omega
    obtain ⟨y, hy⟩ : ∃ y, xs[k]? = some y := ⟨_, List.getElem?_eq_getElem (by omega)⟩
    obtain ⟨z, hz⟩ : ∃ z, zs[k]? = some z := ⟨_, List.getElem?_eq_getElem (by omega)⟩
    have hyz : y.1 = .agg [.lit (.string z.1), .lit (.int .i64 z.2)] := by
      have h1 := congrArg (fun l => l[k]?) hx1
      simp only [List.getElem?_map, hy, hz, Option.map_some, Option.some.injEq] at h1
      exact h1.symm
    have hek := hel k hkn
    rw [hy, hce] at hek
    obtain ⟨y0, y1, m2, hagg, _, d0, d1⟩ := trod_struct2 he hek
    rw [h0, o0, hcs] at d0
    rw [h1, o1, hci] at d1
    obtain ⟨s, c0, e0, _⟩ := DataW.trod_string hs d0
    obtain ⟨q, c1, e1, _⟩ := DataW.trod_int hi d1
    have hagg1 : y.1 = .agg [y0.1, y1.1] := by rw [hagg]
    rw [hyz, e0, e1] at hagg1
    simp only [DataW.agg.injEq, List.cons.injEq, DataW.lit.injEq, Lit.string.injEq, Lit.int.injEq, true_and, and_true] at hagg1
    have g0 : cs[2 * k]? = some (.string s) := by
      have := congrArg (fun l => l[0]?) c0
      simpa [List.getElem?_take, List.getElem?_drop, Nat.mul_comm] using this
    have g1 : cs[2 * k + 1]? = some (.int .i64 q) := by
      have := congrArg (fun l => l[0]?) c1
      simpa [List.getElem?_take, List.getElem?_drop, Nat.mul_comm] using this
    have hp := pairCells_at zs k z hz
    have es : (⟨z.1.toArray⟩ : ByteArray) = s := by rw [hagg1.1]
    rcases hk with rfl | rfl
    · rw [g0, hp.1, es]
    · rw [g1, hp.2, hagg1.2]
  · rw [List.getElem?_eq_none (by omega), List.getElem?_eq_none (by rw [pairCells_length]; omega)]

/-- A listed table of pairs: its block. -/
theorem pairs_of_laid {P : Program} {W : World} {l : List (String × DataW Unit)} (h : laidMet P l W) {name : String} {zs : List (List UInt8 × Int)} {g : Nat} {t e ts ti : TypeId} {f0 f1 : Field} {n : Nat}
    (hm : (name, pairData zs) ∈ l) (hg : P.globalNamed name = some g) (hty : (P.globals[g]?).map (·.type) = some t) (ht : P.underlying t = some (.array n e)) (he : P.underlying e = some (.struct #[f0, f1])) (h0 : f0.type = ts) (h1 : f1.type = ti) (o0 : f0.offset = 0) (o1 : f1.offset = 1)
    (hs : P.underlying ts = some .string) (hi : P.underlying ti = some (.int .i64)) (hcs : P.cellsOf ts = 1) (hci : P.cellsOf ti = 1) (hce : P.cellsOf e = 2) (hct : P.cellsOf t = 2 * n) :
    ∃ t fr, W.heap[g]? = some (.cells (pairCells zs).toArray t fr) := by
  obtain ⟨ps, hv, _⟩ := h
  obtain ⟨g', t', cs, fuel, p, hg', ht', hvar, hd⟩ := laid_mem hv hm
  obtain rfl := Option.some.inj (hg.symm.trans hg')
  obtain rfl := Option.some.inj (hty.symm.trans ht')
  obtain ⟨u, fr, hb⟩ := var_block hg hvar
  have hc := cells_of_pairs ht he h0 h1 o0 o1 hs hi hcs hci hce hct hd
  refine ⟨u, fr, ?_⟩
  rw [hb, ← hc]
end Go.Proofs.YtfficbpalibmoaaGreatDoor
