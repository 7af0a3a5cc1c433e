/- The law of TypeMap: its walk. -/
import Derived.Test.YtakonfkefoeenaaSTypeM
import Derived.Test.YtakonfkefoeenaaITypeM
namespace Go.Proofs.Ytakonfkefoeenaa
open Go.RowKit
set_option linter.unusedVariables false

/-- A slice of int64 that came in. -/
def Row64 (w : World) (a : Option Addr) (len cap : Nat) (zs : List Int) : Prop :=
  (a = none ∧ len = 0 ∧ cap = 0 ∧ zs = []) ∨
  ∃ x, a = some x ∧ len ≤ cap ∧ cap ≤ maxLen ∧ zs.length = cap ∧ (∀ i, i < zs.length → w.cell? (x.add i) = some (.int .i64 (zs.getD i 0))) ∧ ∀ n ∈ zs, (Lit.int .i64 n).wf = true

theorem row64 {w : World} {a : Option Addr} {n cap : Nat} {zs : List Int} (h : Row64 w a n cap zs) : (zs.take n).length = n ∧ CRow w (.slice a n cap) n 1 (intCells (zs.take n)) := by
  rcases h with ⟨rfl, rfl, rfl, rfl⟩ | ⟨x, rfl, hl, hm, hz, hc, hw⟩
  · exact ⟨rfl, rfl, none, 0, rfl, Nat.le_refl _, by decide, fun h => by omega⟩
  · have hlen : (zs.take n).length = n := by simp; omega
    refine ⟨hlen, by rw [intCells_len, hlen, Nat.mul_one], some x, cap, rfl, hl, hm, fun hp => ?_⟩
    have hs : x.spot = none := by
      have := World.cell?_spot (hc 0 (by omega))
      simpa [Addr.add] using this
    obtain ⟨b, off, sp⟩ := x
    simp only at hs
    subst hs
    refine ⟨b, off, rfl, fun i y hy => ?_⟩
    have hi : i < n := by
      have := (List.getElem?_eq_some_iff.1 hy).1
      rwa [intCells_len, hlen] at this
    rw [← Nm.addr_add, hc i (by omega)]
    rw [← hy, intCells, List.getElem?_map, List.getElem?_take, if_pos hi, List.getD_eq_getElem?_getD, List.getElem?_eq_getElem (by omega)]
    rfl

theorem Try.infoI64t : (Try.prog.info? 2).map (fun i => (i.zero, i.size, i.bytes)) = some (some (.int .i64 0), 1, 8) := by kernel_rfl

set_option maxRecDepth 100000 in
set_option maxHeartbeats 800000 in
theorem toInt64S_any (v : Value) (l : List Int) (w : World) (h : CRow w v l.length 1 (intCells l)) (hl : l.length ≤ 1048576) :
    Calls Try.prog 9 #[v] w fun e w' => ∃ v', e = .returned v' ∧ CRow w' v' l.length 1 (intCells l) ∧ Below w.heap.size w w' := by
  obtain ⟨_, a, cap, rfl, hcap, hmx, hc⟩ := h
  have hmk := run_make_row' (P := Try.prog) 23 2 (.int .i64 0) 8 Try.underlying23 Try.infoI64t rfl .i64 .i64 l.length (by omega) (by omega) w
  have hrow0 := World.rowIs_made w (.int .i64 0) l.length 2
  have hbel0 : Below w.heap.size w (w.alloc (.cells (madeCells #[.int .i64 0] l.length) 2)) := (Below.refl _ _).alloc (Nat.le_refl _) _
  generalize w.alloc (.cells (madeCells #[.int .i64 0] l.length) 2) = w0 at *
  go_enter Try.func9, Try.ntmps9
  go_wp2
  go_loopw [4] (fun i wr => ∃ k : Nat, k ≤ l.length ∧ i = .int .i64 k ∧ wr.rowIs w.heap.size 2 l.length (fun j => if j < k then .int .i64 (l.getD j 0) else .int .i64 0) ∧ Below w.heap.size w wr)
    (fun i _ => l.length - (intOf i).toNat)
  case atStart => exact ⟨0, Nat.zero_le _, rfl, hrow0.congr (fun j _ => by simp), hbel0⟩
  case round =>
    obtain ⟨k, hk, rfl, hrow, hbel⟩ := hrel
    clear hrow0 hbel0 hmk
    by_cases hlt : k < l.length
    · have hlt' : (k : Int) < (l.length : Int) := by omega
      obtain ⟨t, ht⟩ : ∃ t, l[k]? = some t := ⟨_, List.getElem?_eq_getElem hlt⟩
      obtain ⟨b, off, rfl, hcell⟩ := hc (by omega)
      have hcx0 := hcell k (.int .i64 t) (by simp [intCells, ht])
      have hcx : wr.cell? ⟨b, off + k, none⟩ = some (.int .i64 t) := (hbel.cell (World.block_lt_of_cell? w _ hcx0)).trans hcx0
      have hcn : wr.cell? ⟨w.heap.size, k, none⟩ = some (.int .i64 0) := by rw [hrow.cell hlt, if_neg (Nat.lt_irrefl _)]
      have hfn := hrow.frozen k
      have HROW : Hid ((wr.setCell ⟨w.heap.size, k, none⟩ (.int .i64 t)).rowIs w.heap.size 2 l.length (fun j => if j < k + 1 then .int .i64 (l.getD j 0) else .int .i64 0)) := by
        refine (hrow.set k (.int .i64 t)).congr (fun j _ => ?_)
        by_cases e : j = k
        · subst e
          rw [if_pos rfl, if_pos (by omega), List.getD_eq_getElem?_getD, ht]; rfl
        · rw [if_neg e]
          by_cases h2 : j < k
          · rw [if_pos h2, if_pos (by omega)]
          · rw [if_neg h2, if_neg (by omega)]
      have HB : Hid (Below w.heap.size w (wr.setCell ⟨w.heap.size, k, none⟩ (.int .i64 t))) := hbel.setCell (Nat.le_refl _) _
      clear hc hcell hcx0 ht hrow
      go_wp2
      go_roundw
      case rel => exact ⟨k + 1, by omega, by go_num, HROW.out, HB.out⟩
      case measure => simp [intOf]; omega
    · have hlt' : (l.length : Int) ≤ (k : Int) := by omega
      have hlk : k = l.length := by omega
      have HC : Hid (CRow wr (.slice (some ⟨w.heap.size, 0, none⟩) l.length l.length) l.length 1 (intCells l)) := by
        refine ⟨by rw [intCells_len, Nat.mul_one], some ⟨w.heap.size, 0, none⟩, l.length, rfl, Nat.le_refl _, by unfold maxLen; omega, fun _ => ⟨w.heap.size, 0, rfl, fun i x hx => ?_⟩⟩
        have hi : i < l.length := by
          have := (List.getElem?_eq_some_iff.1 hx).1
          rwa [intCells_len] at this
        rw [Nat.zero_add, hrow.cell hi, if_pos (by omega), ← hx, intCells, List.getElem?_map, List.getD_eq_getElem?_getD, List.getElem?_eq_getElem hi]
        rfl
      clear hc hrow
      go_wp2
      go_ret
      exact ⟨_, rfl, HC.out, hbel⟩

theorem tm_same (s : ByteArray) : (s.toList == s.toList) = true ∧ (s.toList != s.toList) = false := by simp
theorem tm_int (n : Int) : (n != n) = false := by simp

set_option maxRecDepth 100000 in
set_option maxHeartbeats 800000 in
theorem fnExactTypeMap_walk (a0 : Option Addr) (len0 cap0 : Nat) (z0 : List Int) (w : World) (w0 : Row64 w a0 len0 cap0 z0) :
    Calls Try.prog 4 #[.slice a0 len0 cap0] w fun e w' => e = .returned (.bool true) ∧ Below w.heap.size w w' := by
  obtain ⟨hlen, hrow⟩ := row64 w0
  by_cases hl : 1048576 < len0
  · have hl' : (1048576 : Int) < (len0 : Int) := by omega
    go_enter Try.func4, Try.ntmps4
    go_wp2
    go_ret
    exact ⟨rfl, Below.refl _ _⟩
  · have hl' : (len0 : Int) ≤ 1048576 := by omega
    generalize z0.take len0 = l at *
    have hto := fun V W (h : CRow W V len0 1 (intCells l)) => toInt64S_any V l W (by rw [hlen]; exact h) (by omega)
    have hsp := fun V W (h : CRow W V len0 1 (intCells l)) => specTypeMap_any V l W (by rw [hlen]; exact h) (by omega)
    have him := fun V W (h : CRow W V len0 1 (intCells l)) => implTypeMap_any V l W (by rw [hlen]; exact h) (by omega)
    have heq := fun V U W (h : CRow W V len0 1 (intCells l)) (h' : CRow W U len0 1 (intCells l)) => eqInt64S_any V U l W (by rw [hlen]; exact h) (by rw [hlen]; exact h') (by omega)
    rw [hlen] at hto
    obtain ⟨h1, h2⟩ := tm_same (mapR l).1
    have h3 := tm_int (mapR l).2
    generalize (mapR l).1 = r1 at *
    generalize (mapR l).2 = r2 at *
    clear w0
    go_enter Try.func4, Try.ntmps4
    go_wp2_with fail
    refine (hto _ _ hrow).mono ?_
    rintro e w1 ⟨v1, rfl, c1, b1⟩
    go_wp2_with fail
    refine (hsp _ _ c1).mono ?_
    rintro e w2 ⟨rfl, b2⟩
    have b02 := Nm.below_two b1 b2
    go_wp2_with fail
    refine (hto _ _ (hrow.below b02)).mono ?_
    rintro e w3 ⟨v3, rfl, c3, b3⟩
    have b03 := Nm.below_two b02 b3
    go_wp2_with fail
    refine (him _ _ c3).mono ?_
    rintro e w4 ⟨rfl, b4⟩
    have b04 := Nm.below_two b03 b4
    have c4 := c3.below b4
    go_wp2_with fail
    refine (hto _ _ (hrow.below b04)).mono ?_
    rintro e w5 ⟨v5, rfl, c5, b5⟩
    have b05 := Nm.below_two b04 b5
    have c45 := c4.below b5
    go_wp2_with fail
    refine (heq _ _ _ c45 c5).mono ?_
    rintro e w6 ⟨rfl, b6⟩
    go_wp2
    go_ret
    exact ⟨rfl, Nm.below_two b05 b6⟩
end Go.Proofs.Ytakonfkefoeenaa
