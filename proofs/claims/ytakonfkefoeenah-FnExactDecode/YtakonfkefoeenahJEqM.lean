import Derived.Test.YtakonfkefoeenahRd9
import Derived.RegionTactic
import Derived.BigRegion
import Derived.Deep.RegionHeld3
import Derived.Test.YtakonfkefoeenahJDnM
/- laws.eqQuestion, eqQuestionS, eqRR, eqRRS by their contracts. -/
namespace Go.Proofs.Ytakonfkefoeenah
open Go.RowKit
set_option linter.unusedVariables false

theorem str_ne (s : ByteArray) : (s.toList != s.toList) = false ∧ (s.toList == s.toList) = true := by simp

set_option maxRecDepth 100000 in
set_option maxHeartbeats 400000 in
theorem eqQuestion_any (s : ByteArray) (x y : Int) (w : World) :
    Calls Try.prog 31 #[.agg #[.string s, .int .i64 x, .int .i64 y], .agg #[.string s, .int .i64 x, .int .i64 y]] w fun e w' => e = .returned (.bool true) ∧ Below w.heap.size w w' := by
  have e1 : (x != x) = false := by simp
  have e2 : (y != y) = false := by simp
  obtain ⟨e3, e4⟩ := str_ne s
  go_enter Try.func31, Try.ntmps31
  go_wp2
  go_ret
  exact ⟨rfl, ((Below.refl _ _).alloc (Nat.le_refl _) _).alloc (by simp) _⟩

set_option maxRecDepth 100000 in
set_option maxHeartbeats 400000 in
theorem eqRR_any (s t : ByteArray) (x y z : Int) (w : World) :
    Calls Try.prog 32 #[.agg #[.string s, .int .i64 x, .int .i64 y, .int .i64 z, .string t], .agg #[.string s, .int .i64 x, .int .i64 y, .int .i64 z, .string t]] w fun e w' => e = .returned (.bool true) ∧ Below w.heap.size w w' := by
  have e1 : (x != x) = false := by simp
  have e2 : (y != y) = false := by simp
  have e5 : (z != z) = false := by simp
  obtain ⟨e3, e4⟩ := str_ne s
  obtain ⟨e6, e7⟩ := str_ne t
  go_enter Try.func32, Try.ntmps32
  go_wp2
  go_ret
  exact ⟨rfl, ((Below.refl _ _).alloc (Nat.le_refl _) _).alloc (by simp) _⟩

theorem quCs_at : ∀ (xs : List Qm) (k j : Nat) (x : Qm), xs[k]? = some x → j < 3 → (quCs xs)[k * 3 + j]? = (quC x)[j]? := by
  intro xs
  induction xs with
  | nil => intro k j x h; simp at h
  | cons y xs ih =>
    intro k j x h hj
    have e : quCs (y :: xs) = quC y ++ quCs xs := by simp [quCs]
    have hl : (quC y).length = 3 := rfl
    cases k with
    | zero =>
      simp at h; subst h
      rw [e, Nat.zero_mul, Nat.zero_add, List.getElem?_append_left (by omega)]
    | succ k =>
      simp at h
      rw [e, List.getElem?_append_right (by omega), hl, show (k + 1) * 3 + j - 3 = k * 3 + j by omega]
      exact ih k j x h hj

theorem rrCs_at : ∀ (xs : List Rm) (k j : Nat) (x : Rm), xs[k]? = some x → j < 5 → (rrCs xs)[k * 5 + j]? = (rrC x)[j]? := by
  intro xs
  induction xs with
  | nil => intro k j x h; simp at h
  | cons y xs ih =>
    intro k j x h hj
    have e : rrCs (y :: xs) = rrC y ++ rrCs xs := by simp [rrCs]
    have hl : (rrC y).length = 5 := rfl
    cases k with
    | zero =>
      simp at h; subst h
      rw [e, Nat.zero_mul, Nat.zero_add, List.getElem?_append_left (by omega)]
    | succ k =>
      simp at h
      rw [e, List.getElem?_append_right (by omega), hl, show (k + 1) * 5 + j - 5 = k * 5 + j by omega]
      exact ih k j x h hj

set_option maxRecDepth 100000 in
set_option maxHeartbeats 1600000 in
theorem eqQuestionS_any (v u : Value) (xs : List Qm) (w : World) (h : CRow w v xs.length 3 (quCs xs)) (h' : CRow w u xs.length 3 (quCs xs)) (hlen : xs.length ≤ 1000000) :
    Calls Try.prog 17 #[v, u] w fun e w' => e = .returned (.bool true) ∧ Below w.heap.size w w' := by
  obtain ⟨_, a, cap, rfl, hcap, hmx, hc⟩ := h
  obtain ⟨_, a', cap', rfl, hcap', hmx', hc'⟩ := h'
  have hne : ((xs.length : Int) != (xs.length : Int)) = false := by simp
  go_enter Try.func17, Try.ntmps17
  go_wp2
  go_loopw [5] (fun i wr => ∃ k : Nat, k ≤ xs.length ∧ i = .int .i64 k ∧ Below w.heap.size w wr) (fun i _ => xs.length - (intOf i).toNat)
  case atStart => exact ⟨0, Nat.zero_le _, rfl, Below.refl _ _⟩
  case round =>
    obtain ⟨k, hk, rfl, hbel⟩ := hrel
    by_cases hlt : k < xs.length
    · obtain ⟨x, hx⟩ : ∃ x, xs[k]? = some x := ⟨_, List.getElem?_eq_getElem hlt⟩
      have at0 := quCs_at xs k 0 x hx (by decide)
      have at1 := quCs_at xs k 1 x hx (by decide)
      have at2 := quCs_at xs k 2 x hx (by decide)
      obtain ⟨b, off, rfl, hcell⟩ := hc (by omega)
      obtain ⟨b', off', rfl, hcell'⟩ := hc' (by omega)
      obtain ⟨nm, ty, cl⟩ := x
      have hS : ∀ W, Below w.heap.size w W → (W.cell? ⟨b, off + k * 3, none⟩ = some (.string ⟨nm.toArray⟩) ∧ W.cell? ⟨b, off + k * 3 + 1, none⟩ = some (.int .i64 (ty : Int)) ∧ W.cell? ⟨b, off + k * 3 + 2, none⟩ = some (.int .i64 (cl : Int)) ∧ W.cell? ⟨b', off' + k * 3, none⟩ = some (.string ⟨nm.toArray⟩) ∧ W.cell? ⟨b', off' + k * 3 + 1, none⟩ = some (.int .i64 (ty : Int)) ∧ W.cell? ⟨b', off' + k * 3 + 2, none⟩ = some (.int .i64 (cl : Int))) ∧ Below w.heap.size w W := by
        intro W hW
        have put : ∀ {B O : Nat} {z : Value}, w.cell? ⟨B, O, none⟩ = some z → W.cell? ⟨B, O, none⟩ = some z := fun h => (hW.cell (World.block_lt_of_cell? w _ h)).trans h
        exact ⟨⟨put (hcell _ _ at0), put (hcell _ _ at1), put (hcell _ _ at2), put (hcell' _ _ at0), put (hcell' _ _ at1), put (hcell' _ _ at2)⟩, hW⟩
      have hS0 := hS wr.drew hbel.drew
      have heq := fun W (hW : Below w.heap.size w W) => (eqQuestion_any ⟨nm.toArray⟩ ty cl W).mono (R' := fun e w' => e = .returned (.bool true) ∧ Below w.heap.size w w') (by rintro e w' ⟨he, hb⟩; exact ⟨he, hW.trans (hb.mono hW.size)⟩)
      have i1 : (0 : Int) ≤ (k : Int) := by omega
      have i2 : (k : Int) < (xs.length : Int) := by omega
      generalize (⟨nm.toArray⟩ : ByteArray) = ns at *
      clear hc hc' hcell hcell' at0 at1 at2 hx
      go_wp2
      go_region_held3 (fun W => (W.cell? ⟨b, off + k * 3, none⟩ = some (.string ns) ∧ W.cell? ⟨b, off + k * 3 + 1, none⟩ = some (.int .i64 (ty : Int)) ∧ W.cell? ⟨b, off + k * 3 + 2, none⟩ = some (.int .i64 (cl : Int)) ∧ W.cell? ⟨b', off' + k * 3, none⟩ = some (.string ns) ∧ W.cell? ⟨b', off' + k * 3 + 1, none⟩ = some (.int .i64 (ty : Int)) ∧ W.cell? ⟨b', off' + k * 3 + 2, none⟩ = some (.int .i64 (cl : Int))) ∧ Below w.heap.size w W) (first | with_reducible assumption | with_reducible exact hS0) ((first | (go_at_call 31; refine (heq _ hS0.2).mono ?_; rintro e w' ⟨rfl, hb1⟩; have hS1 := hS _ hb1)))
      go_wp2
      go_roundw
      case rel => exact ⟨k + 1, by omega, by go_num, hS1.2⟩
      case measure => simp [intOf]; omega
    · clear hc hc'
      go_wp2
      go_ret
      exact ⟨rfl, hbel⟩

set_option maxRecDepth 100000 in
set_option maxHeartbeats 1600000 in
theorem eqRRS_any (v u : Value) (xs : List Rm) (w : World) (h : CRow w v xs.length 5 (rrCs xs)) (h' : CRow w u xs.length 5 (rrCs xs)) (hlen : xs.length ≤ 1000000) :
    Calls Try.prog 18 #[v, u] w fun e w' => e = .returned (.bool true) ∧ Below w.heap.size w w' := by
  obtain ⟨_, a, cap, rfl, hcap, hmx, hc⟩ := h
  obtain ⟨_, a', cap', rfl, hcap', hmx', hc'⟩ := h'
  have hne : ((xs.length : Int) != (xs.length : Int)) = false := by simp
  go_enter Try.func18, Try.ntmps18
  go_wp2
  go_loopw [5] (fun i wr => ∃ k : Nat, k ≤ xs.length ∧ i = .int .i64 k ∧ Below w.heap.size w wr) (fun i _ => xs.length - (intOf i).toNat)
  case atStart => exact ⟨0, Nat.zero_le _, rfl, Below.refl _ _⟩
  case round =>
    obtain ⟨k, hk, rfl, hbel⟩ := hrel
    by_cases hlt : k < xs.length
    · obtain ⟨x, hx⟩ : ∃ x, xs[k]? = some x := ⟨_, List.getElem?_eq_getElem hlt⟩
      have at0 := rrCs_at xs k 0 x hx (by decide)
      have at1 := rrCs_at xs k 1 x hx (by decide)
      have at2 := rrCs_at xs k 2 x hx (by decide)
      have at3 := rrCs_at xs k 3 x hx (by decide)
      have at4 := rrCs_at xs k 4 x hx (by decide)
      obtain ⟨b, off, rfl, hcell⟩ := hc (by omega)
      obtain ⟨b', off', rfl, hcell'⟩ := hc' (by omega)
      obtain ⟨nm, ty, cl, tl, dt⟩ := x
      have hS : ∀ W, Below w.heap.size w W → (W.cell? ⟨b, off + k * 5, none⟩ = some (.string ⟨nm.toArray⟩) ∧ W.cell? ⟨b, off + k * 5 + 1, none⟩ = some (.int .i64 (ty : Int)) ∧ W.cell? ⟨b, off + k * 5 + 2, none⟩ = some (.int .i64 (cl : Int)) ∧ W.cell? ⟨b, off + k * 5 + 3, none⟩ = some (.int .i64 (tl : Int)) ∧ W.cell? ⟨b, off + k * 5 + 4, none⟩ = some (.string ⟨dt.toArray⟩) ∧ W.cell? ⟨b', off' + k * 5, none⟩ = some (.string ⟨nm.toArray⟩) ∧ W.cell? ⟨b', off' + k * 5 + 1, none⟩ = some (.int .i64 (ty : Int)) ∧ W.cell? ⟨b', off' + k * 5 + 2, none⟩ = some (.int .i64 (cl : Int)) ∧ W.cell? ⟨b', off' + k * 5 + 3, none⟩ = some (.int .i64 (tl : Int)) ∧ W.cell? ⟨b', off' + k * 5 + 4, none⟩ = some (.string ⟨dt.toArray⟩)) ∧ Below w.heap.size w W := by
        intro W hW
        have put : ∀ {B O : Nat} {z : Value}, w.cell? ⟨B, O, none⟩ = some z → W.cell? ⟨B, O, none⟩ = some z := fun h => (hW.cell (World.block_lt_of_cell? w _ h)).trans h
        exact ⟨⟨put (hcell _ _ at0), put (hcell _ _ at1), put (hcell _ _ at2), put (hcell _ _ at3), put (hcell _ _ at4), put (hcell' _ _ at0), put (hcell' _ _ at1), put (hcell' _ _ at2), put (hcell' _ _ at3), put (hcell' _ _ at4)⟩, hW⟩
      have hS0 := hS wr.drew hbel.drew
      have heq := fun W (hW : Below w.heap.size w W) => (eqRR_any ⟨nm.toArray⟩ ⟨dt.toArray⟩ ty cl tl W).mono (R' := fun e w' => e = .returned (.bool true) ∧ Below w.heap.size w w') (by rintro e w' ⟨he, hb⟩; exact ⟨he, hW.trans (hb.mono hW.size)⟩)
      have i1 : (0 : Int) ≤ (k : Int) := by omega
      have i2 : (k : Int) < (xs.length : Int) := by omega
      generalize (⟨nm.toArray⟩ : ByteArray) = ns at *
      generalize (⟨dt.toArray⟩ : ByteArray) = ds at *
      clear hc hc' hcell hcell' at0 at1 at2 at3 at4 hx
      go_wp2
      go_region_held3 (fun W => (W.cell? ⟨b, off + k * 5, none⟩ = some (.string ns) ∧ W.cell? ⟨b, off + k * 5 + 1, none⟩ = some (.int .i64 (ty : Int)) ∧ W.cell? ⟨b, off + k * 5 + 2, none⟩ = some (.int .i64 (cl : Int)) ∧ W.cell? ⟨b, off + k * 5 + 3, none⟩ = some (.int .i64 (tl : Int)) ∧ W.cell? ⟨b, off + k * 5 + 4, none⟩ = some (.string ds) ∧ W.cell? ⟨b', off' + k * 5, none⟩ = some (.string ns) ∧ W.cell? ⟨b', off' + k * 5 + 1, none⟩ = some (.int .i64 (ty : Int)) ∧ W.cell? ⟨b', off' + k * 5 + 2, none⟩ = some (.int .i64 (cl : Int)) ∧ W.cell? ⟨b', off' + k * 5 + 3, none⟩ = some (.int .i64 (tl : Int)) ∧ W.cell? ⟨b', off' + k * 5 + 4, none⟩ = some (.string ds)) ∧ Below w.heap.size w W) (first | with_reducible assumption | with_reducible exact hS0) ((first | (go_at_call 32; refine (heq _ hS0.2).mono ?_; rintro e w' ⟨rfl, hb1⟩; have hS1 := hS _ hb1)))
      go_wp2
      go_roundw
      case rel => exact ⟨k + 1, by omega, by go_num, hS1.2⟩
      case measure => simp [intOf]; omega
    · clear hc hc'
      go_wp2
      go_ret
      exact ⟨rfl, hbel⟩
end Go.Proofs.Ytakonfkefoeenah
/- laws.markText, laws.markStringS, laws.heldStringS by their contracts. -/
namespace Go.Proofs.Ytakonfkefoeenah
open Go.RowKit

def dgF : Nat → Nat → List UInt8
  | 0, _ => []
  | f + 1, k => if k = 0 then [] else dgF f (k / 10) ++ [UInt8.ofNat (48 + k % 10)]

def mkS (k : Nat) : ByteArray := if k = 0 then ⟨#[109, 48]⟩ else ⟨(109 :: dgF (k + 1) k).toArray⟩

def MkAt (k j : Nat) (t : ByteArray) : Prop := ∃ f, j < f ∧ dgF (k + 1) k = dgF f j ++ t.data.toList

theorem mk_start (k : Nat) : MkAt k k ⟨#[]⟩ := ⟨k + 1, by omega, by simp⟩
theorem mk_step {k j : Nat} {t : ByteArray} (h : MkAt k j t) (hj : 0 < j) : MkAt k (j / 10) (⟨#[UInt8.ofNat (48 + j % 10)]⟩ ++ t) := by
  obtain ⟨f, hf, e⟩ := h
  obtain ⟨g, rfl⟩ : ∃ g, f = g + 1 := ⟨f - 1, by omega⟩
  refine ⟨g, by omega, ?_⟩
  rw [e, dgF, if_neg (by omega)]
  simp
theorem mk_end {k j : Nat} {t : ByteArray} (h : MkAt k j t) (hj : j = 0) (hk : 0 < k) : (⟨#[109]⟩ : ByteArray) ++ t = mkS k := by
  obtain ⟨f, hf, e⟩ := h
  obtain ⟨g, rfl⟩ : ∃ g, f = g + 1 := ⟨f - 1, by omega⟩
  have z : dgF (g + 1) j = [] := by rw [dgF, if_pos hj]
  rw [z, List.nil_append] at e
  rw [mkS, if_neg (by omega), e]
  apply ba_ext
  simp
theorem mk_len {k j : Nat} {t : ByteArray} (h : MkAt k j t) : t.size ≤ k + 1 := by
  have hl : ∀ f k, (dgF f k).length ≤ f := by
    intro f
    induction f with
    | zero => intro k; simp [dgF]
    | succ f ih =>
      intro k
      rw [dgF]
      split
      · simp
      · have := ih (k / 10); simp; omega
  obtain ⟨f, hf, e⟩ := h
  have := congrArg List.length e
  rw [List.length_append, size_list] at this
  have := hl (k + 1) k
  omega

set_option maxRecDepth 100000 in
set_option maxHeartbeats 800000 in
theorem markText_any (k : Nat) (w : World) (hk : k ≤ 1000000000) :
    Calls Try.prog 33 #[.int .i64 (k : Int)] w fun e w' => e = .returned (.string (mkS k)) ∧ Below w.heap.size w w' := by
  by_cases h0 : k = 0
  · have HE : Hid (mkS k = ⟨#[109, 48]⟩) := by show _ = _; rw [mkS, if_pos h0]
    have h0' : (k : Int) ≤ 0 := by omega
    clear h0
    go_enter Try.func33, Try.ntmps33
    go_wp2
    go_ret
    rw [HE.out]
    exact ⟨rfl, Below.refl _ _⟩
  · have hpos : 0 < k := by omega
    have h0' : (0 : Int) < (k : Int) := by omega
    have hst := mk_start k
    go_enter Try.func33, Try.ntmps33
    go_wp2
    go_loopw [0, 3] (fun i v wr => ∃ (j : Nat) (t : ByteArray), i = .int .i64 (j : Int) ∧ j ≤ k ∧ v = .string t ∧ MkAt k j t ∧ Below w.heap.size w wr)
      (fun i _ _ => (intOf i).toNat)
    case atStart => exact ⟨k, _, rfl, Nat.le_refl _, rfl, hst, Below.refl _ _⟩
    case round =>
      obtain ⟨j, t, rfl, hjk, rfl, hat, hbel⟩ := hrel
      have hsz := hbel.size
      have hts := mk_len hat
      have hone : (ByteArray.mk #[109]).size = 1 := rfl
      clear hst
      by_cases hj : 0 < j
      · have HN := Nm.hide (mk_step hat hj)
        have hj' : (0 : Int) < (j : Int) := by omega
        have hcv := fun n => conv_one n wr
        have hn1 : ∀ c, (ByteArray.mk #[c]).size = 1 := fun _ => rfl
        have hmod : (48 + (j : Int) % 10) % 256 = 48 + (j : Int) % 10 := by omega
        have htn : (48 + (j : Int) % 10).toNat = 48 + j % 10 := by omega
        clear hat
        go_wp2
        go_roundw
        case rel => exact ⟨j / 10, _, by go_num, by omega, rfl, by simpa using HN.out, hbel.alloc hsz _⟩
        case measure => simp [intOf]; omega
      · have HE := Nm.hide (mk_end hat (by omega) hpos)
        have hj' : (j : Int) ≤ 0 := by omega
        clear hat
        go_wp2
        go_ret
        rw [← HE.out]
        exact ⟨rfl, hbel⟩
end Go.Proofs.Ytakonfkefoeenah
