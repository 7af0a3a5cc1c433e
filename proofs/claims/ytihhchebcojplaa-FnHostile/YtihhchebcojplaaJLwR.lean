import Derived.Test.YtihhchebcojplaaJAgM
import Derived.Test.YtihhchebcojplaaJLst
import Derived.RegionTactic
import Derived.BigRegion
import Derived.Deep.RegionHeld3
/- laws.lwRecords and laws.lwMessage by their contracts: of the same records they say so. -/
namespace Go.Proofs.Ytihhchebcojplaa
open Go.RowKit
set_option linter.unusedVariables false

set_option maxRecDepth 100000 in
set_option maxHeartbeats 1600000 in
theorem lwRecords_any (v u : Value) (xs : List Rm) (w : World) (h : CRow w v xs.length 5 (rrCs xs)) (h' : CRow w u xs.length 5 (rrCs xs)) (hlen : xs.length ≤ 1000000) :
    Calls Try.prog 18 #[v, u] w fun e w' => e = .returned (.bool true) ∧ Below w.heap.size w w' := by
  obtain ⟨_, a, cap, rfl, hcap, hmx, hc⟩ := h
  obtain ⟨_, a', cap', rfl, hcap', hmx', hc'⟩ := h'
  have hne : ((xs.length : Int) != (xs.length : Int)) = false := by simp
  go_enter Try.func18, Try.ntmps18
  go_wp2
  go_loopw [5] (fun i wr => ∃ k : Nat, k ≤ xs.length ∧ i = .int .i64 k ∧ Below w.heap.size w wr) (fun i _ => xs.length - (intOf i).toNat)
  case atStart => exact ⟨0, Nat.zero_le _, rfl, Below.refl _ _⟩
  case round =>
    obtain ⟨k, hk, rfl, hbel⟩ := hrel
    by_cases hlt : k < xs.length
    · obtain ⟨x, hx⟩ : ∃ x, xs[k]? = some x := ⟨_, List.getElem?_eq_getElem hlt⟩
      have at0 := rrCs_at xs k 0 x hx (by decide)
      have at1 := rrCs_at xs k 1 x hx (by decide)
      have at2 := rrCs_at xs k 2 x hx (by decide)
      have at3 := rrCs_at xs k 3 x hx (by decide)
      have at4 := rrCs_at xs k 4 x hx (by decide)
      obtain ⟨b, off, rfl, hcell⟩ := hc (by omega)
      obtain ⟨b', off', rfl, hcell'⟩ := hc' (by omega)
      obtain ⟨nm, ty, cl, tt, da⟩ := x
      have put : ∀ {B O : Nat} {z : Value}, w.cell? ⟨B, O, none⟩ = some z → wr.cell? ⟨B, O, none⟩ = some z := fun h => (hbel.cell (World.block_lt_of_cell? w _ h)).trans h
      have c0 : wr.cell? ⟨b, off + k * 5, none⟩ = some (.string ⟨nm.toArray⟩) := put (hcell _ _ at0)
      have c1 : wr.cell? ⟨b, off + k * 5 + 1, none⟩ = some (.int .i64 (ty : Int)) := put (hcell _ _ at1)
      have c2 : wr.cell? ⟨b, off + k * 5 + 2, none⟩ = some (.int .i64 (cl : Int)) := put (hcell _ _ at2)
      have c3 : wr.cell? ⟨b, off + k * 5 + 3, none⟩ = some (.int .i64 (tt : Int)) := put (hcell _ _ at3)
      have c4 : wr.cell? ⟨b, off + k * 5 + 4, none⟩ = some (.string ⟨da.toArray⟩) := put (hcell _ _ at4)
      have d0 : wr.cell? ⟨b', off' + k * 5, none⟩ = some (.string ⟨nm.toArray⟩) := put (hcell' _ _ at0)
      have d1 : wr.cell? ⟨b', off' + k * 5 + 1, none⟩ = some (.int .i64 (ty : Int)) := put (hcell' _ _ at1)
      have d2 : wr.cell? ⟨b', off' + k * 5 + 2, none⟩ = some (.int .i64 (cl : Int)) := put (hcell' _ _ at2)
      have d3 : wr.cell? ⟨b', off' + k * 5 + 3, none⟩ = some (.int .i64 (tt : Int)) := put (hcell' _ _ at3)
      have d4 : wr.cell? ⟨b', off' + k * 5 + 4, none⟩ = some (.string ⟨da.toArray⟩) := put (hcell' _ _ at4)
      have i1 : (0 : Int) ≤ (k : Int) := by omega
      have i2 : (k : Int) < (xs.length : Int) := by omega
      generalize (⟨nm.toArray⟩ : ByteArray) = ns at *
      generalize (⟨da.toArray⟩ : ByteArray) = ds at *
      clear hc hc' hcell hcell' at0 at1 at2 at3 at4 hx put
      go_wp2
      go_region
      go_wp2
      go_roundw
      case rel => exact ⟨k + 1, by omega, by go_num, hbel.drew⟩
      case measure => simp [intOf]; omega
    · clear hc hc'
      go_wp2
      go_ret
      exact ⟨rfl, hbel⟩
end Go.Proofs.Ytihhchebcojplaa
/- laws.lwMessage by its contract. -/
namespace Go.Proofs.Ytihhchebcojplaa
open Go.RowKit
set_option linter.unusedVariables false

/-- A message's lists, to be read. -/
structure LRd (w : World) (m : Mm) (q a u x : Value) : Prop where
  rq : CRow w q m.qs.length 3 (quCs m.qs)
  ra : CRow w a m.an.length 5 (rrCs m.an)
  ru : CRow w u m.au.length 5 (rrCs m.au)
  rx : CRow w x m.ex.length 5 (rrCs m.ex)
theorem LRd.below {w W : World} {m : Mm} {q a u x : Value} (h : LRd w m q a u x) (hb : Below w.heap.size w W) : LRd W m q a u x := ⟨h.rq.below hb, h.ra.below hb, h.ru.below hb, h.rx.below hb⟩
theorem Lists.rd {w : World} {B : Nat} {m : Mm} {q a u x : Value} (h : Lists w B m q a u x) : LRd w m q a u x := ⟨CRow.of_owns h.rq, CRow.of_owns h.ra, CRow.of_owns h.ru, CRow.of_owns h.rx⟩

set_option maxRecDepth 100000 in
set_option maxHeartbeats 3200000 in
theorem lwMessage_any (i0 i2 i10 : Int) (t15 t10 t9 t8 t7 t6 t5 t4 : Bool) (m : Mm) (q a u x q' a' u' x' : Value) (w : World) (h : LRd w m q a u x) (h' : LRd w m q' a' u' x')
    (hs : m.qs.length ≤ 400 ∧ m.an.length ≤ 400 ∧ m.au.length ≤ 400 ∧ m.ex.length ≤ 400) :
    Calls Try.prog 7 #[.agg #[.int .i64 i0, .bool t15, .int .i64 i2, .bool t10, .bool t9, .bool t8, .bool t7, .bool t6, .bool t5, .bool t4, .int .i64 i10, q, a, u, x], .agg #[.int .i64 i0, .bool t15, .int .i64 i2, .bool t10, .bool t9, .bool t8, .bool t7, .bool t6, .bool t5, .bool t4, .int .i64 i10, q', a', u', x']] w fun e w' => e = .returned (.bool true) ∧ Below w.heap.size w w' := by
  obtain ⟨s1, s2, s3, s4⟩ := hs
  have hB1 := (Below.refl w.heap.size w).alloc (Nat.le_refl _) (.cells #[.int .i64 i0, .bool t15, .int .i64 i2, .bool t10, .bool t9, .bool t8, .bool t7, .bool t6, .bool t5, .bool t4, .int .i64 i10, q, a, u, x] 29)
  have hB2 := (Below.refl (w.alloc (.cells #[.int .i64 i0, .bool t15, .int .i64 i2, .bool t10, .bool t9, .bool t8, .bool t7, .bool t6, .bool t5, .bool t4, .int .i64 i10, q, a, u, x] 29)).heap.size _).alloc (Nat.le_refl _) (.cells #[.int .i64 i0, .bool t15, .int .i64 i2, .bool t10, .bool t9, .bool t8, .bool t7, .bool t6, .bool t5, .bool t4, .int .i64 i10, q', a', u', x'] 29)
  have k1 := blk_below (blk_new w #[.int .i64 i0, .bool t15, .int .i64 i2, .bool t10, .bool t9, .bool t8, .bool t7, .bool t6, .bool t5, .bool t4, .int .i64 i10, q, a, u, x] 29) hB2
  have k2 := blk_new (w.alloc (.cells #[.int .i64 i0, .bool t15, .int .i64 i2, .bool t10, .bool t9, .bool t8, .bool t7, .bool t6, .bool t5, .bool t4, .int .i64 i10, q, a, u, x] 29)) #[.int .i64 i0, .bool t15, .int .i64 i2, .bool t10, .bool t9, .bool t8, .bool t7, .bool t6, .bool t5, .bool t4, .int .i64 i10, q', a', u', x'] 29
  have hz : (w.alloc (.cells #[.int .i64 i0, .bool t15, .int .i64 i2, .bool t10, .bool t9, .bool t8, .bool t7, .bool t6, .bool t5, .bool t4, .int .i64 i10, q, a, u, x] 29)).heap.size = w.heap.size + 1 := by simp
  have hBW := Nm.below_two hB1 hB2
  rw [hz] at k2
  have H := Nm.hide (And.intro h h')
  obtain ⟨_, qa, qc, rfl, hq1, hq2, hqc⟩ := h.rq
  obtain ⟨_, qa', qc', rfl, hq1', hq2', hqc'⟩ := h'.rq
  obtain ⟨_, aa, ac, rfl, _⟩ := h.ra
  obtain ⟨_, aa', ac', rfl, _⟩ := h'.ra
  obtain ⟨_, ua, uc, rfl, _⟩ := h.ru
  obtain ⟨_, ua', uc', rfl, _⟩ := h'.ru
  obtain ⟨_, xa, xc, rfl, _⟩ := h.rx
  obtain ⟨_, xa', xc', rfl, _⟩ := h'.rx
  have rr := fun i => blk_cell k1 i
  have rs := fun i => blk_cell k2 i
  have hne : ((m.qs.length : Int) != (m.qs.length : Int)) = false := by simp
  clear h h' hB1 hB2 hz
  go_enter Try.func7, Try.ntmps7
  go_wp2
  go_loopw [5] (fun i wr => ∃ k : Nat, k ≤ m.qs.length ∧ i = .int .i64 k ∧ Blk wr w.heap.size #[.int .i64 i0, .bool t15, .int .i64 i2, .bool t10, .bool t9, .bool t8, .bool t7, .bool t6, .bool t5, .bool t4, .int .i64 i10, .slice qa m.qs.length qc, .slice aa m.an.length ac, .slice ua m.au.length uc, .slice xa m.ex.length xc] 29 ∧ Blk wr (w.heap.size + 1) #[.int .i64 i0, .bool t15, .int .i64 i2, .bool t10, .bool t9, .bool t8, .bool t7, .bool t6, .bool t5, .bool t4, .int .i64 i10, .slice qa' m.qs.length qc', .slice aa' m.an.length ac', .slice ua' m.au.length uc', .slice xa' m.ex.length xc'] 29 ∧ Below w.heap.size w wr) (fun i _ => m.qs.length - (intOf i).toNat)
  case atStart => exact ⟨0, Nat.zero_le _, rfl, k1, k2, hBW⟩
  case round =>
    obtain ⟨k, hk, rfl, z1, z2, hbel⟩ := hrel
    clear rr rs k1 k2 hBW
    by_cases hlt : k < m.qs.length
    · obtain ⟨x, hx⟩ : ∃ x, m.qs[k]? = some x := ⟨_, List.getElem?_eq_getElem hlt⟩
      have at0 := quCs_at m.qs k 0 x hx (by decide)
      have at1 := quCs_at m.qs k 1 x hx (by decide)
      have at2 := quCs_at m.qs k 2 x hx (by decide)
      obtain ⟨b, off, rfl, hcell⟩ := hqc (by omega)
      obtain ⟨b', off', rfl, hcell'⟩ := hqc' (by omega)
      obtain ⟨nm, ty, cl⟩ := x
      have put : ∀ {B O : Nat} {z : Value}, w.cell? ⟨B, O, none⟩ = some z → wr.cell? ⟨B, O, none⟩ = some z := fun h => (hbel.cell (World.block_lt_of_cell? w _ h)).trans h
      have c0 : wr.cell? ⟨b, off + k * 3, none⟩ = some (.string ⟨nm.toArray⟩) := put (hcell _ _ at0)
      have c1 : wr.cell? ⟨b, off + k * 3 + 1, none⟩ = some (.int .i64 (ty : Int)) := put (hcell _ _ at1)
      have c2 : wr.cell? ⟨b, off + k * 3 + 2, none⟩ = some (.int .i64 (cl : Int)) := put (hcell _ _ at2)
      have d0 : wr.cell? ⟨b', off' + k * 3, none⟩ = some (.string ⟨nm.toArray⟩) := put (hcell' _ _ at0)
      have d1 : wr.cell? ⟨b', off' + k * 3 + 1, none⟩ = some (.int .i64 (ty : Int)) := put (hcell' _ _ at1)
      have d2 : wr.cell? ⟨b', off' + k * 3 + 2, none⟩ = some (.int .i64 (cl : Int)) := put (hcell' _ _ at2)
      have i1 : (0 : Int) ≤ (k : Int) := by omega
      have i2' : (k : Int) < (m.qs.length : Int) := by omega
      generalize (⟨nm.toArray⟩ : ByteArray) = ns at *
      clear hqc hqc' hcell hcell' at0 at1 at2 hx put
      have rr := fun i => blk_cell z1 i
      have rs := fun i => blk_cell z2 i
      have Z := Nm.hide (And.intro (blk_below z1 (Below.refl _ _).drew) (blk_below z2 (Below.refl _ _).drew))
      clear z1 z2
      go_wp2
      go_region
      go_wp2
      go_roundw
      case rel => exact ⟨k + 1, by omega, by go_num, Z.out.1, Z.out.2, hbel.drew⟩
      case measure => simp [intOf]; omega
    · have hge : ¬ ((k : Int) < (m.qs.length : Int)) := by omega
      have rr := fun i => blk_cell z1 i
      have rs := fun i => blk_cell z2 i
      clear hqc hqc'
      go_wp2_with fail
      refine (lwRecords_any _ _ m.an _ (H.out.1.ra.below hbel) (H.out.2.ra.below hbel) (by omega)).mono ?_
      rintro e w3 ⟨rfl, b3⟩
      have y1 := blk_below z1 b3
      have y2 := blk_below z2 b3
      have hb3 := Nm.below_two hbel b3
      have rr := fun i => blk_cell y1 i
      have rs := fun i => blk_cell y2 i
      clear z1 z2 hbel b3
      go_wp2_with fail
      refine (lwRecords_any _ _ m.au _ (H.out.1.ru.below hb3) (H.out.2.ru.below hb3) (by omega)).mono ?_
      rintro e w4 ⟨rfl, b4⟩
      have z1 := blk_below y1 b4
      have z2 := blk_below y2 b4
      have hb4 := Nm.below_two hb3 b4
      have rr := fun i => blk_cell z1 i
      have rs := fun i => blk_cell z2 i
      clear y1 y2 hb3 b4
      go_wp2_with fail
      refine (lwRecords_any _ _ m.ex _ (H.out.1.rx.below hb4) (H.out.2.rx.below hb4) (by omega)).mono ?_
      rintro e w5 ⟨rfl, b5⟩
      go_wp2
      go_ret
      exact ⟨rfl, Nm.below_two hb4 b5⟩
end Go.Proofs.Ytihhchebcojplaa
