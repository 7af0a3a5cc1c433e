import Derived.Test.YtocadkdfhfiijaaJSDe
import Derived.Test.YtocadkdfhfiijaaJRtV
import Derived.Test.YtocadkdfhfiijaaJWtW
import Derived.Test.YtocadkdfhfiijaaJRd8
import Derived.RegionTactic
import Derived.BigRegion
import Derived.Deep.RegionHeld3
/- What was read, written and read again: what the Decodes answer. -/
namespace Go.Proofs.Ytocadkdfhfiijaa
open Go.RowKit
set_option linter.unusedVariables false

theorem qv_of (xs : List Qm) : qvVs (xs.map qrOf) = quCs xs := by
  induction xs with
  | nil => rfl
  | cons x xs ih => rw [List.map_cons, qvVs_cons, ih]; rfl
theorem rv_of (xs : List Rm) : rvVs (xs.map rrOf) = rrCs xs := by
  induction xs with
  | nil => rfl
  | cons x xs ih => rw [List.map_cons, rvVs_cons, ih]; rfl

theorem mrow_of {w : World} {B : Nat} {l : List UInt8} {M : Mm} {q a u x : Value} (h : Lists w B M q a u x) : MRow w (mgOf l M) q a u x := by
  refine ⟨?_, ?_, ?_, ?_⟩
  · have := CRow.of_owns h.rq; rw [mgOf]; simp only [List.length_map, qv_of]; exact this
  · have := CRow.of_owns h.ra; rw [mgOf]; simp only [List.length_map, rv_of]; exact this
  · have := CRow.of_owns h.ru; rw [mgOf]; simp only [List.length_map, rv_of]; exact this
  · have := CRow.of_owns h.rx; rw [mgOf]; simp only [List.length_map, rv_of]; exact this

theorem mgV_of (l : List UInt8) (M : Mm) (q a u x : Value) : mgV (mgOf l M).hd q a u x = msA (n16 l 0) (n16 l 2) q a u x := rfl

theorem msA_hd (d f : Nat) (q a u x : Value) : msA d f q a u x = hdA d f ++ #[q, a, u, x] := rfl

/-- What was read as a message is written, or is too long. -/
theorem encode_read {l : List UInt8} {M : Mm} {e : Nat} (h : msgS l = .ok M e) (q a u x : Value) (B : Nat) (w : World) (hL : Lists w B M q a u x) :
    Calls Try.prog 8 #[.agg (msA (n16 l 0) (n16 l 2) q a u x)] w fun e w' => Below w.heap.size w w' ∧
      ((∃ v, e = .returned (.tuple #[v, .int .i64 11]) ∧ ∃ b c, v = .slice b 0 c) ∨ ((msgW (mgOf l M)).1.length ≤ 65535 ∧ ∃ v, e = .returned (.tuple #[v, .int .i64 0]) ∧ w'.ownsRow w.heap.size 5 1 v (msgW (mgOf l M)).1.length (Nm.bys (msgW (mgOf l M)).1))) := by
  have hok := msgS_ok h
  have hc := implEncode_any (mgOf l M) q a u x w (mrow_of hL) (mgW_small (mg_w hok))
  rw [mgV_of] at hc
  refine hc.mono ?_
  rintro e w' ⟨v, rfl, hown, hb⟩
  refine ⟨hb, ?_⟩
  by_cases hz : (msgW (mgOf l M)).1.length ≤ 65535
  · have e1 : enC (mgOf l M) = 0 := by rw [enC, if_pos hok, if_pos hz]
    have e2 : enB (mgOf l M) = (msgW (mgOf l M)).1 := by rw [enB, if_pos hok, if_pos hz]
    rw [e1]
    rw [e2] at hown
    exact .inr ⟨hz, v, rfl, hown⟩
  · have e1 : enC (mgOf l M) = 11 := by rw [enC, if_pos hok, if_neg hz]
    have e2 : enB (mgOf l M) = [] := by rw [enB, if_pos hok, if_neg hz]
    rw [e1]
    rw [e2] at hown
    obtain ⟨b, c, hv⟩ := own_sl hown
    exact .inl ⟨v, rfl, b, c, hv⟩

/-- What was written is read as it was. -/
theorem decode_again {l : List UInt8} {M : Mm} {e : Nat} (h : msgS l = .ok M e) (hz : (msgW (mgOf l M)).1.length ≤ 65535) (v : Value) (w : World) (hv : BySl w v (msgW (mgOf l M)).1) :
    Calls Try.prog 6 #[v] w fun e w' => Below w.heap.size w w' ∧ ∃ q x y z, e = .returned (.tuple #[.agg (msA (n16 l 0) (n16 l 2) q x y z), .int .i64 0]) ∧ Lists w' w.heap.size M q x y z := by
  obtain ⟨h1, h2⟩ := msgS_again h hz
  refine (implDecode_one v _ w hv (by omega)).mono ?_
  rintro e w' ⟨hb, q, x, y, z, rfl, hL⟩
  have hm : msO (msgW (mgOf l M)).1 = ⟨n16 (msgW (mgOf l M)).1 0, n16 (msgW (mgOf l M)).1 2, M, 0⟩ := by rw [msO, h1]
  rw [hm] at hL
  refine ⟨hb, q, x, y, z, ?_, hL⟩
  rw [hm, msA_hd, h2, ← msA_hd]

theorem msO_ok {l : List UInt8} {M : Mm} {e : Nat} (h : msgS l = .ok M e) : msO l = ⟨n16 l 0, n16 l 2, M, 0⟩ := by rw [msO, h]
theorem msO_bad {l : List UInt8} {c : Int} (h : msgS l = .bad c) : msO l = ⟨0, 0, ⟨[], [], [], []⟩, c⟩ := by rw [msO, h]

/-- How many questions and records were read. -/
theorem msO_few (l : List UInt8) : (msO l).m.qs.length ≤ 400 ∧ (msO l).m.an.length ≤ 400 ∧ (msO l).m.au.length ≤ 400 ∧ (msO l).m.ex.length ≤ 400 := by
  cases hm : msgS l using Rs.elim with
  | bad c => rw [msO_bad hm]; simp
  | ok M e =>
    rw [msO_ok hm]
    have := (mg_w (msgS_ok hm)).1
    simp only [mgOf, List.length_map] at this
    simp only
    omega


theorem msO_or (l : List UInt8) : (msO l).c ≠ 0 ∨ ∃ e, msgS l = .ok (msO l).m e ∧ (msO l).d = n16 l 0 ∧ (msO l).f = n16 l 2 ∧ (msO l).c = 0 := by
  cases hm : msgS l using Rs.elim with
  | bad c => rw [msO_bad hm]; exact .inl (code_bad hm)
  | ok M e => rw [msO_ok hm]; exact .inr ⟨e, rfl, rfl, rfl, rfl⟩
end Go.Proofs.Ytocadkdfhfiijaa
/- Where the cells of a list of questions or records stand. -/
namespace Go.Proofs.Ytocadkdfhfiijaa
open Go.RowKit
set_option linter.unusedVariables false

theorem str_ne (s : ByteArray) : (s.toList != s.toList) = false ∧ (s.toList == s.toList) = true := by simp

theorem quCs_at : ∀ (xs : List Qm) (k j : Nat) (x : Qm), xs[k]? = some x → j < 3 → (quCs xs)[k * 3 + j]? = (quC x)[j]? := by
  intro xs
  induction xs with
  | nil => intro k j x h; simp at h
  | cons y xs ih =>
    intro k j x h hj
    have e : quCs (y :: xs) = quC y ++ quCs xs := by simp [quCs]
    have hl : (quC y).length = 3 := rfl
    cases k with
    | zero =>
      simp at h; subst h
      rw [e, Nat.zero_mul, Nat.zero_add, List.getElem?_append_left (by omega)]
    | succ k =>
      simp at h
      rw [e, List.getElem?_append_right (by omega), hl, show (k + 1) * 3 + j - 3 = k * 3 + j by omega]
      exact ih k j x h hj

theorem rrCs_at : ∀ (xs : List Rm) (k j : Nat) (x : Rm), xs[k]? = some x → j < 5 → (rrCs xs)[k * 5 + j]? = (rrC x)[j]? := by
  intro xs
  induction xs with
  | nil => intro k j x h; simp at h
  | cons y xs ih =>
    intro k j x h hj
    have e : rrCs (y :: xs) = rrC y ++ rrCs xs := by simp [rrCs]
    have hl : (rrC y).length = 5 := rfl
    cases k with
    | zero =>
      simp at h; subst h
      rw [e, Nat.zero_mul, Nat.zero_add, List.getElem?_append_left (by omega)]
    | succ k =>
      simp at h
      rw [e, List.getElem?_append_right (by omega), hl, show (k + 1) * 5 + j - 5 = k * 5 + j by omega]
      exact ih k j x h hj
end Go.Proofs.Ytocadkdfhfiijaa
/- laws.lwRecords and laws.lwMessage by their contracts: of the same records they say so. -/
namespace Go.Proofs.Ytocadkdfhfiijaa
open Go.RowKit
set_option linter.unusedVariables false

set_option maxRecDepth 100000 in
set_option maxHeartbeats 1600000 in
theorem lwRecords_any (v u : Value) (xs : List Rm) (w : World) (h : CRow w v xs.length 5 (rrCs xs)) (h' : CRow w u xs.length 5 (rrCs xs)) (hlen : xs.length ≤ 1000000) :
    Calls Try.prog 18 #[v, u] w fun e w' => e = .returned (.bool true) ∧ Below w.heap.size w w' := by
  obtain ⟨_, a, cap, rfl, hcap, hmx, hc⟩ := h
  obtain ⟨_, a', cap', rfl, hcap', hmx', hc'⟩ := h'
  have hne : ((xs.length : Int) != (xs.length : Int)) = false := by simp
  go_enter Try.func18, Try.ntmps18
  go_wp2
  go_loopw [5] (fun i wr => ∃ k : Nat, k ≤ xs.length ∧ i = .int .i64 k ∧ Below w.heap.size w wr) (fun i _ => xs.length - (intOf i).toNat)
  case atStart => exact ⟨0, Nat.zero_le _, rfl, Below.refl _ _⟩
  case round =>
    obtain ⟨k, hk, rfl, hbel⟩ := hrel
    by_cases hlt : k < xs.length
    · obtain ⟨x, hx⟩ : ∃ x, xs[k]? = some x := ⟨_, List.getElem?_eq_getElem hlt⟩
      have at0 := rrCs_at xs k 0 x hx (by decide)
      have at1 := rrCs_at xs k 1 x hx (by decide)
      have at2 := rrCs_at xs k 2 x hx (by decide)
      have at3 := rrCs_at xs k 3 x hx (by decide)
      have at4 := rrCs_at xs k 4 x hx (by decide)
      obtain ⟨b, off, rfl, hcell⟩ := hc (by omega)
      obtain ⟨b', off', rfl, hcell'⟩ := hc' (by omega)
      obtain ⟨nm, ty, cl, tt, da⟩ := x
      have put : ∀ {B O : Nat} {z : Value}, w.cell? ⟨B, O, none⟩ = some z → wr.cell? ⟨B, O, none⟩ = some z := fun h => (hbel.cell (World.block_lt_of_cell? w _ h)).trans h
      have c0 : wr.cell? ⟨b, off + k * 5, none⟩ = some (.string ⟨nm.toArray⟩) := put (hcell _ _ at0)
      have c1 : wr.cell? ⟨b, off + k * 5 + 1, none⟩ = some (.int .i64 (ty : Int)) := put (hcell _ _ at1)
      have c2 : wr.cell? ⟨b, off + k * 5 + 2, none⟩ = some (.int .i64 (cl : Int)) := put (hcell _ _ at2)
      have c3 : wr.cell? ⟨b, off + k * 5 + 3, none⟩ = some (.int .i64 (tt : Int)) := put (hcell _ _ at3)
      have c4 : wr.cell? ⟨b, off + k * 5 + 4, none⟩ = some (.string ⟨da.toArray⟩) := put (hcell _ _ at4)
      have d0 : wr.cell? ⟨b', off' + k * 5, none⟩ = some (.string ⟨nm.toArray⟩) := put (hcell' _ _ at0)
      have d1 : wr.cell? ⟨b', off' + k * 5 + 1, none⟩ = some (.int .i64 (ty : Int)) := put (hcell' _ _ at1)
      have d2 : wr.cell? ⟨b', off' + k * 5 + 2, none⟩ = some (.int .i64 (cl : Int)) := put (hcell' _ _ at2)
      have d3 : wr.cell? ⟨b', off' + k * 5 + 3, none⟩ = some (.int .i64 (tt : Int)) := put (hcell' _ _ at3)
      have d4 : wr.cell? ⟨b', off' + k * 5 + 4, none⟩ = some (.string ⟨da.toArray⟩) := put (hcell' _ _ at4)
      have i1 : (0 : Int) ≤ (k : Int) := by omega
      have i2 : (k : Int) < (xs.length : Int) := by omega
      generalize (⟨nm.toArray⟩ : ByteArray) = ns at *
      generalize (⟨da.toArray⟩ : ByteArray) = ds at *
      clear hc hc' hcell hcell' at0 at1 at2 at3 at4 hx put
      go_wp2
      go_region
      go_wp2
      go_roundw
      case rel => exact ⟨k + 1, by omega, by go_num, hbel.drew⟩
      case measure => simp [intOf]; omega
    · clear hc hc'
      go_wp2
      go_ret
      exact ⟨rfl, hbel⟩
end Go.Proofs.Ytocadkdfhfiijaa
/- laws.lwMessage by its contract. -/
namespace Go.Proofs.Ytocadkdfhfiijaa
open Go.RowKit
set_option linter.unusedVariables false

/-- A message's lists, to be read. -/
structure LRd (w : World) (m : Mm) (q a u x : Value) : Prop where
  rq : CRow w q m.qs.length 3 (quCs m.qs)
  ra : CRow w a m.an.length 5 (rrCs m.an)
  ru : CRow w u m.au.length 5 (rrCs m.au)
  rx : CRow w x m.ex.length 5 (rrCs m.ex)
theorem LRd.below {w W : World} {m : Mm} {q a u x : Value} (h : LRd w m q a u x) (hb : Below w.heap.size w W) : LRd W m q a u x := ⟨h.rq.below hb, h.ra.below hb, h.ru.below hb, h.rx.below hb⟩
theorem Lists.rd {w : World} {B : Nat} {m : Mm} {q a u x : Value} (h : Lists w B m q a u x) : LRd w m q a u x := ⟨CRow.of_owns h.rq, CRow.of_owns h.ra, CRow.of_owns h.ru, CRow.of_owns h.rx⟩

set_option maxRecDepth 100000 in
set_option maxHeartbeats 3200000 in
theorem lwMessage_any (i0 i2 i10 : Int) (t15 t10 t9 t8 t7 t6 t5 t4 : Bool) (m : Mm) (q a u x q' a' u' x' : Value) (w : World) (h : LRd w m q a u x) (h' : LRd w m q' a' u' x')
    (hs : m.qs.length ≤ 400 ∧ m.an.length ≤ 400 ∧ m.au.length ≤ 400 ∧ m.ex.length ≤ 400) :
    Calls Try.prog 7 #[.agg #[.int .i64 i0, .bool t15, .int .i64 i2, .bool t10, .bool t9, .bool t8, .bool t7, .bool t6, .bool t5, .bool t4, .int .i64 i10, q, a, u, x], .agg #[.int .i64 i0, .bool t15, .int .i64 i2, .bool t10, .bool t9, .bool t8, .bool t7, .bool t6, .bool t5, .bool t4, .int .i64 i10, q', a', u', x']] w fun e w' => e = .returned (.bool true) ∧ Below w.heap.size w w' := by
  obtain ⟨s1, s2, s3, s4⟩ := hs
  have hB1 := (Below.refl w.heap.size w).alloc (Nat.le_refl _) (.cells #[.int .i64 i0, .bool t15, .int .i64 i2, .bool t10, .bool t9, .bool t8, .bool t7, .bool t6, .bool t5, .bool t4, .int .i64 i10, q, a, u, x] 29)
  have hB2 := (Below.refl (w.alloc (.cells #[.int .i64 i0, .bool t15, .int .i64 i2, .bool t10, .bool t9, .bool t8, .bool t7, .bool t6, .bool t5, .bool t4, .int .i64 i10, q, a, u, x] 29)).heap.size _).alloc (Nat.le_refl _) (.cells #[.int .i64 i0, .bool t15, .int .i64 i2, .bool t10, .bool t9, .bool t8, .bool t7, .bool t6, .bool t5, .bool t4, .int .i64 i10, q', a', u', x'] 29)
  have k1 := blk_below (blk_new w #[.int .i64 i0, .bool t15, .int .i64 i2, .bool t10, .bool t9, .bool t8, .bool t7, .bool t6, .bool t5, .bool t4, .int .i64 i10, q, a, u, x] 29) hB2
  have k2 := blk_new (w.alloc (.cells #[.int .i64 i0, .bool t15, .int .i64 i2, .bool t10, .bool t9, .bool t8, .bool t7, .bool t6, .bool t5, .bool t4, .int .i64 i10, q, a, u, x] 29)) #[.int .i64 i0, .bool t15, .int .i64 i2, .bool t10, .bool t9, .bool t8, .bool t7, .bool t6, .bool t5, .bool t4, .int .i64 i10, q', a', u', x'] 29
  have hz : (w.alloc (.cells #[.int .i64 i0, .bool t15, .int .i64 i2, .bool t10, .bool t9, .bool t8, .bool t7, .bool t6, .bool t5, .bool t4, .int .i64 i10, q, a, u, x] 29)).heap.size = w.heap.size + 1 := by simp
  have hBW := Nm.below_two hB1 hB2
  rw [hz] at k2
  have H := Nm.hide (And.intro h h')
  obtain ⟨_, qa, qc, rfl, hq1, hq2, hqc⟩ := h.rq
  obtain ⟨_, qa', qc', rfl, hq1', hq2', hqc'⟩ := h'.rq
  obtain ⟨_, aa, ac, rfl, _⟩ := h.ra
  obtain ⟨_, aa', ac', rfl, _⟩ := h'.ra
  obtain ⟨_, ua, uc, rfl, _⟩ := h.ru
  obtain ⟨_, ua', uc', rfl, _⟩ := h'.ru
  obtain ⟨_, xa, xc, rfl, _⟩ := h.rx
  obtain ⟨_, xa', xc', rfl, _⟩ := h'.rx
  have rr := fun i => blk_cell k1 i
  have rs := fun i => blk_cell k2 i
  have hne : ((m.qs.length : Int) != (m.qs.length : Int)) = false := by simp
  clear h h' hB1 hB2 hz
  go_enter Try.func7, Try.ntmps7
  go_wp2
  go_loopw [5] (fun i wr => ∃ k : Nat, k ≤ m.qs.length ∧ i = .int .i64 k ∧ Blk wr w.heap.size #[.int .i64 i0, .bool t15, .int .i64 i2, .bool t10, .bool t9, .bool t8, .bool t7, .bool t6, .bool t5, .bool t4, .int .i64 i10, .slice qa m.qs.length qc, .slice aa m.an.length ac, .slice ua m.au.length uc, .slice xa m.ex.length xc] 29 ∧ Blk wr (w.heap.size + 1) #[.int .i64 i0, .bool t15, .int .i64 i2, .bool t10, .bool t9, .bool t8, .bool t7, .bool t6, .bool t5, .bool t4, .int .i64 i10, .slice qa' m.qs.length qc', .slice aa' m.an.length ac', .slice ua' m.au.length uc', .slice xa' m.ex.length xc'] 29 ∧ Below w.heap.size w wr) (fun i _ => m.qs.length - (intOf i).toNat)
  case atStart => exact ⟨0, Nat.zero_le _, rfl, k1, k2, hBW⟩
  case round =>
    obtain ⟨k, hk, rfl, z1, z2, hbel⟩ := hrel
    clear rr rs k1 k2 hBW
    by_cases hlt : k < m.qs.length
    · obtain ⟨x, hx⟩ : ∃ x, m.qs[k]? = some x := ⟨_, List.getElem?_eq_getElem hlt⟩
      have at0 := quCs_at m.qs k 0 x hx (by decide)
      have at1 := quCs_at m.qs k 1 x hx (by decide)
      have at2 := quCs_at m.qs k 2 x hx (by decide)
      obtain ⟨b, off, rfl, hcell⟩ := hqc (by omega)
      obtain ⟨b', off', rfl, hcell'⟩ := hqc' (by omega)
      obtain ⟨nm, ty, cl⟩ := x
      have put : ∀ {B O : Nat} {z : Value}, w.cell? ⟨B, O, none⟩ = some z → wr.cell? ⟨B, O, none⟩ = some z := fun h => (hbel.cell (World.block_lt_of_cell? w _ h)).trans h
      have c0 : wr.cell? ⟨b, off + k * 3, none⟩ = some (.string ⟨nm.toArray⟩) := put (hcell _ _ at0)
      have c1 : wr.cell? ⟨b, off + k * 3 + 1, none⟩ = some (.int .i64 (ty : Int)) := put (hcell _ _ at1)
      have c2 : wr.cell? ⟨b, off + k * 3 + 2, none⟩ = some (.int .i64 (cl : Int)) := put (hcell _ _ at2)
      have d0 : wr.cell? ⟨b', off' + k * 3, none⟩ = some (.string ⟨nm.toArray⟩) := put (hcell' _ _ at0)
      have d1 : wr.cell? ⟨b', off' + k * 3 + 1, none⟩ = some (.int .i64 (ty : Int)) := put (hcell' _ _ at1)
      have d2 : wr.cell? ⟨b', off' + k * 3 + 2, none⟩ = some (.int .i64 (cl : Int)) := put (hcell' _ _ at2)
      have i1 : (0 : Int) ≤ (k : Int) := by omega
      have i2' : (k : Int) < (m.qs.length : Int) := by omega
      generalize (⟨nm.toArray⟩ : ByteArray) = ns at *
      clear hqc hqc' hcell hcell' at0 at1 at2 hx put
      have rr := fun i => blk_cell z1 i
      have rs := fun i => blk_cell z2 i
      have Z := Nm.hide (And.intro (blk_below z1 (Below.refl _ _).drew) (blk_below z2 (Below.refl _ _).drew))
      clear z1 z2
      go_wp2
      go_region
      go_wp2
      go_roundw
      case rel => exact ⟨k + 1, by omega, by go_num, Z.out.1, Z.out.2, hbel.drew⟩
      case measure => simp [intOf]; omega
    · have hge : ¬ ((k : Int) < (m.qs.length : Int)) := by omega
      have rr := fun i => blk_cell z1 i
      have rs := fun i => blk_cell z2 i
      clear hqc hqc'
      go_wp2_with fail
      refine (lwRecords_any _ _ m.an _ (H.out.1.ra.below hbel) (H.out.2.ra.below hbel) (by omega)).mono ?_
      rintro e w3 ⟨rfl, b3⟩
      have y1 := blk_below z1 b3
      have y2 := blk_below z2 b3
      have hb3 := Nm.below_two hbel b3
      have rr := fun i => blk_cell y1 i
      have rs := fun i => blk_cell y2 i
      clear z1 z2 hbel b3
      go_wp2_with fail
      refine (lwRecords_any _ _ m.au _ (H.out.1.ru.below hb3) (H.out.2.ru.below hb3) (by omega)).mono ?_
      rintro e w4 ⟨rfl, b4⟩
      have z1 := blk_below y1 b4
      have z2 := blk_below y2 b4
      have hb4 := Nm.below_two hb3 b4
      have rr := fun i => blk_cell z1 i
      have rs := fun i => blk_cell z2 i
      clear y1 y2 hb3 b4
      go_wp2_with fail
      refine (lwRecords_any _ _ m.ex _ (H.out.1.rx.below hb4) (H.out.2.rx.below hb4) (by omega)).mono ?_
      rintro e w5 ⟨rfl, b5⟩
      go_wp2
      go_ret
      exact ⟨rfl, Nm.below_two hb4 b5⟩
end Go.Proofs.Ytocadkdfhfiijaa
