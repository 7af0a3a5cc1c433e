import Derived.Test.YtfficbpalibmoaaGreatDoorJICheck
import Derived.RegionTactic
import Derived.BigRegion
import Derived.Deep.RegionHeld3
import Derived.Test.YtfficbpalibmoaaGreatDoorJJoin
import Derived.Test.YtfficbpalibmoaaGreatDoorJHd1
import Derived.Test.YtfficbpalibmoaaGreatDoorVfK
import Derived.Test.YtfficbpalibmoaaGreatDoorJOwnT
/- laws.lwRecords and laws.lwMessage by their contracts: of the same records they say so. -/
namespace Go.Proofs.YtfficbpalibmoaaGreatDoor
open Go.RowKit
set_option linter.unusedVariables false

end Go.Proofs.YtfficbpalibmoaaGreatDoor
/- laws.lwMessage by its contract. -/
namespace Go.Proofs.YtfficbpalibmoaaGreatDoor
open Go.RowKit
set_option linter.unusedVariables false

/-- A message's lists, to be read. -/
structure LRd (w : World) (m : Mm) (q a u x : Value) : Prop where
  rq : CRow w q m.qs.length 3 (quCs m.qs)
  ra : CRow w a m.an.length 5 (rrCs m.an)
  ru : CRow w u m.au.length 5 (rrCs m.au)
  rx : CRow w x m.ex.length 5 (rrCs m.ex)
theorem LRd.below {w W : World} {m : Mm} {q a u x : Value} (h : LRd w m q a u x) (hb : Below w.heap.size w W) : LRd W m q a u x := ⟨h.rq.below hb, h.ra.below hb, h.ru.below hb, h.rx.below hb⟩
theorem Lists.rd {w : World} {B : Nat} {m : Mm} {q a u x : Value} (h : Lists w B m q a u x) : LRd w m q a u x := ⟨CRow.of_owns h.rq, CRow.of_owns h.ra, CRow.of_owns h.ru, CRow.of_owns h.rx⟩

end Go.Proofs.YtfficbpalibmoaaGreatDoor
/- spec.l09Stray by its contract. -/
namespace Go.Proofs.YtfficbpalibmoaaGreatDoor
open Go.RowKit
set_option linter.unusedVariables false

set_option maxRecDepth 100000 in
set_option maxHeartbeats 3200000 in
theorem l09Stray_any (d f : Nat) (m : Mm) (q a u x : Value) (w : World) (h : LRd w m q a u x) (hs : m.an.length ≤ 400 ∧ m.au.length ≤ 400 ∧ m.ex.length ≤ 400) :
    Calls Tryz.prog 19 #[.agg (msA d f q a u x)] w fun e w' => e = .returned (.bool (strayB m)) ∧ Below w.heap.size w w' := by
  obtain ⟨s2, s3, s4⟩ := hs
  obtain ⟨_, qa, qc, rfl, _⟩ := h.rq
  obtain ⟨_, aa, ac, rfl, ha1, ha2, hac⟩ := h.ra
  obtain ⟨_, ua, uc, rfl, hu1, hu2, huc⟩ := h.ru
  obtain ⟨_, xa, xc, rfl, hx1, hx2, hxc⟩ := h.rx
  have hB1 := (Below.refl w.heap.size w).alloc (Nat.le_refl _) (.cells (msA d f (.slice qa m.qs.length qc) (.slice aa m.an.length ac) (.slice ua m.au.length uc) (.slice xa m.ex.length xc)) 46)
  have k1 := blk_new w (msA d f (.slice qa m.qs.length qc) (.slice aa m.an.length ac) (.slice ua m.au.length uc) (.slice xa m.ex.length xc)) 46
  obtain ⟨RES, HRES⟩ : ∃ R, Hid (R = strayB m) := ⟨_, rfl⟩
  rw [← HRES.out]
  simp only [msA] at *
  generalize ((f / 2048 % 16 : Nat) : Int) = i2 at *
  generalize ((f % 16 : Nat) : Int) = i10 at *
  generalize f.testBit 15 = t15 at *
  generalize f.testBit 10 = t10 at *
  generalize f.testBit 9 = t9 at *
  generalize f.testBit 8 = t8 at *
  generalize f.testBit 7 = t7 at *
  generalize f.testBit 6 = t6 at *
  generalize f.testBit 5 = t5 at *
  generalize f.testBit 4 = t4 at *
  generalize (d : Int) = i0 at *
  clear h
  go_enter Tryz.func19, Tryz.ntmps19
  go_wp2
  go_loopw [3] (fun i wr => ∃ k : Nat, k ≤ m.an.length ∧ i = .int .i64 k ∧ Hid ((m.an.take k).any vTs = false) ∧ Blk wr w.heap.size #[.int .i64 i0, .bool t15, .int .i64 i2, .bool t10, .bool t9, .bool t8, .bool t7, .bool t6, .bool t5, .bool t4, .int .i64 i10, .slice qa m.qs.length qc, .slice aa m.an.length ac, .slice ua m.au.length uc, .slice xa m.ex.length xc] 46 ∧ Below w.heap.size w wr) (fun i _ => m.an.length - (intOf i).toNat)
  case atStart => exact ⟨0, Nat.zero_le _, rfl, by show _ = _; simp, k1, hB1⟩
  case round =>
    obtain ⟨k, hk, rfl, HA, z1, hbel⟩ := hrel
    clear k1 hB1
    have rr := fun i => blk_cell z1 i
    by_cases hlt : k < m.an.length
    · obtain ⟨x, hx⟩ : ∃ x, (m.an)[k]? = some x := ⟨_, List.getElem?_eq_getElem (by omega)⟩
      obtain ⟨b, off, rfl, hcell⟩ := hac (by omega)
      have at1 := rrCs_at m.an k 1 x hx (by decide)
      have c1 : wr.cell? ⟨b, off + k * 5 + 1, none⟩ = some (.int .i64 (x.ty : Int)) := (hbel.cell (World.block_lt_of_cell? w _ (hcell _ _ at1))).trans (hcell _ _ at1)
      have i1 : (0 : Int) ≤ (k : Int) := by omega
      clear hcell at1
      have i2' : (k : Int) < (m.an.length : Int) := by omega
      cases ht : vTs x with
      | true =>
        obtain rfl : RES = true := by rw [HRES.out, strayB, any_at hx ht]; rfl
        have ht' : ((x.ty : Int) == 250) = true := by simp only [vTs, decide_eq_true_eq] at ht; rw [ht]; rfl
        have Z := Nm.hide hbel
        clear HRES hx ht hac huc hxc z1 hbel
        go_wp2
        go_ret
        exact ⟨rfl, Z.out⟩
      | false =>
        have ht' : ((x.ty : Int) == 250) = false := by simp only [vTs, decide_eq_false_iff_not] at ht; rw [beq_eq_false_iff_ne]; omega
        have HA2 : Hid ((m.an.take (k + 1)).any vTs = false) := by show _ = _; rw [any_step hx, HA.out, ht]; rfl
        have Z := Nm.hide (And.intro z1 hbel)
        clear HA HRES hx ht hac huc hxc z1 hbel
        go_wp2
        go_roundw
        case rel => exact ⟨k + 1, by omega, by go_num, HA2, Z.out.1, Z.out.2⟩
        case measure => simp [intOf]; omega
    · have hkl : k = m.an.length := by omega
      subst hkl
      have HA1 : Hid (m.an.any vTs = false) := by have := HA.out; rw [List.take_length] at this; exact this
      have i2' : ¬ (m.an.length : Int) < (m.an.length : Int) := by omega
      have Z := Nm.hide (And.intro z1 hbel)
      clear HA hac z1 hbel
      go_wp2_with fail
      go_loopw [4] (fun i wr => ∃ k : Nat, k ≤ m.au.length ∧ i = .int .i64 k ∧ Hid ((m.au.take k).any vTs = false) ∧ Blk wr w.heap.size #[.int .i64 i0, .bool t15, .int .i64 i2, .bool t10, .bool t9, .bool t8, .bool t7, .bool t6, .bool t5, .bool t4, .int .i64 i10, .slice qa m.qs.length qc, .slice aa m.an.length ac, .slice ua m.au.length uc, .slice xa m.ex.length xc] 46 ∧ Below w.heap.size w wr) (fun i _ => m.au.length - (intOf i).toNat)
      case atStart => exact ⟨0, Nat.zero_le _, rfl, by show _ = _; simp, Z.out.1, Z.out.2⟩
      case round =>
        obtain ⟨k, hk, rfl, HA, z1, hbel⟩ := hrel
        clear Z rr
        have rr := fun i => blk_cell z1 i
        by_cases hlt : k < m.au.length
        · obtain ⟨x, hx⟩ : ∃ x, (m.au)[k]? = some x := ⟨_, List.getElem?_eq_getElem (by omega)⟩
          obtain ⟨b, off, rfl, hcell⟩ := huc (by omega)
          have at1 := rrCs_at m.au k 1 x hx (by decide)
          have c1 : wr.cell? ⟨b, off + k * 5 + 1, none⟩ = some (.int .i64 (x.ty : Int)) := (hbel.cell (World.block_lt_of_cell? w _ (hcell _ _ at1))).trans (hcell _ _ at1)
          have i1 : (0 : Int) ≤ (k : Int) := by omega
          clear hcell at1
          have i2' : (k : Int) < (m.au.length : Int) := by omega
          cases ht : vTs x with
          | true =>
            obtain rfl : RES = true := by rw [HRES.out, strayB, HA1.out, any_at hx ht]; rfl
            have ht' : ((x.ty : Int) == 250) = true := by simp only [vTs, decide_eq_true_eq] at ht; rw [ht]; rfl
            have Z := Nm.hide hbel
            clear HRES hx ht huc hxc z1 hbel
            go_wp2
            go_ret
            exact ⟨rfl, Z.out⟩
          | false =>
            have ht' : ((x.ty : Int) == 250) = false := by simp only [vTs, decide_eq_false_iff_not] at ht; rw [beq_eq_false_iff_ne]; omega
            have HA2 : Hid ((m.au.take (k + 1)).any vTs = false) := by show _ = _; rw [any_step hx, HA.out, ht]; rfl
            have Z := Nm.hide (And.intro z1 hbel)
            clear HA HRES hx ht huc hxc z1 hbel
            go_wp2
            go_roundw
            case rel => exact ⟨k + 1, by omega, by go_num, HA2, Z.out.1, Z.out.2⟩
            case measure => simp [intOf]; omega
        · have hkl : k = m.au.length := by omega
          subst hkl
          have HU1 : Hid (m.au.any vTs = false) := by have := HA.out; rw [List.take_length] at this; exact this
          have i2' : ¬ (m.au.length : Int) < (m.au.length : Int) := by omega
          have Z := Nm.hide (And.intro z1 hbel)
          clear HA huc z1 hbel
          go_wp2_with fail
          go_loopw [5] (fun i wr => ∃ k : Nat, k ≤ m.ex.length - 1 ∧ i = .int .i64 k ∧ Hid ((m.ex.take k).any vTs = false) ∧ Blk wr w.heap.size #[.int .i64 i0, .bool t15, .int .i64 i2, .bool t10, .bool t9, .bool t8, .bool t7, .bool t6, .bool t5, .bool t4, .int .i64 i10, .slice qa m.qs.length qc, .slice aa m.an.length ac, .slice ua m.au.length uc, .slice xa m.ex.length xc] 46 ∧ Below w.heap.size w wr) (fun i _ => m.ex.length - (intOf i).toNat)
          case atStart => exact ⟨0, Nat.zero_le _, rfl, by show _ = _; simp, Z.out.1, Z.out.2⟩
          case round =>
            obtain ⟨k, hk, rfl, HA, z1, hbel⟩ := hrel
            clear Z rr
            have rr := fun i => blk_cell z1 i
            by_cases hlt : k < m.ex.length - 1
            · obtain ⟨x, hx⟩ : ∃ x, (m.ex)[k]? = some x := ⟨_, List.getElem?_eq_getElem (by omega)⟩
              obtain ⟨b, off, rfl, hcell⟩ := hxc (by omega)
              have at1 := rrCs_at m.ex k 1 x hx (by decide)
              have c1 : wr.cell? ⟨b, off + k * 5 + 1, none⟩ = some (.int .i64 (x.ty : Int)) := (hbel.cell (World.block_lt_of_cell? w _ (hcell _ _ at1))).trans (hcell _ _ at1)
              have i1 : (0 : Int) ≤ (k : Int) := by omega
              clear hcell at1
              have i2' : (k : Int) < (m.ex.length : Int) := by omega
              have i3' : (k : Int) < (m.ex.length : Int) - 1 := by omega
              cases ht : vTs x with
              | true =>
                obtain rfl : RES = true := by
                  rw [HRES.out, strayB, HA1.out, HU1.out]
                  have : m.ex.dropLast[k]? = some x := by rw [List.dropLast_eq_take, List.getElem?_take_of_lt hlt]; exact hx
                  rw [any_at this ht]; rfl
                have ht' : ((x.ty : Int) == 250) = true := by simp only [vTs, decide_eq_true_eq] at ht; rw [ht]; rfl
                have Z := Nm.hide hbel
                clear HRES hx ht hxc z1 hbel
                go_wp2
                go_ret
                exact ⟨rfl, Z.out⟩
              | false =>
                have ht' : ((x.ty : Int) == 250) = false := by simp only [vTs, decide_eq_false_iff_not] at ht; rw [beq_eq_false_iff_ne]; omega
                have HA2 : Hid ((m.ex.take (k + 1)).any vTs = false) := by show _ = _; rw [any_step hx, HA.out, ht]; rfl
                have Z := Nm.hide (And.intro z1 hbel)
                clear HA HRES hx ht hxc z1 hbel
                go_wp2
                go_roundw
                case rel => exact ⟨k + 1, by omega, by go_num, HA2, Z.out.1, Z.out.2⟩
                case measure => simp [intOf]; omega
            · have hkl : k = m.ex.length - 1 := by omega
              have HX1 : m.ex.dropLast.any vTs = false := by rw [List.dropLast_eq_take, ← hkl]; exact HA.out
              obtain rfl : RES = false := by rw [HRES.out, strayB, HA1.out, HU1.out, HX1]; rfl
              have i2' : ¬ (k : Int) < (m.ex.length : Int) - 1 := by omega
              have Z := Nm.hide hbel
              clear HA hxc z1 hbel HX1 HRES hkl
              go_wp2
              go_ret
              exact ⟨rfl, Z.out⟩
end Go.Proofs.YtfficbpalibmoaaGreatDoor
/- (*reader).records by its contract. -/
namespace Go.Proofs.YtfficbpalibmoaaGreatDoor
open Go.RowKit
set_option linter.unusedVariables false

theorem dtP_next (l : List UInt8) (fin : Nat) : ∀ (ps : List (Option Nat)) (p : Nat) (acc d : List UInt8) (q : Nat), dtP l fin ps p acc = .ok d q → q = fin := by
  intro ps
  induction ps with
  | nil => intro p acc d q h; rw [dtP] at h; split at h <;> simp at h; exact h.2.symm
  | cons x ps ih =>
    intro p acc d q h
    cases x with
    | none =>
      rw [dtP] at h
      split at h
      · simp at h
      · split at h
        · exact ih _ _ _ _ h
        · simp at h
    | some n =>
      rw [dtP] at h
      split at h
      · exact ih _ _ _ _ h
      · simp at h

theorem dataS_next {l : List UInt8} {t p fin q : Nat} {d : List UInt8} (h : dataS l t p fin = .ok d q) : q = fin := by
  rw [dataS] at h
  split at h
  · simp at h; exact h.2.symm
  · split at h
    · exact dtP_next _ _ _ _ _ _ _ h
    · split at h <;> simp at h; exact h.2.symm

theorem rrS_bad {l : List UInt8} {p : Nat} {c : Int} (h : dnF l p p [] none = .bad c) : rrS l p = .bad c := by rw [rrS, h]
theorem rrS_short {l : List UInt8} {p nx : Nat} {s : List UInt8} (h : dnF l p p [] none = .ok s nx) (h4 : l.length < nx + 8) : rrS l p = .bad 8 := by rw [rrS, h]; simp only; rw [if_neg (by omega)]
theorem rrS_dat {l : List UInt8} {p nx : Nat} {s : List UInt8} {c : Int} (h : dnF l p p [] none = .ok s nx) (hd : dtaS l (n16 l nx) (nx + 8) = .bad c) : rrS l p = .bad c := by
  rw [dtaS] at hd
  rw [rrS, h]
  simp only
  have e : nx + 8 + 2 = nx + 10 := by omega
  rw [e] at hd
  by_cases h1 : nx + 10 ≤ l.length
  · rw [if_pos h1] at hd ⊢
    by_cases h2 : nx + 10 + n16 l (nx + 8) ≤ l.length
    · rw [if_pos h2] at hd ⊢
      rw [hd]
    · rw [if_neg h2] at hd ⊢
      cases hd; rfl
  · rw [if_neg h1] at hd ⊢
    cases hd; rfl
theorem rrS_ok {l : List UInt8} {p nx q : Nat} {s d : List UInt8} (h : dnF l p p [] none = .ok s nx) (hd : dtaS l (n16 l nx) (nx + 8) = .ok d q) : rrS l p = .ok ⟨s, n16 l nx, n16 l (nx + 2), n32 l (nx + 4), d⟩ q := by
  rw [dtaS] at hd
  rw [rrS, h]
  simp only
  have e : nx + 8 + 2 = nx + 10 := by omega
  rw [e] at hd
  by_cases h1 : nx + 10 ≤ l.length
  · rw [if_pos h1] at hd ⊢
    by_cases h2 : nx + 10 + n16 l (nx + 8) ≤ l.length
    · rw [if_pos h2] at hd ⊢
      rw [hd, dataS_next hd]
    · rw [if_neg h2] at hd
      cases hd
  · rw [if_neg h1] at hd
    cases hd

theorem ESt.store {w W : World} {g n pos e s m b i : Nat} {V vo v : Value} {cs : List Value} (h : ESt w W g V n e s vo m cs pos) (hb : w.heap.size ≤ b) (hbg : g ≠ b) (hrow : ∀ k, vo.ownBlock = some k → k ≠ b) : ESt w (W.setCell ⟨b, i, none⟩ v) g V n e s vo m cs pos := by
  have hg : W.grownBy (W.setCell ⟨b, i, none⟩ v) (some b) := ⟨rfl, rfl, rfl, by simp, fun k _ hk => heap_setCell_other W ⟨b, i, none⟩ k _ (fun e => hk (by simp [e]))⟩
  refine ⟨h.own.kept hg ?_, blk_far (rd_blk h.rd) hbg, h.le, hgr_set h.grown hb, h.ne⟩
  cases hv : vo.ownBlock with
  | none => exact .inl rfl
  | some k => exact .inr (by simpa using hrow k hv)

theorem cell_newS (w : World) (b i : Nat) (v : Value) (vs : List Value) (e : Nat) : ∀ (j : Nat) (u : Value), vs[j]? = some u → ((w.setCell ⟨b, i, none⟩ v).alloc (.cells vs.toArray e)).cell? ((⟨w.heap.size, 0, none⟩ : Addr).add j) = some u := by
  have h := cell_newL (w.setCell ⟨b, i, none⟩ v) vs e
  have e2 : (w.setCell ⟨b, i, none⟩ v).heap.size = w.heap.size := by simp
  rw [e2] at h
  exact h

set_option maxRecDepth 100000 in
set_option maxHeartbeats 3200000 in
theorem records_any (g : Nat) (a : Option Addr) (l : List UInt8) (cap p count : Nat) (w : World) (h : Rd w g (.slice a l.length cap) p) (hfar : ∀ w', w.grownBy w' (some g) → BySl w' (.slice a l.length cap) l) (hp : p ≤ l.length) (hnn : l.length ≤ 1048576) (hcnt : count ≤ 65535) :
    Calls Tryz.prog 69 #[.pointer (some ⟨g, 0, none⟩), .int .i64 count] w fun e w' =>
      (∃ xs q v, manyS (rrS l) count p [] = .ok xs q ∧ e = .returned v ∧ ESt w w' g (.slice a l.length cap) l.length 54 5 v xs.length (rrCs xs) q) ∨
      (∃ c, manyS (rrS l) count p [] = .bad c ∧ e = .panicked (fault c) ∧ w.grownBy w' (some g)) := by
  obtain ⟨i0, hi, hz0, hz1, hz2⟩ := info_parts Tryz.infoRR
  have hglt := rd_lt h
  generalize hR : manyS (rrS l) count p [] = R
  go_enter Tryz.func69, Tryz.ntmps69
  go_wp2
  go_loopw [5, 8] (fun vo vk wr => ∃ (k pos : Nat) (xs : List Rm) (q : Value), q = vo ∧ vk = .int .i64 k ∧ k ≤ count ∧ xs.length = k ∧ ESt w wr g (.slice a l.length cap) l.length 54 5 vo k (rrCs xs) pos ∧ manyS (rrS l) (count - k) pos xs = R)
    (fun _ vk _ => count - (intOf vk).toNat)
  case atStart => exact ⟨0, p, [], _, rfl, rfl, Nat.zero_le _, rfl, ⟨⟨rfl, .inl ⟨rfl, rfl⟩⟩, h, hp, World.grownBy.refl _ _, by decide⟩, hR⟩
  case round =>
    obtain ⟨k, pos, xs, vo, rfl, rfl, hk, hxl, hst, hres⟩ := hrel
    clear hR h
    by_cases hlt : k < count
    · have hlt' : (k : Int) < (count : Int) := by omega
      have hck : count - k = (count - (k + 1)) + 1 := by omega
      rw [hck, manyS] at hres
      have hnm := name_any g a l cap pos wr hst.rd (hfar _ hst.grown) (fun W hW => hfar W (gr_step hst.grown hW)) hst.le hnn
      have hnum := fun (q sz : Nat) (hsz : sz ≤ 6) W (hs : ESt w W g (.slice a l.length cap) l.length 54 5 vo k (rrCs xs) q) => number_any g a l cap q sz W hs.rd (hfar _ hs.grown) (fun W2 hW2 => hfar W2 (gr_step hs.grown hW2)) hs.le hnn hsz
      have hdt := fun (q t : Nat) W (hs : ESt w W g (.slice a l.length cap) l.length 54 5 vo k (rrCs xs) q) => data_any g a l cap q t W hs.rd (fun W2 hW2 => hfar W2 (gr_step hs.grown hW2)) hs.le hnn
      have HRD : Hid (∀ W W2 q q2, ESt w W g (.slice a l.length cap) l.length 54 5 vo k (rrCs xs) q → W.grownBy W2 (some g) → Rd W2 g (.slice a l.length cap) q2 → q2 ≤ l.length → ESt w W2 g (.slice a l.length cap) l.length 54 5 vo k (rrCs xs) q2) := by exact fun W W2 q q2 hs hW hr hle => hs.read hW hr hle
      cases hd : dnF l pos pos [] none using Rs.elim with
      | bad c =>
        rw [rrS_bad hd] at hres
        simp only at hres
        subst hres
        have hnm' := hnm.mono (R' := fun e w' => e = .panicked (fault c) ∧ wr.grownBy w' (some g)) (by
          rintro e w2 (⟨_, _, hx, _⟩ | ⟨c2, hx, he, hg2⟩)
          · rw [hd] at hx; cases hx
          · rw [hd] at hx; cases hx; exact ⟨he, hg2⟩)
        have HG : Hid (∀ W, wr.grownBy W (some g) → w.grownBy W (some g)) := by exact fun W hW => gr_step hst.grown hW
        clear hnm hst hfar hnum HRD hdt
        go_wp2_with (go_at_call 84; refine hnm'.mono ?_; rintro e w6 ⟨rfl, hg6⟩)
        refine bp_panic rfl ?_
        exact .inr ⟨_, rfl, rfl, HG.out _ hg6⟩
      | ok s nx =>
        have hnm' := hnm.mono (R' := fun e w' => e = .returned (.string ⟨s.toArray⟩) ∧ Rd w' g (.slice a l.length cap) nx ∧ nx ≤ l.length ∧ wr.grownBy w' (some g)) (by
          rintro e w2 (⟨_, _, hx, he, hr, hn, hg2⟩ | ⟨c2, hx, he, hg2⟩)
          · rw [hd] at hx; cases hx; exact ⟨he, hr, hn, hg2⟩
          · rw [hd] at hx; cases hx)
        by_cases h8 : nx + 8 ≤ l.length
        · have hn1 := fun W hs => (hnum nx 2 (by decide) W hs).mono (R' := fun e w' => e = .returned (.int .i64 ((n16 l nx : Nat) : Int)) ∧ Rd w' g (.slice a l.length cap) (nx + 2) ∧ W.grownBy w' (some g)) (by
            rintro e w' (⟨_, h1, h2, h3⟩ | ⟨h1, _⟩)
            · exact ⟨h1, h2, h3⟩
            · omega)
          have hn2 := fun W hs => (hnum (nx + 2) 2 (by decide) W hs).mono (R' := fun e w' => e = .returned (.int .i64 ((n16 l (nx + 2) : Nat) : Int)) ∧ Rd w' g (.slice a l.length cap) (nx + 4) ∧ W.grownBy w' (some g)) (by
            rintro e w' (⟨_, h1, h2, h3⟩ | ⟨h1, _⟩)
            · exact ⟨h1, h2, h3⟩
            · omega)
          have hn3 := fun W hs => (hnum (nx + 4) 4 (by decide) W hs).mono (R' := fun e w' => e = .returned (.int .i64 ((n32 l (nx + 4) : Nat) : Int)) ∧ Rd w' g (.slice a l.length cap) (nx + 8) ∧ W.grownBy w' (some g)) (by
            rintro e w' (⟨_, h1, h2, h3⟩ | ⟨h1, _⟩)
            · exact ⟨h1, h2, h3⟩
            · omega)
          have hdt8 := fun W hs => hdt (nx + 8) (n16 l nx) W hs
          have HST := Nm.hide hst
          have HDB := Nm.hide (fun c => rrS_dat (c := c) hd)
          have HDO := Nm.hide (fun d q => rrS_ok (d := d) (q := q) hd)
          clear hnm hst hfar hnum hdt
          generalize n16 l nx = ty at *
          generalize n16 l (nx + 2) = cl at *
          generalize n32 l (nx + 4) = tl at *
          go_wp2_with (first | (go_at_call 84; refine hnm'.mono ?_; rintro e w6 ⟨rfl, hr6, hn6, hg6⟩; have hst6 := HRD.out _ _ _ _ HST.out hg6 hr6 hn6) | (go_at_call 83; refine (hn1 _ hst6).mono ?_; rintro e w7 ⟨rfl, hr7, hg7⟩; have hst7 := HRD.out _ _ _ _ hst6 hg7 hr7 (by omega); clear hn1) | (go_at_call 83; refine (hn2 _ hst7).mono ?_; rintro e w8 ⟨rfl, hr8, hg8⟩; have hst8 := HRD.out _ _ _ _ hst7 hg8 hr8 (by omega); clear hn2) | (go_at_call 83; refine (hn3 _ hst8).mono ?_; rintro e w9 ⟨rfl, hr9, hg9⟩; have hst9 := HRD.out _ _ _ _ hst8 hg9 hr9 h8; clear hn3))
          have hst10 := hst9.alloc (.cells #[.string ⟨s.toArray⟩, .int .i64 (ty : Int), .int .i64 (cl : Int), .int .i64 (tl : Int), .string ByteArray.empty] 54)
          have hB := blk_new w9 #[.string ⟨s.toArray⟩, .int .i64 (ty : Int), .int .i64 (cl : Int), .int .i64 (tl : Int), .string ByteArray.empty] 54
          have hrow : ∀ q, vo.ownBlock = some q → q < w9.heap.size := fun q hq => (hst9.own.lt q hq).2
          have hwl := hst9.grown.size
          clear hst6 hst7 hst8 hst9 hr6 hg6 hr7 hg7 hr8 hg8 hr9 hg9
          refine (hdt8 _ hst10).mono ?_
          rintro e w11 (⟨d, q, hdd, rfl, hr11, hq, hg11⟩ | ⟨c, hdd, rfl, hg11⟩)
          · rw [HDO.out d q hdd] at hres
            simp only at hres
            have HRES := Nm.hide hres
            have hst11 := HRD.out _ _ _ _ hst10 hg11 hr11 hq
            have hB11 := blk_grown hB hg11 (by simp; omega)
            have hst12 := hst11.store (b := w9.heap.size) (i := 4) (v := .string ⟨d.toArray⟩) hwl (by omega) (fun q hq => by have := hrow q hq; omega)
            have hB12 := blk_set hB11 4 (.string ⟨d.toArray⟩)
            have c4 := blk_cell hB11 4
            have f4 := blk_frozen hB11 4
            have r := fun i => blk_cell hB12 i
            have hs12 := hst12.grown.size
            clear hres hst10 hst11 hB hB11 hB12 hr11 hg11 hdd
            go_wp2_with (at_builtin; refine wpList_append_own _ rfl (.tmp 24) (.tmp 26) 44 rfl w.heap.size 54 i0 (.agg #[.string ByteArray.empty, .int .i64 0, .int .i64 0, .int .i64 0, .string ByteArray.empty]) 5 56 Tryz.underlying44 hi hz0 hz1 hz2 rfl (by decide) _ _ _ rfl (hst12.alloc _).own ⟨w11.heap.size, 0, none⟩ 1 1 (rrC ⟨s, ty, cl, tl, d⟩) rfl rfl (cell_newS _ _ _ _ _ _) (by intro u hu; simp [rrC] at hu; rcases hu with rfl | rfl | rfl | rfl | rfl <;> rfl) (by unfold maxLen; omega) (by omega) (by simp at hs12 ⊢; omega) ?_; intro va wa hown13 hgrow13 hnl13; clear hnl13; rw [← rrCs_snoc] at hown13; have HST13 := Nm.hide ((hst12.alloc _).app hgrow13 hown13); clear hgrow13 hown13 hst12)
            go_roundw
            case rel => exact ⟨k + 1, q, xs ++ [⟨s, ty, cl, tl, d⟩], _, rfl, by go_num, by omega, by simp; omega, HST13.out, HRES.out⟩
            case measure => simp [intOf]; omega
          · rw [HDB.out c hdd] at hres
            simp only at hres
            subst hres
            go_wp2
            refine bp_panic rfl ?_
            exact .inr ⟨_, rfl, rfl, gr_step hst10.grown hg11⟩
        · rw [rrS_short hd (by omega)] at hres
          simp only at hres
          subst hres
          have HST := Nm.hide hst
          clear hnm hst hfar hdt
          go_wp2_with (go_at_call 84; refine hnm'.mono ?_; rintro e w6 ⟨rfl, hr6, hn6, hg6⟩; have hst6 := HRD.out _ _ _ _ HST.out hg6 hr6 hn6)
          refine (hnum nx 2 (by decide) _ hst6).mono ?_
          rintro e w7 (⟨hl7, rfl, hr7, hg7⟩ | ⟨_, rfl, hg7⟩)
          rotate_left 1
          · go_wp2
            refine bp_panic rfl ?_
            exact .inr ⟨_, rfl, rfl, gr_step hst6.grown hg7⟩
          have hst7 := HRD.out _ _ _ _ hst6 hg7 hr7 (by omega)
          go_wp2_with fail
          refine (hnum (nx + 2) 2 (by decide) _ hst7).mono ?_
          rintro e w8 (⟨hl8, rfl, hr8, hg8⟩ | ⟨_, rfl, hg8⟩)
          rotate_left 1
          · go_wp2
            refine bp_panic rfl ?_
            exact .inr ⟨_, rfl, rfl, gr_step hst7.grown hg8⟩
          have hst8 := HRD.out _ _ _ _ hst7 hg8 hr8 (by omega)
          go_wp2_with fail
          refine (hnum (nx + 2 + 2) 4 (by decide) _ hst8).mono ?_
          rintro e w9 (⟨hl9, _⟩ | ⟨_, rfl, hg9⟩)
          · omega
          go_wp2
          refine bp_panic rfl ?_
          exact .inr ⟨_, rfl, rfl, gr_step hst8.grown hg9⟩
    · have hge : (count : Int) ≤ (k : Int) := by omega
      have hck : count - k = 0 := by omega
      rw [hck, manyS] at hres
      subst hres
      go_wp2
      go_ret
      exact .inl ⟨_, _, _, rfl, rfl, by rw [hxl]; exact hst⟩
end Go.Proofs.YtfficbpalibmoaaGreatDoor
/- impl.findSignature by its contract. -/
namespace Go.Proofs.YtfficbpalibmoaaGreatDoor
open Go.RowKit
set_option linter.unusedVariables false

/-- What findSignature answers. -/
def fsV (m : Mm) : Array Value × Bool × Int := match (allR m).filter vTs with
  | [] => (sg0, false, 0)
  | [r] => (match m.ex.getLast? with
    | some x => if vTs x then (if datB r then (sgR r, true, 0) else (sg0, false, 32)) else (sg0, false, 32)
    | none => (sg0, false, 32))
  | _ => (sg0, false, 32)
theorem fsV_nil {m : Mm} (h : (allR m).filter vTs = []) : fsV m = (sg0, false, 0) := by rw [fsV, h]
theorem fsV_many {m : Mm} (h : 1 < ((allR m).filter vTs).length) : fsV m = (sg0, false, 32) := by
  rw [fsV]
  match hq : (allR m).filter vTs with
  | [] => rw [hq] at h; simp at h
  | [r] => rw [hq] at h; simp at h
  | _ :: _ :: _ => rfl
theorem fsV_none {m : Mm} {r : Rm} (h : (allR m).filter vTs = [r]) (hx : m.ex.getLast? = none) : fsV m = (sg0, false, 32) := by rw [fsV, h]; simp only [hx]
theorem fsV_not {m : Mm} {r x : Rm} (h : (allR m).filter vTs = [r]) (hx : m.ex.getLast? = some x) (ht : vTs x = false) : fsV m = (sg0, false, 32) := by rw [fsV, h]; simp only [hx, ht]; rfl
theorem fsV_one {m : Mm} {r x : Rm} (h : (allR m).filter vTs = [r]) (hx : m.ex.getLast? = some x) (ht : vTs x = true) : fsV m = if datB r then (sgR r, true, 0) else (sg0, false, 32) := by rw [fsV, h]; simp only [hx, ht]; rfl

theorem stray_all {m : Mm} {x : Rm} (hx : m.ex.getLast? = some x) : (allR m).filter vTs = (m.an ++ m.au ++ m.ex.dropLast).filter vTs ++ [x].filter vTs ∧ strayB m = (m.an ++ m.au ++ m.ex.dropLast).any vTs := by
  have e : m.ex = m.ex.dropLast ++ [x] := by
    obtain ⟨ys, hy⟩ := List.getLast?_eq_some_iff.1 hx
    rw [hy, List.dropLast_concat]
  constructor
  · rw [allR]
    conv => lhs; rw [e]
    rw [← List.filter_append, List.append_assoc (m.an ++ m.au)]
  · rw [strayB]; simp [List.any_append]
theorem stray_nil {m : Mm} (hx : m.ex.getLast? = none) : (allR m).filter vTs = (m.an ++ m.au).filter vTs ∧ strayB m = (m.an ++ m.au).any vTs := by
  have e : m.ex = [] := List.getLast?_eq_none_iff.1 hx
  constructor
  · rw [allR, e, List.append_nil]
  · rw [strayB, e]; simp [List.any_append]
theorem any_filter {xs : List Rm} : xs.any vTs = false ↔ xs.filter vTs = [] := by
  rw [List.filter_eq_nil_iff, List.any_eq_false]
theorem fsV_stray {m : Mm} (h : strayB m = true) : fsV m = (sg0, false, 32) := by
  cases hx : m.ex.getLast? with
  | none =>
    obtain ⟨e1, e2⟩ := stray_nil hx
    have hne : (allR m).filter vTs ≠ [] := by
      rw [e1]
      intro h0
      rw [e2, any_filter.2 h0] at h
      cases h
    match hq : (allR m).filter vTs, hne with
    | [r], _ => exact fsV_none hq hx
    | a :: b :: c, _ => exact fsV_many (by rw [hq]; simp)
  | some x =>
    obtain ⟨e1, e2⟩ := stray_all hx
    have hne : (m.an ++ m.au ++ m.ex.dropLast).filter vTs ≠ [] := by
      intro h0
      rw [e2, any_filter.2 h0] at h
      cases h
    cases ht : vTs x with
    | true =>
      apply fsV_many
      rw [e1, List.length_append]
      have h1 := List.length_pos_iff.2 hne
      have h2 : ([x].filter vTs).length = 1 := by simp [ht]
      omega
    | false =>
      have h2 : [x].filter vTs = [] := by simp [ht]
      rw [h2, List.append_nil] at e1
      match hq : (allR m).filter vTs with
      | [] => rw [hq] at e1; exact absurd e1.symm hne
      | [r] => exact fsV_not hq hx ht
      | a :: b :: c => exact fsV_many (by rw [hq]; simp)
theorem fsV_clean {m : Mm} (h : strayB m = false) : fsV m = match m.ex.getLast? with
    | none => (sg0, false, 0)
    | some r => if vTs r then (if datB r then (sgR r, true, 0) else (sg0, false, 32)) else (sg0, false, 0) := by
  cases hx : m.ex.getLast? with
  | none =>
    obtain ⟨e1, e2⟩ := stray_nil hx
    rw [e2] at h
    exact fsV_nil (e1.trans (any_filter.1 h))
  | some x =>
    obtain ⟨e1, e2⟩ := stray_all hx
    rw [e2] at h
    rw [any_filter.1 h, List.nil_append] at e1
    cases ht : vTs x with
    | true =>
      have : [x].filter vTs = [x] := by simp [ht]
      rw [this] at e1
      rw [fsV_one e1 hx ht]
      simp only [ht, if_true]
    | false =>
      have : [x].filter vTs = [] := by simp [ht]
      rw [this] at e1
      rw [fsV_nil e1]
      simp [ht]

theorem own_notblk {w : World} {B e s m : Nat} {v : Value} {xs : List Value} (ho : w.ownsRow B e s v m xs) {c : Nat} {cs : Array Value} {T : TypeId} (hb : Blk w c cs T) (hne : e ≠ T) : v.ownBlock ≠ some c := by
  rcases ho.2 with ⟨rfl, _⟩ | ⟨g', cap', cur, rfl, _, hh, _⟩
  · simp [Value.ownBlock]
  · simp only [Value.ownBlock, ne_eq, Option.some.injEq]
    intro e2
    subst e2
    unfold Blk at hb
    rw [hh] at hb
    simp at hb
    exact hne hb.2
theorem run_results_row3 {P : Program} {fn : Func} {tmps : Array Value} {w : World} {r s s2 : Nat} {t : TypeId} {p : Nat} {cs : Array Value} {d : TypeDesc} {v v2 : Value} (hf : fn.results = #[.cell r t, .tmp s, .tmp s2]) (ht : tmps[r]?.getD undef = .pointer (some ⟨p, 0, none⟩)) (hs : tmps[s]?.getD undef = v) (hs2 : tmps[s2]?.getD undef = v2) (hk : Blk w p cs t)
    (hu : P.underlying t = some d) (hd : (match d with | .struct _ | .array _ _ => true | _ => false) = true) (hi : (P.info? t).map (·.size) = some cs.size) : (results fn tmps).run P w = .ok (.tuple #[.agg cs, v, v2]) w := by
  have hl := run_loadVar_row w p t t cs (0, 0) d hk hu hd hi
  simp [results, hf, ht, hs, hs2, asAddr, hl]

set_option maxRecDepth 100000 in
set_option maxHeartbeats 1600000 in
theorem lists_ms (d f n1 n2 n3 n4 : Nat) (b1 b2 b3 b4 : Option Addr) (c1 c2 c3 c4 : Nat) (w : World) :
    Calls Tryz.prog 51 #[.agg (msA d f (.slice b1 n1 c1) (.slice b2 n2 c2) (.slice b3 n3 c3) (.slice b4 n4 c4))] w fun e w' => e = .returned (.agg #[.slice b2 n2 c2, .slice b3 n3 c3, .slice b4 n4 c4]) ∧ Below w.heap.size w w' := by
  simp only [msA]
  go_enter Tryz.func51, Tryz.ntmps51
  go_wp2
  refine bodyPost_ret (v := .agg #[.slice b2 n2 c2, .slice b3 n3 c3, .slice b4 n4 c4]) ?_ rfl ⟨rfl, ?_⟩
  · simp [results, Tryz.results51, go_sem, Result.andThen]
  · exact ((Below.refl _ _).alloc (Nat.le_refl _) _).alloc (by simp) _
end Go.Proofs.YtfficbpalibmoaaGreatDoor
