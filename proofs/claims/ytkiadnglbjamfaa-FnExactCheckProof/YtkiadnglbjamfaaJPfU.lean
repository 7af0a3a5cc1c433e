import Derived.Test.YtkiadnglbjamfaaJBlkT
import Derived.Test.YtkiadnglbjamfaaJPiece2
import Derived.Test.YtkiadnglbjamfaaJPfM
import Derived.Test.YtkiadnglbjamfaaRows
import Derived.WalkSpells
import Derived.WalkLawsBesides
/- (link).covers, (labelList).strictlyUnder, (link).isOfUse, (link).closest by their contracts. -/
namespace Go.Proofs.Ytkiadnglbjamfaa
open Go.RowKit
set_option linter.unusedVariables false

/-- Labels that are not too many nor too long. -/
def Few (x : List ByteArray) : Prop := (∀ y ∈ x, y.size ≤ 1000000000) ∧ x.length ≤ 1000

set_option maxRecDepth 100000 in
set_option maxHeartbeats 800000 in
theorem covers_any (a b c u : Value) (l : Lk) (x : List ByteArray) (w : World) (h : LkV w a b c l) (hu : Nm.SRow w u x) (hx : Few x) :
    Calls Try.prog 55 #[.agg #[a, b, c], u] w fun e w' => e = .returned (.bool (covB l x)) ∧ Below w.heap.size w w' := by
  have hB0 := (Below.refl w.heap.size w).alloc (Nat.le_refl _) (.cells #[a, b, c] 68)
  have k0 := blk_new w #[a, b, c] 68
  have hso := h.so
  have hsn := h.sn
  have z1 := hso.2
  have z2 := hsn.2
  have z3 := hx.2
  have hc1 := fun W (hW : Below w.heap.size w W) => compare_any a u l.ow x W (h.ro.below hW) (hu.below hW) hso.1 (by omega) (by omega)
  have hc2 := fun W (hW : Below w.heap.size w W) => compare_any u b x l.nx W (hu.below hW) (h.rn.below hW) hx.1 (by omega) (by omega)
  have hc3 := fun W (hW : Below w.heap.size w W) => compare_any b a l.nx l.ow W (h.rn.below hW) (h.ro.below hW) hsn.1 (by omega) (by omega)
  obtain ⟨⟨x1, y1, rfl⟩, ⟨x2, y2, rfl⟩, ⟨x3, y3, rfl⟩⟩ := lk_form h
  obtain ⟨xu, yu, rfl, _⟩ := hu
  rw [covB]
  clear h hso hsn
  generalize Nm.cmpLs l.ow x = A at *
  generalize Nm.cmpLs x l.nx = B at *
  generalize Nm.cmpLs l.nx l.ow = C at *
  go_enter Try.func55, Try.ntmps55
  by_cases hA : A < 0
  · have hA' : ¬ (0 ≤ A) := by omega
    have HV := Nm.hide (show (decide (A < 0) && (decide (B < 0) || decide (C ≤ 0))) = (decide (B < 0) || decide (C ≤ 0)) by rw [decide_eq_true hA]; rfl)
    go_wp2_with fail
    refine (hc1 _ hB0).mono ?_
    rintro e w1 ⟨rfl, m1, rfl⟩
    have b1 := below_drewN (w.alloc (.cells #[.slice x1 l.ow.length y1, .slice x2 l.nx.length y2, .slice x3 l.ty.length y3] 68)) m1
    have k1 := blk_below k0 b1
    have B1 := Nm.below_two hB0 b1
    generalize (w.alloc (.cells #[.slice x1 l.ow.length y1, .slice x2 l.nx.length y2, .slice x3 l.ty.length y3] 68)).drewN m1 = w1 at *
    have r1 := fun i => blk_cell k1 i
    clear hc1 k0 hB0 b1
    go_wp2_with fail
    refine (hc2 _ B1).mono ?_
    rintro e w2 ⟨rfl, m2, rfl⟩
    have b2 := below_drewN w1 m2
    have k2 := blk_below k1 b2
    have B2 := Nm.below_two B1 b2
    generalize w1.drewN m2 = w2 at *
    have r2 := fun i => blk_cell k2 i
    clear hc2 k1 r1 B1 b2
    by_cases hB : B < 0
    · have HW := Nm.hide (show (decide (B < 0) || decide (C ≤ 0)) = true by rw [decide_eq_true hB]; rfl)
      go_wp2
      go_ret
      rw [HV.out, HW.out]
      exact ⟨rfl, B2⟩
    · have hB' : 0 ≤ B := by omega
      go_wp2_with fail
      refine (hc3 _ B2).mono ?_
      rintro e w3 ⟨rfl, m3, rfl⟩
      go_wp2
      go_ret
      rw [HV.out]
      exact ⟨rfl, Nm.below_two B2 (below_drewN _ _)⟩
  · have hA' : 0 ≤ A := by omega
    have HV := Nm.hide (show (decide (A < 0) && (decide (B < 0) || decide (C ≤ 0))) = false by rw [decide_eq_false hA]; rfl)
    go_wp2_with fail
    refine (hc1 _ hB0).mono ?_
    rintro e w1 ⟨rfl, m1, rfl⟩
    go_wp2
    go_ret
    rw [HV.out]
    exact ⟨rfl, Nm.below_two hB0 (below_drewN _ _)⟩

set_option maxRecDepth 100000 in
set_option maxHeartbeats 800000 in
theorem strictlyUnder_any (v u : Value) (xs ys : List ByteArray) (w : World) (h : Nm.SRow w v xs) (hu : Nm.SRow w u ys) (hx : Few xs) (hy : Few ys) :
    Calls Try.prog 56 #[v, u] w fun e w' => e = .returned (.bool (strB xs ys)) ∧ ∃ m, w' = w.drewN m := by
  have z1 := hx.2
  have z2 := hy.2
  have hun := under_any v u xs ys w h hu hx.1 (by omega) (by omega)
  obtain ⟨x1, y1, rfl, _⟩ := h
  obtain ⟨x2, y2, rfl, _⟩ := hu
  rw [strB]
  generalize underB xs ys = U at *
  go_enter Try.func56, Try.ntmps56
  by_cases hl : ys.length < xs.length
  · have hl' : (ys.length : Int) < (xs.length : Int) := by omega
    have HV := Nm.hide (show (decide (ys.length < xs.length) && U) = U by rw [decide_eq_true hl]; rfl)
    go_wp2_with fail
    refine hun.mono ?_
    rintro e w1 ⟨rfl, m, rfl⟩
    go_wp2
    go_ret
    rw [HV.out]
    exact ⟨rfl, m, rfl⟩
  · have hl' : ¬ ((ys.length : Int) < (xs.length : Int)) := by omega
    have HV := Nm.hide (show (decide (ys.length < xs.length) && U) = false by rw [decide_eq_false hl]; rfl)
    go_wp2
    go_ret
    try rw [HV.out]
    exact ⟨rfl, 0, rfl⟩
end Go.Proofs.Ytkiadnglbjamfaa
/- impl.isDigit, isLetter, isTag by their contracts. -/
namespace Go.Proofs.Ytkiadnglbjamfaa
open Go.RowKit

def digD (c : UInt8) : Bool := decide (48 ≤ c.toNat) && decide (c.toNat ≤ 57)
def letD (c : UInt8) : Bool := decide (97 ≤ (Nm.low c).toNat) && decide ((Nm.low c).toNat ≤ 122)

theorem alnum_or (c : UInt8) : Dt.alnumB c = (digD c || letD c) := by
  unfold Dt.alnumB digD letD Nm.low
  have hc := c.toNat_lt
  by_cases h : 65 ≤ c.toNat ∧ c.toNat ≤ 90
  · rw [if_pos h]
    have e : (UInt8.ofNat (c.toNat + 32)).toNat = c.toNat + 32 := by simp; omega
    rw [e, Bool.eq_iff_iff]
    simp
    omega
  · rw [if_neg h, Bool.eq_iff_iff]
    simp
    omega

set_option maxRecDepth 100000 in
set_option maxHeartbeats 400000 in
theorem isDigitD_any (c : UInt8) (w : World) :
    Calls Try.prog 95 #[.int .u8 c.toNat] w fun e w' => e = .returned (.bool (digD c)) ∧ w' = w := by
  by_cases h1 : 48 ≤ c.toNat
  · have d1 : decide ((48 : Int) ≤ (c.toNat : Int)) = true := by simp; omega
    have HE : Hid (digD c = decide ((c.toNat : Int) ≤ 57)) := by
      show _ = _
      rw [digD, decide_eq_true h1, Bool.true_and, Bool.eq_iff_iff]
      simp; omega
    go_enter Try.func95, Try.ntmps95
    go_wp2
    go_ret
    rw [HE.out]
    exact ⟨rfl, rfl⟩
  · have d1 : decide ((48 : Int) ≤ (c.toNat : Int)) = false := by simp; omega
    have HE : Hid (digD c = false) := by
      show _ = _
      rw [digD, decide_eq_false h1]; rfl
    go_enter Try.func95, Try.ntmps95
    go_wp2
    go_ret
    rw [HE.out]
    exact ⟨rfl, rfl⟩

set_option maxRecDepth 100000 in
set_option maxHeartbeats 400000 in
theorem isLetter_any (c : UInt8) (w : World) :
    Calls Try.prog 96 #[.int .u8 c.toNat] w fun e w' => e = .returned (.bool (letD c)) ∧ w' = w := by
  have hcall := foldByte_any c
  by_cases h1 : 97 ≤ (Nm.low c).toNat
  · have HE : Hid (letD c = decide (((Nm.low c).toNat : Int) ≤ 122)) := by
      show _ = _
      rw [letD, decide_eq_true h1, Bool.true_and, Bool.eq_iff_iff]
      simp; omega
    have d1 : decide ((97 : Int) ≤ ((Nm.low c).toNat : Int)) = true := by simp; omega
    go_enter Try.func96, Try.ntmps96
    go_wp2_with (go_at_call 61; refine (hcall _).mono ?_; rintro e w1 ⟨rfl, rfl⟩)
    go_ret
    rw [HE.out]
    exact ⟨rfl, rfl⟩
  · have d1 : decide ((97 : Int) ≤ ((Nm.low c).toNat : Int)) = false := by simp; omega
    have HE : Hid (letD c = false) := by
      show _ = _
      rw [letD, decide_eq_false h1]; rfl
    go_enter Try.func96, Try.ntmps96
    go_wp2_with (go_at_call 61; refine (hcall _).mono ?_; rintro e w1 ⟨rfl, rfl⟩)
    go_ret
    rw [HE.out]
    exact ⟨rfl, rfl⟩

def tagT (t : ByteArray) : Bool := t.data.toList.all Dt.alnumB && (decide (0 < t.size) && decide (t.size ≤ 15))

theorem tagT_bad {t : ByteArray} {j : Nat} (hj : j < t.size) (h : Dt.alnumB t[j] = false) : tagT t = false := by
  rw [tagT, Bool.and_eq_false_iff]
  left
  rw [List.all_eq_false]
  exact ⟨t[j], List.mem_of_getElem? (Nm.get_data hj), by simp [h]⟩
theorem tagT_good {t : ByteArray} (h : ∀ j, (hj : j < t.size) → Dt.alnumB t[j] = true) : tagT t = (decide (0 < t.size) && decide (t.size ≤ 15)) := by
  rw [tagT]
  have : t.data.toList.all Dt.alnumB = true := by
    rw [List.all_eq_true]
    intro c hc
    obtain ⟨i, hi⟩ := List.getElem?_of_mem hc
    have hl : i < t.size := by
      have := (List.getElem?_eq_some_iff.1 hi).1
      simpa using this
    rw [Nm.get_data hl] at hi
    simp at hi
    rw [← hi]
    exact h _ hl
  rw [this, Bool.true_and]

set_option maxRecDepth 100000 in
set_option maxHeartbeats 800000 in
theorem isTag_any (t : ByteArray) (w : World) (ht : t.size ≤ 1000000000) :
    Calls Try.prog 94 #[.string t] w fun e w' => e = .returned (.bool (tagT t)) ∧ w' = w := by
  go_enter Try.func94, Try.ntmps94
  go_wp2
  go_loop [6] (fun v => ∃ j : Nat, j ≤ t.size ∧ v = .int .i64 j ∧ ∀ i, i < j → (hi : i < t.size) → Dt.alnumB t[i] = true) (fun v => t.size - (intOf v).toNat)
  case atStart => exact ⟨0, by omega, rfl, fun i h => by omega⟩
  case round =>
    obtain ⟨j, hj, rfl, ha⟩ := hrel
    by_cases hlt : j < t.size
    · have hlt' : (j : Int) < (t.size : Int) := by omega
      have hd := isDigitD_any t[j]
      have hl := isLetter_any t[j]
      have hor := alnum_or t[j]
      cases hA : digD t[j] with
      | true =>
        have HJ : Hid (∀ i, i < j + 1 → (hi : i < t.size) → Dt.alnumB t[i] = true) := by
          show ∀ i, _
          intro i h2 h3
          by_cases e : i = j
          · subst e; rw [hor, hA]; rfl
          · exact ha i (by omega) h3
        rw [hA] at hd
        clear ha hor hA
        go_wp2_with (first | (go_at_call 95; refine (hd _).mono ?_; rintro e w2 ⟨rfl, hw⟩; obtain rfl : w = w2 := hw.symm; clear hw) | (go_at_call 96; refine (hl _).mono ?_; rintro e w2 ⟨rfl, hw⟩; obtain rfl : w = w2 := hw.symm; clear hw))
        go_round
        case rel => exact ⟨j + 1, by omega, by go_num, HJ.out⟩
        case measure => simp [intOf]; omega
      | false =>
        rw [hA] at hd
        cases hB : letD t[j] with
        | true =>
          have HJ : Hid (∀ i, i < j + 1 → (hi : i < t.size) → Dt.alnumB t[i] = true) := by
            show ∀ i, _
            intro i h2 h3
            by_cases e : i = j
            · subst e; rw [hor, hB]; simp
            · exact ha i (by omega) h3
          rw [hB] at hl
          clear ha hor hA hB
          go_wp2_with (first | (go_at_call 95; refine (hd _).mono ?_; rintro e w2 ⟨rfl, hw⟩; obtain rfl : w = w2 := hw.symm; clear hw) | (go_at_call 96; refine (hl _).mono ?_; rintro e w2 ⟨rfl, hw⟩; obtain rfl : w = w2 := hw.symm; clear hw))
          go_round
          case rel => exact ⟨j + 1, by omega, by go_num, HJ.out⟩
          case measure => simp [intOf]; omega
        | false =>
          have HT := Nm.hide (tagT_bad hlt (by rw [hor, hA, hB]; rfl))
          rw [hB] at hl
          clear ha hor hA hB
          go_wp2_with (first | (go_at_call 95; refine (hd _).mono ?_; rintro e w2 ⟨rfl, hw⟩; obtain rfl : w = w2 := hw.symm; clear hw) | (go_at_call 96; refine (hl _).mono ?_; rintro e w2 ⟨rfl, hw⟩; obtain rfl : w = w2 := hw.symm; clear hw))
          go_ret
          rw [HT.out]
          exact ⟨rfl, rfl⟩
    · have hlt' : (t.size : Int) ≤ (j : Int) := by omega
      have HT := Nm.hide (tagT_good (fun i h => ha i (by omega) h))
      clear ha
      by_cases h0 : 0 < t.size
      · have h0' : (0 : Int) < (t.size : Int) := by omega
        have HU : Hid (tagT t = decide ((t.size : Int) ≤ 15)) := by
          show _ = _
          rw [HT.out, decide_eq_true h0, Bool.true_and, Bool.eq_iff_iff]
          simp; omega
        clear HT
        go_wp2
        go_ret
        rw [HU.out]
        exact ⟨rfl, rfl⟩
      · have h0' : (t.size : Int) ≤ 0 := by omega
        have HU : Hid (tagT t = false) := by
          show _ = _
          rw [HT.out, decide_eq_false h0, Bool.false_and]
        clear HT
        go_wp2
        go_ret
        rw [HU.out]
        exact ⟨rfl, rfl⟩

theorem tag_of {d : ByteArray} {n : Nat} (hn : (Dt.txtS d).size = n) (_ : n ≠ 0) : tagT (d.extract 1 n) = Dt.tagB d := by
  have hle := Dt.txt_le d
  have he := Dt.txt_ext d
  rw [hn] at he
  have e1 : (d.extract 1 n).data.toList = (Dt.txtS d).data.toList.drop 1 := by
    rw [← he]
    simp only [ByteArray.data_extract, Array.toList_extract, List.extract_eq_take_drop]
    simp
    rw [← List.drop_one, ← List.drop_one, List.drop_take]
  have e2 : (d.extract 1 n).size = n - 1 := by simp; omega
  rw [tagT, Dt.tagB, e1, e2, hn, Bool.eq_iff_iff]
  simp
  constructor
  · rintro ⟨h1, h2, h3⟩; exact ⟨⟨by omega, by omega⟩, h1⟩
  · rintro ⟨⟨h1, h2⟩, h3⟩; exact ⟨h3, by omega, by omega⟩
end Go.Proofs.Ytkiadnglbjamfaa
