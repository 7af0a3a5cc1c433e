import Derived.Test.YtkiadnglbjamfaaPfC
import Derived.Test.YtkiadnglbjamfaaPfN
/- spec.l08Matching, l08Covering by their contracts. -/
namespace Go.Proofs.Ytkiadnglbjamfaa
open Go.RowKit
set_option linter.unusedVariables false

set_option maxRecDepth 100000 in
set_option maxHeartbeats 1600000 in
theorem l08Covering_any (v : Value) (rs : List Rr) (ls : List Lk) (s : ByteArray) (x : List ByteArray) (w : World) (h : CRow w v rs.length 7 (nsCs rs)) (hall : LkAll rs ls) (hlen : rs.length ≤ 20) (hx : Nm.split s = some x) (zs : s.size ≤ maxLen) :
    Calls Try.prog 15 #[v, .string s] w fun e w' => Below w.heap.size w w' ∧ ((e = .returned (.int .i64 (-1)) ∧ pickB ls x covB = none) ∨ ∃ (k : Nat) (r : Rr) (l : Lk), e = .returned (.int .i64 k) ∧ rs[k]? = some r ∧ ls[k]? = some l ∧ pickB ls x covB = some l) := by
  obtain ⟨_, a, cap, rfl, hcap, hmx, hc⟩ := h
  have HLL := Nm.hide hall.1
  go_enter Try.func15, Try.ntmps15
  go_wp2
  go_loopw [5] (fun i wr => ∃ k : Nat, k ≤ rs.length ∧ i = .int .i64 k ∧ (∀ j, j < k → ∀ y, ls[j]? = some y → (useB y x && covB y x) = false) ∧ Below w.heap.size w wr) (fun i _ => rs.length - (intOf i).toNat)
  case atStart => exact ⟨0, Nat.zero_le _, rfl, fun j hj => by omega, Below.refl _ _⟩
  case round =>
    obtain ⟨k, hk, rfl, hno, hbel⟩ := hrel
    have HN := Nm.hide hno
    clear hno
    by_cases hlt : k < rs.length
    · obtain ⟨r, hr⟩ : ∃ r, rs[k]? = some r := ⟨_, List.getElem?_eq_getElem (by omega)⟩
      obtain ⟨l, hl⟩ : ∃ l, ls[k]? = some l := ⟨_, List.getElem?_eq_getElem (by have := HLL.out; omega)⟩
      have R := hall.2 k r l hr hl
      have at0 := nsCs_at rs k 0 r hr (by decide)
      have at1 := nsCs_at rs k 1 r hr (by decide)
      have at2 := nsCs_at rs k 2 r hr (by decide)
      have at3 := nsCs_at rs k 3 r hr (by decide)
      have at4 := nsCs_at rs k 4 r hr (by decide)
      have at5 := nsCs_at rs k 5 r hr (by decide)
      have at6 := nsCs_at rs k 6 r hr (by decide)
      obtain ⟨b, off, rfl, hcell⟩ := hc (by omega)
      have KK := Nm.hide (show ∀ W, Below w.heap.size w W → W.cell? ⟨b, off + k * 7, none⟩ = some (.string r.own) ∧ W.cell? ⟨b, off + k * 7 + 1, none⟩ = some (.int .i64 r.ty) ∧ W.cell? ⟨b, off + k * 7 + 2, none⟩ = some (.int .i64 r.cl) ∧ W.cell? ⟨b, off + k * 7 + 3, none⟩ = some (.int .i64 r.tt) ∧ W.cell? ⟨b, off + k * 7 + 4, none⟩ = some (.string r.da) ∧ W.cell? ⟨b, off + k * 7 + 5, none⟩ = some (.string (Dt.nameAtS r.da)) ∧ W.cell? ⟨b, off + k * 7 + 6, none⟩ = some (.string (bitsOf r.da)) by
        intro W hW
        have put : ∀ {B O : Nat} {z : Value}, w.cell? ⟨B, O, none⟩ = some z → W.cell? ⟨B, O, none⟩ = some z := fun h => (hW.cell (World.block_lt_of_cell? w _ h)).trans h
        exact ⟨put (hcell _ _ at0), put (hcell _ _ at1), put (hcell _ _ at2), put (hcell _ _ at3), put (hcell _ _ at4), put (hcell _ _ at5), put (hcell _ _ at6)⟩)
      have hus := fun W => l08Useful_any r.own r.da (Dt.nameAtS r.da) (bitsOf r.da) s r.ty r.cl r.tt l x W R.so R.st hx R.zo R.zb zs
      have HL := Nm.hide hl
      have i1 : (0 : Int) ≤ (k : Int) := by omega
      have i2 : (k : Int) < (rs.length : Int) := by omega
      obtain ⟨c0, c1, c2, c3, c4, c5, c6⟩ := KK.out _ hbel
      have hcv := fun W => l08Covers_any r.own r.da (Dt.nameAtS r.da) (bitsOf r.da) s r.ty r.cl r.tt l x W R.so R.sn hx R.zo R.zn zs
      have HR := Nm.hide hr
      clear hc hcell at0 at1 at2 at3 at4 at5 at6 hr hl R
      generalize Dt.nameAtS r.da = nn at *
      generalize bitsOf r.da = bb at *
      have HD : ∀ B1 B2, useB l x = B1 → covB l x = B2 → useB l x = B1 ∧ covB l x = B2 := fun _ _ a b => ⟨a, b⟩
      cases hU : useB l x with
      | false =>
        rw [hU] at hus
        have HP := Nm.hide (show (useB l x && covB l x) = false by rw [hU]; rfl)
        clear hU hcv HD
        go_wp2_with fail
        refine (hus _).mono ?_
        rintro e wn ⟨rfl, bn⟩
        replace hbel := Nm.below_two hbel bn
        obtain ⟨c0, c1, c2, c3, c4, c5, c6⟩ := KK.out _ hbel
        clear bn
        go_wp2
        go_roundw
        case rel => exact ⟨k + 1, by omega, by go_num, no_more (p := fun y => useB y x && covB y x) HN.out HL.out HP.out, hbel⟩
        case measure => simp [intOf]; omega
      | true =>
        cases hC : covB l x with
        | false =>
          rw [hU] at hus
          rw [hC] at hcv
          have HP := Nm.hide (show (useB l x && covB l x) = false by rw [hU, hC]; rfl)
          clear hU hC HD
          go_wp2_with fail
          refine (hus _).mono ?_
          rintro e wn ⟨rfl, bn⟩
          replace hbel := Nm.below_two hbel bn
          obtain ⟨c0, c1, c2, c3, c4, c5, c6⟩ := KK.out _ hbel
          clear bn
          go_wp2_with fail
          refine (hcv _).mono ?_
          rintro e wn ⟨rfl, bn⟩
          replace hbel := Nm.below_two hbel bn
          obtain ⟨c0, c1, c2, c3, c4, c5, c6⟩ := KK.out _ hbel
          clear bn
          go_wp2
          go_roundw
          case rel => exact ⟨k + 1, by omega, by go_num, no_more (p := fun y => useB y x && covB y x) HN.out HL.out HP.out, hbel⟩
          case measure => simp [intOf]; omega
        | true =>
          rw [hU] at hus
          rw [hC] at hcv
          have HP := Nm.hide (show (useB l x && covB l x) = true by rw [hU, hC]; rfl)
          clear hU hC HD
          go_wp2_with fail
          refine (hus _).mono ?_
          rintro e wn ⟨rfl, bn⟩
          replace hbel := Nm.below_two hbel bn
          obtain ⟨c0, c1, c2, c3, c4, c5, c6⟩ := KK.out _ hbel
          clear bn
          go_wp2_with fail
          refine (hcv _).mono ?_
          rintro e wn ⟨rfl, bn⟩
          replace hbel := Nm.below_two hbel bn
          obtain ⟨c0, c1, c2, c3, c4, c5, c6⟩ := KK.out _ hbel
          clear bn
          go_wp2
          go_ret
          exact ⟨hbel, .inr ⟨k, r, l, rfl, HR.out, HL.out, find_at ls k l HN.out HL.out HP.out⟩⟩
    · have hke : k = rs.length := by omega
      subst hke
      have HF := Nm.hide (find_no ls (fun i hi => HN.out i (by have := HLL.out; omega)))
      clear hc HN
      go_wp2
      go_ret
      exact ⟨hbel, .inl ⟨rfl, HF.out⟩⟩

set_option maxRecDepth 100000 in
set_option maxHeartbeats 1600000 in
theorem l08Matching_any (v : Value) (rs : List Rr) (ls : List Lk) (s : ByteArray) (x : List ByteArray) (q : Int) (w : World) (h : CRow w v rs.length 7 (nsCs rs)) (hall : LkAll rs ls) (hlen : rs.length ≤ 20) (hx : Nm.split s = some x) (zs : s.size ≤ maxLen) :
    Calls Try.prog 14 #[v, .string s, .int .i64 q] w fun e w' => Below w.heap.size w w' ∧ e = .returned (.int .i64 (matchC ls x q)) := by
  obtain ⟨_, a, cap, rfl, hcap, hmx, hc⟩ := h
  have HLL := Nm.hide hall.1
  go_enter Try.func14, Try.ntmps14
  go_wp2
  go_loopw [7] (fun i wr => ∃ k : Nat, k ≤ rs.length ∧ i = .int .i64 k ∧ (∀ j, j < k → ∀ y, ls[j]? = some y → (useB y x && atB y x) = false) ∧ Below w.heap.size w wr) (fun i _ => rs.length - (intOf i).toNat)
  case atStart => exact ⟨0, Nat.zero_le _, rfl, fun j hj => by omega, Below.refl _ _⟩
  case round =>
    obtain ⟨k, hk, rfl, hno, hbel⟩ := hrel
    have HN := Nm.hide hno
    clear hno
    by_cases hlt : k < rs.length
    · obtain ⟨r, hr⟩ : ∃ r, rs[k]? = some r := ⟨_, List.getElem?_eq_getElem (by omega)⟩
      obtain ⟨l, hl⟩ : ∃ l, ls[k]? = some l := ⟨_, List.getElem?_eq_getElem (by have := HLL.out; omega)⟩
      have R := hall.2 k r l hr hl
      have at0 := nsCs_at rs k 0 r hr (by decide)
      have at1 := nsCs_at rs k 1 r hr (by decide)
      have at2 := nsCs_at rs k 2 r hr (by decide)
      have at3 := nsCs_at rs k 3 r hr (by decide)
      have at4 := nsCs_at rs k 4 r hr (by decide)
      have at5 := nsCs_at rs k 5 r hr (by decide)
      have at6 := nsCs_at rs k 6 r hr (by decide)
      obtain ⟨b, off, rfl, hcell⟩ := hc (by omega)
      have KK := Nm.hide (show ∀ W, Below w.heap.size w W → W.cell? ⟨b, off + k * 7, none⟩ = some (.string r.own) ∧ W.cell? ⟨b, off + k * 7 + 1, none⟩ = some (.int .i64 r.ty) ∧ W.cell? ⟨b, off + k * 7 + 2, none⟩ = some (.int .i64 r.cl) ∧ W.cell? ⟨b, off + k * 7 + 3, none⟩ = some (.int .i64 r.tt) ∧ W.cell? ⟨b, off + k * 7 + 4, none⟩ = some (.string r.da) ∧ W.cell? ⟨b, off + k * 7 + 5, none⟩ = some (.string (Dt.nameAtS r.da)) ∧ W.cell? ⟨b, off + k * 7 + 6, none⟩ = some (.string (bitsOf r.da)) by
        intro W hW
        have put : ∀ {B O : Nat} {z : Value}, w.cell? ⟨B, O, none⟩ = some z → W.cell? ⟨B, O, none⟩ = some z := fun h => (hW.cell (World.block_lt_of_cell? w _ h)).trans h
        exact ⟨put (hcell _ _ at0), put (hcell _ _ at1), put (hcell _ _ at2), put (hcell _ _ at3), put (hcell _ _ at4), put (hcell _ _ at5), put (hcell _ _ at6)⟩)
      have hus := fun W => l08Useful_any r.own r.da (Dt.nameAtS r.da) (bitsOf r.da) s r.ty r.cl r.tt l x W R.so R.st hx R.zo R.zb zs
      have HL := Nm.hide hl
      have i1 : (0 : Int) ≤ (k : Int) := by omega
      have i2 : (k : Int) < (rs.length : Int) := by omega
      obtain ⟨c0, c1, c2, c3, c4, c5, c6⟩ := KK.out _ hbel
      have hsm := fun W => specSameName_any r.own s W R.zo zs
      rw [same_cmp R.so hx] at hsm
      have hbq := fun W => l08Bit_any r.own r.da (Dt.nameAtS r.da) (bitsOf r.da) r.ty r.cl r.tt q W R.zb
      have hb5 := fun W => l08Bit_any r.own r.da (Dt.nameAtS r.da) (bitsOf r.da) r.ty r.cl r.tt 5 W R.zb
      rw [← R.st] at hbq hb5
      clear hc hcell at0 at1 at2 at3 at4 at5 at6 hr hl R
      generalize Dt.nameAtS r.da = nn at *
      generalize bitsOf r.da = bb at *
      cases hA : atB l x with
      | false =>
        have HP := Nm.hide (show (useB l x && atB l x) = false by rw [hA]; exact Bool.and_false _)
        rw [atB] at hA
        rw [hA] at hsm
        clear hA hus hbq hb5
        go_wp2_with fail
        refine (hsm _).mono ?_
        rintro e wn ⟨rfl, bn⟩
        replace hbel := Nm.below_two hbel bn
        obtain ⟨c0, c1, c2, c3, c4, c5, c6⟩ := KK.out _ hbel
        clear bn
        go_wp2
        go_roundw
        case rel => exact ⟨k + 1, by omega, by go_num, no_more (p := fun y => useB y x && atB y x) HN.out HL.out HP.out, hbel⟩
        case measure => simp [intOf]; omega
      | true =>
        have hA2 := hA
        rw [atB] at hA2
        rw [hA2] at hsm
        clear hA2
        cases hU : useB l x with
        | false =>
          rw [hU] at hus
          have HP := Nm.hide (show (useB l x && atB l x) = false by rw [hU]; rfl)
          clear hU hA hbq hb5
          go_wp2_with fail
          refine (hsm _).mono ?_
          rintro e wn ⟨rfl, bn⟩
          replace hbel := Nm.below_two hbel bn
          obtain ⟨c0, c1, c2, c3, c4, c5, c6⟩ := KK.out _ hbel
          clear bn
          go_wp2_with fail
          refine (hus _).mono ?_
          rintro e wn ⟨rfl, bn⟩
          replace hbel := Nm.below_two hbel bn
          obtain ⟨c0, c1, c2, c3, c4, c5, c6⟩ := KK.out _ hbel
          clear bn
          go_wp2
          go_roundw
          case rel => exact ⟨k + 1, by omega, by go_num, no_more (p := fun y => useB y x && atB y x) HN.out HL.out HP.out, hbel⟩
          case measure => simp [intOf]; omega
        | true =>
          rw [hU] at hus
          have hpk : pickB ls x atB = some l := find_at ls k l HN.out HL.out (by rw [hU, hA]; rfl)
          cases hq : hasB l.ty q with
          | true =>
            rw [hq] at hbq
            have HM := Nm.hide (show matchC ls x q = 2 by rw [matchC, hpk]; simp [hq])
            clear hU hA hq hpk hb5
            go_wp2_with fail
            refine (hsm _).mono ?_
            rintro e wn ⟨rfl, bn⟩
            replace hbel := Nm.below_two hbel bn
            obtain ⟨c0, c1, c2, c3, c4, c5, c6⟩ := KK.out _ hbel
            clear bn
            go_wp2_with fail
            refine (hus _).mono ?_
            rintro e wn ⟨rfl, bn⟩
            replace hbel := Nm.below_two hbel bn
            obtain ⟨c0, c1, c2, c3, c4, c5, c6⟩ := KK.out _ hbel
            clear bn
            go_wp2_with fail
            refine (hbq _).mono ?_
            rintro e wn ⟨rfl, bn⟩
            replace hbel := Nm.below_two hbel bn
            obtain ⟨c0, c1, c2, c3, c4, c5, c6⟩ := KK.out _ hbel
            clear bn
            go_wp2
            go_ret
            rw [HM.out]
            exact ⟨hbel, rfl⟩
          | false =>
            rw [hq] at hbq
            cases h5 : hasB l.ty 5 with
            | true =>
              rw [h5] at hb5
              have HM := Nm.hide (show matchC ls x q = 2 by rw [matchC, hpk]; simp [h5])
              clear hU hA hq hpk h5
              go_wp2_with fail
              refine (hsm _).mono ?_
              rintro e wn ⟨rfl, bn⟩
              replace hbel := Nm.below_two hbel bn
              obtain ⟨c0, c1, c2, c3, c4, c5, c6⟩ := KK.out _ hbel
              clear bn
              go_wp2_with fail
              refine (hus _).mono ?_
              rintro e wn ⟨rfl, bn⟩
              replace hbel := Nm.below_two hbel bn
              obtain ⟨c0, c1, c2, c3, c4, c5, c6⟩ := KK.out _ hbel
              clear bn
              go_wp2_with fail
              refine (hbq _).mono ?_
              rintro e wn ⟨rfl, bn⟩
              replace hbel := Nm.below_two hbel bn
              obtain ⟨c0, c1, c2, c3, c4, c5, c6⟩ := KK.out _ hbel
              clear bn
              go_wp2_with fail
              refine (hb5 _).mono ?_
              rintro e wn ⟨rfl, bn⟩
              replace hbel := Nm.below_two hbel bn
              obtain ⟨c0, c1, c2, c3, c4, c5, c6⟩ := KK.out _ hbel
              clear bn
              go_wp2
              go_ret
              rw [HM.out]
              exact ⟨hbel, rfl⟩
            | false =>
              rw [h5] at hb5
              have HM := Nm.hide (show matchC ls x q = 1 by rw [matchC, hpk]; simp [hq, h5])
              clear hU hA hq hpk h5
              go_wp2_with fail
              refine (hsm _).mono ?_
              rintro e wn ⟨rfl, bn⟩
              replace hbel := Nm.below_two hbel bn
              obtain ⟨c0, c1, c2, c3, c4, c5, c6⟩ := KK.out _ hbel
              clear bn
              go_wp2_with fail
              refine (hus _).mono ?_
              rintro e wn ⟨rfl, bn⟩
              replace hbel := Nm.below_two hbel bn
              obtain ⟨c0, c1, c2, c3, c4, c5, c6⟩ := KK.out _ hbel
              clear bn
              go_wp2_with fail
              refine (hbq _).mono ?_
              rintro e wn ⟨rfl, bn⟩
              replace hbel := Nm.below_two hbel bn
              obtain ⟨c0, c1, c2, c3, c4, c5, c6⟩ := KK.out _ hbel
              clear bn
              go_wp2_with fail
              refine (hb5 _).mono ?_
              rintro e wn ⟨rfl, bn⟩
              replace hbel := Nm.below_two hbel bn
              obtain ⟨c0, c1, c2, c3, c4, c5, c6⟩ := KK.out _ hbel
              clear bn
              go_wp2
              go_ret
              rw [HM.out]
              exact ⟨hbel, rfl⟩
    · have hke : k = rs.length := by omega
      subst hke
      have HF := Nm.hide (show matchC ls x q = 0 by rw [matchC, show pickB ls x atB = none from find_no ls (fun i hi => HN.out i (by have := HLL.out; omega))])
      clear hc HN
      go_wp2
      go_ret
      rw [HF.out]
      exact ⟨hbel, rfl⟩
end Go.Proofs.Ytkiadnglbjamfaa
