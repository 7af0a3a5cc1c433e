import Derived.Test.YtmaopfagkffccaaGreatJMvA
import Derived.Test.YtmaopfagkffccaaGreatJMvM
/- spec.l04Valid by its contract. -/
namespace Go.Proofs.YtmaopfagkffccaaGreat
open Go.RowKit
set_option linter.unusedVariables false

set_option maxRecDepth 100000 in
set_option maxHeartbeats 6400000 in
theorem l04Valid_any (m : Mg) (q a u x : Value) (w : World) (h : MRow w m q a u x) (hm : MSmall m) :
    Calls Tryz.prog 13 #[.agg (mgV m.hd q a u x)] w fun e w' => e = .returned (.bool (mgOK m)) ∧ Below w.heap.size w w' := by
  obtain ⟨s1, s2, s3, s4, l1, l2, l3, l4⟩ := hm
  have hB0 := ((Below.refl w.heap.size w).alloc (Nat.le_refl _) (.cells (mgV m.hd q a u x) 33)).alloc (by simp) (.cells (hrV m.hd).toArray 29)
  have kb := blk_alloc (blk_new w (mgV m.hd q a u x) 33) (.cells (hrV m.hd).toArray 29)
  have hi1 := fun W => l04In_any m.hd.id 65535 W
  have hi2 := fun W => l04In_any m.hd.op 15 W
  have hi3 := fun W => l04In_any m.hd.code 15 W
  have ha := fun W (hW : Below w.heap.size w W) => l04AllSound_any a m.an W (h.ra.below hW) s2
  have hu := fun W (hW : Below w.heap.size w W) => l04AllSound_any u m.au W (h.ru.below hW) s3
  have hx := fun W (hW : Below w.heap.size w W) => l04AllSound_any x m.ex W (h.rx.below hW) s4
  have hrq := h.rq
  obtain ⟨RES, HRES⟩ : ∃ R, Hid (R = (decide (m.qs.length + m.an.length + m.au.length + m.ex.length ≤ 400) && ((decide (0 ≤ m.hd.id) && decide (m.hd.id ≤ 65535)) && (decide (0 ≤ m.hd.op) && decide (m.hd.op ≤ 15)) && (decide (0 ≤ m.hd.code) && decide (m.hd.code ≤ 15))) && m.qs.all quOK && m.an.all rcOK && m.au.all rcOK && m.ex.all rcOK)) := ⟨_, rfl⟩
  have hgoal : mgOK m = RES := by rw [HRES.out]; rfl
  rw [hgoal]
  clear hgoal
  obtain ⟨_, qa, qc, rfl, hqcap, hqmx, hqc⟩ := h.rq
  obtain ⟨_, aa, ac, rfl, _⟩ := h.ra
  obtain ⟨_, ua, uc, rfl, _⟩ := h.ru
  obtain ⟨_, xa, xc, rfl, _⟩ := h.rx
  clear h s2 s3 s4
  unfold maxLen at hqmx
  obtain ⟨⟨i0, b1, i2, b3, b4, b5, b6, b7, b8, b9, i10⟩, qs, an, au, ex⟩ := m
  simp only [mgV, hrV] at *
  generalize (decide (0 ≤ i0) && decide (i0 ≤ 65535)) = B1 at *
  generalize (decide (0 ≤ i2) && decide (i2 ≤ 15)) = B2 at *
  generalize (decide (0 ≤ i10) && decide (i10 ≤ 15)) = B3 at *
  generalize an.all rcOK = A1 at *
  generalize au.all rcOK = A2 at *
  generalize ex.all rcOK = A3 at *
  cases B1 with
  | false =>
    obtain rfl : RES = false := by rw [HRES.out]; simp
    clear HRES hqc hrq ha hu hx
    go_enter Tryz.func13, Tryz.ntmps13
    go_wp2_with (go_at_call 32; first | (with_reducible refine (hi1 _).mono ?_; rintro e wf ⟨rfl, hw⟩; obtain rfl := hw.symm; clear hw) | (with_reducible refine (hi2 _).mono ?_; rintro e wf ⟨rfl, hw⟩; obtain rfl := hw.symm; clear hw) | (with_reducible refine (hi3 _).mono ?_; rintro e wf ⟨rfl, hw⟩; obtain rfl := hw.symm; clear hw))
    go_ret
    exact ⟨rfl, hB0⟩
  | true =>
    cases B2 with
    | false =>
      obtain rfl : RES = false := by rw [HRES.out]; simp
      clear HRES hqc hrq ha hu hx
      go_enter Tryz.func13, Tryz.ntmps13
      go_wp2_with (go_at_call 32; first | (with_reducible refine (hi1 _).mono ?_; rintro e wf ⟨rfl, hw⟩; obtain rfl := hw.symm; clear hw) | (with_reducible refine (hi2 _).mono ?_; rintro e wf ⟨rfl, hw⟩; obtain rfl := hw.symm; clear hw) | (with_reducible refine (hi3 _).mono ?_; rintro e wf ⟨rfl, hw⟩; obtain rfl := hw.symm; clear hw))
      go_ret
      exact ⟨rfl, hB0⟩
    | true =>
      cases B3 with
      | false =>
        obtain rfl : RES = false := by rw [HRES.out]; simp
        clear HRES hqc hrq ha hu hx
        go_enter Tryz.func13, Tryz.ntmps13
        go_wp2_with (go_at_call 32; first | (with_reducible refine (hi1 _).mono ?_; rintro e wf ⟨rfl, hw⟩; obtain rfl := hw.symm; clear hw) | (with_reducible refine (hi2 _).mono ?_; rintro e wf ⟨rfl, hw⟩; obtain rfl := hw.symm; clear hw) | (with_reducible refine (hi3 _).mono ?_; rintro e wf ⟨rfl, hw⟩; obtain rfl := hw.symm; clear hw))
        go_ret
        exact ⟨rfl, hB0⟩
      | true =>
        by_cases hbig : 400 < qs.length + an.length + au.length + ex.length
        · obtain rfl : RES = false := by rw [HRES.out, decide_eq_false (by omega)]; rfl
          have hbig' : (400 : Int) < (qs.length : Int) + (an.length : Int) + (au.length : Int) + (ex.length : Int) := by omega
          clear HRES hqc hrq ha hu hx
          go_enter Tryz.func13, Tryz.ntmps13
          go_wp2_with (go_at_call 32; first | (with_reducible refine (hi1 _).mono ?_; rintro e wf ⟨rfl, hw⟩; obtain rfl := hw.symm; clear hw) | (with_reducible refine (hi2 _).mono ?_; rintro e wf ⟨rfl, hw⟩; obtain rfl := hw.symm; clear hw) | (with_reducible refine (hi3 _).mono ?_; rintro e wf ⟨rfl, hw⟩; obtain rfl := hw.symm; clear hw))
          go_ret
          exact ⟨rfl, hB0⟩
        · have hbig' : (qs.length : Int) + (an.length : Int) + (au.length : Int) + (ex.length : Int) ≤ 400 := by omega
          have HR2 : Hid (RES = (qs.all quOK && A1 && A2 && A3)) := by show _ = _; rw [HRES.out, decide_eq_true (by omega)]; rfl
          clear HRES
          have hnq := fun (r : Qr) (hr : r ∈ qs) W => specNameOK_any r.nm W (by have := s1 r hr; unfold maxLen; omega)
          go_enter Tryz.func13, Tryz.ntmps13
          go_wp2_with (go_at_call 32; first | (with_reducible refine (hi1 _).mono ?_; rintro e wf ⟨rfl, hw⟩; obtain rfl := hw.symm; clear hw) | (with_reducible refine (hi2 _).mono ?_; rintro e wf ⟨rfl, hw⟩; obtain rfl := hw.symm; clear hw) | (with_reducible refine (hi3 _).mono ?_; rintro e wf ⟨rfl, hw⟩; obtain rfl := hw.symm; clear hw))
          clear hi1 hi2 hi3
          go_loopw [4] (fun i wr => ∃ k : Nat, k ≤ qs.length ∧ i = .int .i64 k ∧ Hid ((qs.take k).all quOK = true) ∧ Blk wr w.heap.size #[.int .i64 i0, .bool b1, .int .i64 i2, .bool b3, .bool b4, .bool b5, .bool b6, .bool b7, .bool b8, .bool b9, .int .i64 i10, .slice qa qs.length qc, .slice aa an.length ac, .slice ua au.length uc, .slice xa ex.length xc] 33 ∧ Below w.heap.size w wr) (fun i _ => qs.length - (intOf i).toNat)
          case atStart => exact ⟨0, Nat.zero_le _, rfl, by show _ = _; simp, kb, hB0⟩
          case round =>
            obtain ⟨k, hk, rfl, HA, kr, hbel⟩ := hrel
            clear kb hB0
            have g1 := (blk_cell kr 11).trans rfl
            by_cases hlt : k < qs.length
            · obtain ⟨r, hrk⟩ : ∃ r, qs[k]? = some r := ⟨_, List.getElem?_eq_getElem hlt⟩
              obtain ⟨b, off, rfl, hcell⟩ := hqc (by omega)
              obtain ⟨c0, c1, c2⟩ := qv_cells hcell hrk
              have put : ∀ {O : Nat} {z : Value}, w.cell? ⟨b, O, none⟩ = some z → wr.cell? ⟨b, O, none⟩ = some z := fun h => (hbel.cell (World.block_lt_of_cell? w _ h)).trans h
              replace c0 := put c0
              replace c1 := put c1
              replace c2 := put c2
              have hmem := List.mem_of_getElem? hrk
              have hno := fun W => hnq r hmem W
              have hj1 := fun W => l04In_any r.ty 65535 W
              have hj2 := fun W => l04In_any r.cl 65535 W
              have kq := blk_new wr #[.string r.nm, .int .i64 r.ty, .int .i64 r.cl] 63
              have hBq := hbel.alloc hbel.size (.cells #[.string r.nm, .int .i64 r.ty, .int .i64 r.cl] 63)
              have krq := blk_alloc kr (.cells #[.string r.nm, .int .i64 r.ty, .int .i64 r.cl] 63)
              have HM : Hid (quOK r = ((Nm.split r.nm).isSome && (decide (0 ≤ r.ty) && decide (r.ty ≤ 65535)) && (decide (0 ≤ r.cl) && decide (r.cl ≤ 65535)))) := rfl
              have HZ : Hid (quOK r = false → RES = false) := by
                intro hok
                rw [HR2.out, all_no hmem hok]; rfl
              have HY : Hid (quOK r = true → (qs.take (k + 1)).all quOK = true) := by
                intro hok
                rw [all_take' hrk, HA.out, hok]; rfl
              have i1 : (0 : Int) ≤ (k : Int) := by omega
              have i3 : (k : Int) < (qs.length : Int) := by omega
              clear hcell hqc hrq hrk hmem hnq HA ha hu hx kr
              obtain ⟨o, ty, cl⟩ := r
              simp only at hno hj1 hj2 kq hBq krq HM HZ HY c0 c1 c2
              generalize quOK ⟨o, ty, cl⟩ = M at *
              generalize (Nm.split o).isSome = D1 at *
              generalize (decide (0 ≤ ty) && decide (ty ≤ 65535)) = D2 at *
              generalize (decide (0 ≤ cl) && decide (cl ≤ 65535)) = D3 at *
              cases D1 with
              | false =>
                obtain rfl : RES = false := HZ.out (by rw [HM.out]; simp)
                go_wp2_with (first | (go_at_call 33; refine (hno _).mono ?_; rintro e w1 ⟨rfl, hb1⟩; have kk := blk_below kq hb1; have k1 := (blk_cell kk 1).trans rfl; have k2 := (blk_cell kk 2).trans rfl) | (go_at_call 32; first | (with_reducible refine (hj1 _).mono ?_; rintro e wf ⟨rfl, hw⟩; obtain rfl := hw.symm; clear hw) | (with_reducible refine (hj2 _).mono ?_; rintro e wf ⟨rfl, hw⟩; obtain rfl := hw.symm; clear hw)))
                go_ret
                exact ⟨rfl, Nm.below_two hBq hb1⟩
              | true =>
                cases D2 with
                | false =>
                  obtain rfl : RES = false := HZ.out (by rw [HM.out]; simp)
                  go_wp2_with (first | (go_at_call 33; refine (hno _).mono ?_; rintro e w1 ⟨rfl, hb1⟩; have kk := blk_below kq hb1; have k1 := (blk_cell kk 1).trans rfl; have k2 := (blk_cell kk 2).trans rfl) | (go_at_call 32; first | (with_reducible refine (hj1 _).mono ?_; rintro e wf ⟨rfl, hw⟩; obtain rfl := hw.symm; clear hw) | (with_reducible refine (hj2 _).mono ?_; rintro e wf ⟨rfl, hw⟩; obtain rfl := hw.symm; clear hw)))
                  go_ret
                  exact ⟨rfl, Nm.below_two hBq hb1⟩
                | true =>
                  cases D3 with
                  | false =>
                    obtain rfl : RES = false := HZ.out (by rw [HM.out]; simp)
                    go_wp2_with (first | (go_at_call 33; refine (hno _).mono ?_; rintro e w1 ⟨rfl, hb1⟩; have kk := blk_below kq hb1; have k1 := (blk_cell kk 1).trans rfl; have k2 := (blk_cell kk 2).trans rfl) | (go_at_call 32; first | (with_reducible refine (hj1 _).mono ?_; rintro e wf ⟨rfl, hw⟩; obtain rfl := hw.symm; clear hw) | (with_reducible refine (hj2 _).mono ?_; rintro e wf ⟨rfl, hw⟩; obtain rfl := hw.symm; clear hw)))
                    go_ret
                    exact ⟨rfl, Nm.below_two hBq hb1⟩
                  | true =>
                    have HY2 := Nm.hide (HY.out (by rw [HM.out]; rfl))
                    clear HZ HY HM
                    go_wp2_with (first | (go_at_call 33; refine (hno _).mono ?_; rintro e w1 ⟨rfl, hb1⟩; have kk := blk_below kq hb1; have k1 := (blk_cell kk 1).trans rfl; have k2 := (blk_cell kk 2).trans rfl) | (go_at_call 32; first | (with_reducible refine (hj1 _).mono ?_; rintro e wf ⟨rfl, hw⟩; obtain rfl := hw.symm; clear hw) | (with_reducible refine (hj2 _).mono ?_; rintro e wf ⟨rfl, hw⟩; obtain rfl := hw.symm; clear hw)))
                    go_roundw
                    case rel => exact ⟨k + 1, by omega, by go_num, HY2.out, blk_below krq hb1, Nm.below_two hBq hb1⟩
                    case measure => simp [intOf]; omega
            · have hkl : k = qs.length := by omega
              subst hkl
              have i3 : (qs.length : Int) ≤ (qs.length : Int) := by omega
              have hq : qs.all quOK = true := by
                have := HA.out
                rwa [List.take_length] at this
              have hR3 : RES = (A1 && A2 && A3) := by rw [HR2.out, hq]; rfl
              clear HR2 HA hqc hrq hnq hq
              have g2 := (blk_cell kr 12).trans rfl
              cases A1 with
              | false =>
                have e3 : RES = false := hR3
                clear hR3
                subst e3
                go_wp2_with (go_at_call 34; with_reducible refine (ha _ hbel).mono ?_; rintro e w1 ⟨rfl, hb1⟩)
                go_ret
                exact ⟨rfl, Nm.below_two hbel hb1⟩
              | true =>
                cases A2 with
                | false =>
                  have e3 : RES = false := hR3
                  clear hR3
                  subst e3
                  go_wp2_with (go_at_call 34; first | (with_reducible refine (ha _ hbel).mono ?_; rintro e w1 ⟨rfl, hb1⟩; have kr1 := blk_below kr hb1; have g3 := (blk_cell kr1 13).trans rfl; have B1 := Nm.below_two hbel hb1) | (with_reducible refine (hu _ B1).mono ?_; rintro e w2 ⟨rfl, hb2⟩))
                  go_ret
                  exact ⟨rfl, Nm.below_two B1 hb2⟩
                | true =>
                  have e3 : RES = A3 := by rw [hR3]; rfl
                  clear hR3
                  subst e3
                  go_wp2_with (go_at_call 34; first | (with_reducible refine (ha _ hbel).mono ?_; rintro e w1 ⟨rfl, hb1⟩; have kr1 := blk_below kr hb1; have g3 := (blk_cell kr1 13).trans rfl; have B1 := Nm.below_two hbel hb1) | (with_reducible refine (hu _ B1).mono ?_; rintro e w2 ⟨rfl, hb2⟩; have kr2 := blk_below kr1 hb2; have g4 := (blk_cell kr2 14).trans rfl; have B2 := Nm.below_two B1 hb2) | (with_reducible refine (hx _ B2).mono ?_; rintro e w3 ⟨rfl, hb3⟩))
                  go_ret
                  exact ⟨rfl, Nm.below_two B2 hb3⟩
end Go.Proofs.YtmaopfagkffccaaGreat
