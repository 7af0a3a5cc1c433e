import Derived.Test.YtmaopfagkffccaaGreatJPtM
import Derived.Test.YtmaopfagkffccaaGreatJTkI
import Derived.Deep.RegionHeld3
import Derived.BigQuiet
/- spec.l13Drop by its contract, with and without its guard. -/
namespace Go.Proofs.YtmaopfagkffccaaGreat
open Go.RowKit
set_option linter.unusedVariables false

theorem rv_takeD {w : World} {b off : Nat} {xs : List Rr} {cap : Nat} (h : CRow w (.slice (some ⟨b, off, none⟩) xs.length cap) xs.length 5 (rvVs xs)) (k : Nat) (hk : k ≤ xs.length) :
    CRow w (.slice (some ⟨b, off, none⟩) k cap) (xs.take k).length 5 (rvVs (xs.take k)) := by
  obtain ⟨hl, a, c, e, hcap, hmx, hc⟩ := h
  cases e
  have e1 : (xs.take k).length = k := by rw [List.length_take]; omega
  refine ⟨by rw [rvVs_len], _, _, by rw [e1], by rw [e1]; omega, by omega, fun hp => ⟨b, off, rfl, ?_⟩⟩
  rw [e1] at hp
  obtain ⟨b', off', e, hcell⟩ := hc (by omega)
  cases e
  intro i y hy
  refine hcell i y ?_
  have e2 : rvVs xs = rvVs (xs.take k) ++ rvVs (xs.drop k) := by
    conv => lhs; rw [← List.take_append_drop k xs]
    simp only [rvVs, List.flatMap_append]
  rw [e2, List.getElem?_append_left ((List.getElem?_eq_some_iff.1 hy).1)]
  exact hy

theorem rv_dropD {w : World} {b off : Nat} {xs : List Rr} {cap : Nat} (h : CRow w (.slice (some ⟨b, off, none⟩) xs.length cap) xs.length 5 (rvVs xs)) (k : Nat) (hk : k ≤ xs.length) :
    CRow w (.slice (some ⟨b, off + k * 5, none⟩) (xs.length - k) (cap - k)) (xs.drop k).length 5 (rvVs (xs.drop k)) := by
  obtain ⟨hl, a, c, e, hcap, hmx, hc⟩ := h
  cases e
  refine ⟨by rw [rvVs_len], _, _, by rw [List.length_drop], by rw [List.length_drop]; omega, by omega, fun hp => ⟨b, off + k * 5, rfl, ?_⟩⟩
  rw [List.length_drop] at hp
  obtain ⟨b', off', e, hcell⟩ := hc (by omega)
  cases e
  intro i y hy
  have e2 : rvVs xs = rvVs (xs.take k) ++ rvVs (xs.drop k) := by
    conv => lhs; rw [← List.take_append_drop k xs]
    simp only [rvVs, List.flatMap_append]
  have e3 : (rvVs (xs.take k)).length = k * 5 := by rw [rvVs_len, List.length_take, Nat.min_eq_left hk]
  have := hcell (k * 5 + i) y (by rw [e2, List.getElem?_append_right (by omega), e3, Nat.add_sub_cancel_left]; exact hy)
  rw [← Nat.add_assoc] at this
  exact this

/-- What l13Drop leaves. -/
def SdPost (p : Rr → Bool) (v : Value) (xs : List Rr) (w : World) (e : Ending) (w' : World) : Prop :=
  ((dropS p xs = none ∧ e = .returned (.tuple #[v, .bool false])) ∨ ∃ ys u, dropS p xs = some ys ∧ e = .returned (.tuple #[u, .bool true]) ∧ w'.ownsRow w.heap.size 72 5 u ys.length (rvVs ys)) ∧ Below w.heap.size w w'

theorem dropS_noneD {p : Rr → Bool} {xs : List Rr} (h : tdN p xs xs.length = 0) : dropS p xs = none := by rw [dropS, h]
theorem dropS_someD {p : Rr → Bool} {xs : List Rr} {t : Nat} {r : Rr} (h : tdN p xs xs.length = t + 1) (hr : xs[t]? = some r) : dropS p xs = some (xs.take (frN xs r t) ++ xs.drop (t + 1)) := by rw [dropS, h]; simp [hr]
theorem str_eqD (a b : ByteArray) : (a.toList == b.toList) = decide (a.data.toList = b.data.toList) := by
  rw [ByteArray.toList_eq, ByteArray.toList_eq]
  by_cases h : a.data.toList = b.data.toList
  · rw [h]; simp
  · rw [decide_eq_false h]; simpa using h

set_option maxRecDepth 100000 in
set_option maxHeartbeats 6400000 in
theorem l13Drop_on (v : Value) (xs : List Rr) (w : World) (h : CRow w v xs.length 5 (rvVs xs)) (hn : xs.length ≤ 1048576) :
    Calls Tryz.prog 36 #[v, .bool true] w (SdPost isO v xs w) := by
  obtain ⟨a, cap, rfl⟩ : ∃ a cap, v = .slice a xs.length cap := by obtain ⟨_, a, c, e, _⟩ := h; exact ⟨a, c, e⟩
  have hrow := h
  obtain ⟨_, a', cap', e0, hcap, hmx, hc⟩ := h
  simp only [Value.slice.injEq] at e0
  obtain ⟨rfl, _, rfl⟩ := e0
  unfold maxLen at hmx
  go_enter Tryz.func36, Tryz.ntmps36
  go_wp2
  go_loopw [6] (fun t wr => ∃ k : Nat, k ≤ xs.length ∧ t = .int .i64 k ∧ Hid (tdN isO xs xs.length = tdN isO xs k) ∧ Below w.heap.size w wr) (fun t _ => (intOf t).toNat)
  case atStart => exact ⟨xs.length, Nat.le_refl _, rfl, rfl, Below.refl _ _⟩
  case round =>
    obtain ⟨k, hk, rfl, HT, hbel⟩ := hrel
    cases k with
    | zero =>
      have HD : Hid (dropS isO xs = none) := dropS_noneD HT.out
      clear hc HT hrow
      go_wp2
      go_ret2
      exact ⟨.inl ⟨HD.out, rfl⟩, hbel⟩
    | succ j =>
      have hlt : j < xs.length := by omega
      obtain ⟨x, hxk⟩ : ∃ x, xs[j]? = some x := ⟨_, List.getElem?_eq_getElem hlt⟩
      obtain ⟨b, off, rfl, hcell⟩ := hc (by omega)
      have hall := fun (i : Nat) (y : Rr) (hy : xs[i]? = some y) => rv_cells hcell hy
      have HALL := Nm.hide hall
      have HC0 := Nm.hide (rv_cells hcell hxk)
      obtain ⟨c0, c1, c2, c3, c4⟩ := rv_cells hcell hxk
      have put : ∀ {O : Nat} {z : Value}, w.cell? ⟨b, O, none⟩ = some z → wr.cell? ⟨b, O, none⟩ = some z := fun h => (hbel.cell (World.block_lt_of_cell? w _ h)).trans h
      replace c1 := put c1
      have i0 : (0 : Int) < ((j + 1 : Nat) : Int) := by omega
      have i1 : (0 : Int) ≤ (j : Int) := by omega
      have i2 : (j : Int) < (xs.length : Int) := by omega
      have i3 : ((j + 1 : Nat) : Int) - 1 = (j : Int) := by omega
      have i4 : ((j : Int) + 1 == 0) = false := by simpa using (by omega : ¬ (j : Int) + 1 = 0)
      have hwj : IntKind.i64.wrap (j : Int) = (j : Int) := Go.wrap_small _ (by omega) (by omega)
      have HXK := Nm.hide hxk
      cases hok : isO x with
      | true =>
        have HT2 : Hid (tdN isO xs xs.length = tdN isO xs j) := HT.out.trans (tdN_yes hxk hok)
        have hok2 : (x.ty == 41) = true := by
          have : x.ty = 41 := by simpa [isO] using hok
          rw [this]; rfl
        clear hok hxk hcell hc put hall hrow c0 c2 c3 c4
        obtain ⟨o, ty, cl, tt, da⟩ := x
        simp only at *
        go_wp2
        go_roundw
        case rel => exact ⟨j, by omega, by go_num, HT2, hbel⟩
        case measure => simp [intOf]
      | false =>
        have HT2 : Hid (tdN isO xs xs.length = j + 1) := HT.out.trans (tdN_no hxk hok)
        have HDS : Hid (dropS isO xs = some (xs.take (frN xs x j) ++ xs.drop (j + 1))) := dropS_someD HT2.out HXK.out
        have hok2 : (x.ty == 41) = false := by
          have : ¬ x.ty = 41 := by simpa [isO] using hok
          simpa using this
        clear hok
        have HROW := Nm.hide hrow
        have HJL : Hid (j + 1 ≤ xs.length) := hk
        clear hxk hcell put hc hall hrow c0 c2 c3 c4 HT HT2
        obtain ⟨o, ty, cl, tt, da⟩ := x
        simp only at *
        go_wp2
        clear c1
        go_loopw [7] (fun t wr2 => ∃ k : Nat, k ≤ j ∧ t = .int .i64 k ∧ Hid (frN xs ⟨o, ty, cl, tt, da⟩ j = frN xs ⟨o, ty, cl, tt, da⟩ k) ∧ Below w.heap.size w wr2) (fun t _ => (intOf t).toNat)
        case atStart => exact ⟨j, Nat.le_refl _, by first | rfl | (go_num), rfl, hbel⟩
        case round =>
          clear hbel
          obtain ⟨k, hk2, rfl, HF, hbel2⟩ := hrel
          have HKL : Hid (k ≤ j) := hk2
          by_cases hk0 : k = 0
          · have HE : Hid (frN xs ⟨o, ty, cl, tt, da⟩ j = k) := by show _ = _; rw [HF.out, hk0]; rfl
            have d0 : decide (0 < k) = false := by rw [hk0]; rfl
            clear HF HALL HC0 hk0
            go_wp2
            go_quiet (fail)
            generalize hwE : World.drewN wr _ = wE
            have hbE : Below w.heap.size w wE := by rw [← hwE]; exact Go.below_drewN hbel2 _
            have hR := HROW.out.below hbE
            have hkl := HKL.out
            have hjl := HJL.out
            have t1 := fun W (hb : Below wE.heap.size wE W) => (rv_takeD hR k (by omega)).below hb
            have l1 : (xs.take k).length ≤ xs.length := by simp; omega
            have l2 : (xs.take k).length + (xs.drop (j + 1)).length ≤ 1048576 := by simp; omega
            have hown0 : (wE.alloc (.cells #[] 72)).drew.ownsRow wE.heap.size 72 5 (.slice (some ⟨wE.heap.size, 0, none⟩) 0 0) 0 [] := World.ownsRow_made (base := wE.heap.size) (size := 5) (e := 72) wE #[] 0 (by simp) (by decide) rfl
            have hbA : Below wE.heap.size wE (wE.alloc (.cells #[] 72)).drew := ((Below.refl wE.heap.size wE).alloc (Nat.le_refl _) _).drew
            have hbD : Below wE.heap.size wE wE.drew := (Below.refl wE.heap.size wE).drew
            have hj1 := l06JoinC_any (.slice (some ⟨wE.heap.size, 0, none⟩) 0 0) (.slice (some ⟨b, off, none⟩) k cap) [] (xs.take k) wE.heap.size (wE.alloc (.cells #[] 72)).drew hown0 (fun W hb => t1 W (hbA.trans hb)) (by simp) (by simp; omega)
            rw [List.nil_append] at hj1
            have n1 : (0 : Int) ≤ (k : Int) := by omega
            have n2 : (k : Int) ≤ (xs.length : Int) := by omega
            have n3 : (k : Int) ≤ (cap : Int) := by omega
            have n4 : (0 : Int) ≤ (j : Int) + 1 := by omega
            have n5 : (j : Int) + 1 ≤ (xs.length : Int) := by omega
            have n6 : (xs.length : Int) ≤ (cap : Int) := by omega
            have HE2 : Hid (xs.take (frN xs ⟨o, ty, cl, tt, da⟩ j) ++ xs.drop (j + 1) = xs.take k ++ xs.drop (j + 1)) := by show _ = _; rw [HE.out]
            rw [HE2.out] at HDS
            by_cases hcj : cap = j + 1
            · have hxe : xs.length = j + 1 := by omega
              have t2 : ∀ W, Below wE.heap.size wE W → CRow W (.slice (some ⟨b, off, none⟩) 0 0) (xs.drop (j + 1)).length 5 (rvVs (xs.drop (j + 1))) := by
                intro W _
                rw [List.drop_of_length_le (by omega)]
                exact ⟨rfl, _, _, rfl, Nat.le_refl _, by decide, fun h => by simp at h⟩
              have hj2 := fun u W (hu : W.ownsRow wE.heap.size 72 5 u (xs.take k).length (rvVs (xs.take k))) (hbW : Below wE.heap.size wE W) => l06JoinC_any u (.slice (some ⟨b, off, none⟩) 0 0) (xs.take k) (xs.drop (j + 1)) wE.heap.size W hu (fun W' hb' => t2 W' (hbW.trans hb')) hbW.size l2
              generalize xs.take k = TK at *
              generalize xs.drop (j + 1) = DK at *
              generalize TK ++ DK = YS at *
              have HX := Nm.hide hxe
              rw [hxe]
              rw [hxe] at n2 n5 n6
              clear hwE hbel2 hR t1 t2 hkl hjl l1 l2 hown0 hxe HROW HJL HKL HE HE2 HXK hlt hk hk2 i2 hcap hmx hn
              subst hcj
              have m1 : (k : Int) ≤ (j : Int) + 1 := by omega
              have m2 : k ≤ j + 1 := by omega
              go_wp2
              go_region_held3 (fun W => Below wE.heap.size wE W) (first | with_reducible assumption) ((first | (go_at_call 37; with_reducible refine hj1.mono ?_; rintro e w5 ⟨u5, rfl, ho5, c5⟩; have hb5 : Below wE.heap.size wE w5 := hbA.trans c5; obtain ⟨p5, r5, hv5⟩ := own_sl ho5; subst hv5) | (go_at_call 37; with_reducible refine (hj2 _ w5 ho5 hb5).mono ?_; rintro e w6 ⟨u6, rfl, ho6, c6⟩; have hb6 : Below wE.heap.size wE w6 := hb5.trans c6; obtain ⟨p6, r6, hv6⟩ := own_sl ho6; subst hv6)))
              go_wp2
              go_ret2
              exact ⟨.inr ⟨_, _, HDS.out, rfl, own_base ho6 hbE.size⟩, hbE.trans (hb6.mono hbE.size)⟩
            · have hj2 := fun u W (hu : W.ownsRow wE.heap.size 72 5 u (xs.take k).length (rvVs (xs.take k))) (hbW : Below wE.heap.size wE W) => l06JoinC_any u (.slice (some ⟨b, off + (j + 1) * 5, none⟩) (xs.length - (j + 1)) (cap - (j + 1))) (xs.take k) (xs.drop (j + 1)) wE.heap.size W hu (fun W' hb' => (rv_dropD hR (j + 1) hjl).below (hbW.trans hb')) hbW.size l2
              have m1 : k ≤ xs.length := by omega
              have m2 : k ≤ cap := by omega
              have m3 : j + 1 ≤ xs.length := by omega
              have m4 : xs.length ≤ cap := by omega
              generalize xs.take k = TK at *
              generalize xs.drop (j + 1) = DK at *
              generalize TK ++ DK = YS at *
              clear hwE hbel2 hR t1 hkl hjl l1 l2 hown0 HROW HJL HKL HE HE2 HXK hlt hk hk2 i2 hmx hn
              go_wp2
              go_region_held3 (fun W => Below wE.heap.size wE W) (first | with_reducible assumption) ((first | (go_at_call 37; with_reducible refine hj1.mono ?_; rintro e w5 ⟨u5, rfl, ho5, c5⟩; have hb5 : Below wE.heap.size wE w5 := hbA.trans c5; obtain ⟨p5, r5, hv5⟩ := own_sl ho5; subst hv5) | (go_at_call 37; with_reducible refine (hj2 _ w5 ho5 hb5).mono ?_; rintro e w6 ⟨u6, rfl, ho6, c6⟩; have hb6 : Below wE.heap.size wE w6 := hb5.trans c6; obtain ⟨p6, r6, hv6⟩ := own_sl ho6; subst hv6)))
              go_wp2
              go_ret2
              exact ⟨.inr ⟨_, _, HDS.out, rfl, own_base ho6 hbE.size⟩, hbE.trans (hb6.mono hbE.size)⟩
          · obtain ⟨f, hkf⟩ : ∃ f, k = f + 1 := ⟨k - 1, by omega⟩
            obtain ⟨y, hyk⟩ : ∃ y, xs[f]? = some y := ⟨_, List.getElem?_eq_getElem (by omega)⟩
            obtain ⟨o2, ty2, cl2, tt2, da2⟩ := y
            have R1 := HALL.out f _ hyk
            have R2 := HC0.out
            simp only at R1 R2
            have put : ∀ {O : Nat} {z : Value}, w.cell? ⟨b, O, none⟩ = some z → wr.cell? ⟨b, O, none⟩ = some z := fun h => (hbel2.cell (World.block_lt_of_cell? w _ h)).trans h
            have r10 := put R1.1
            have r11 := put R1.2.1
            have r12 := put R1.2.2.1
            have r20 := put R2.1
            have r21 := put R2.2.1
            have r22 := put R2.2.2.1
            have d0 : decide (0 < k) = true := by rw [hkf]; simp
            have k1 : (0 : Int) ≤ (f : Int) := by omega
            have k2 : (f : Int) < (xs.length : Int) := by omega
            have k3 : (k : Int) - 1 = (f : Int) := by omega
            have hwf : IntKind.i64.wrap (f : Int) = (f : Int) := Go.wrap_small _ (by omega) (by omega)
            have hrb : runB ⟨o2, ty2, cl2, tt2, da2⟩ ⟨o, ty, cl, tt, da⟩ = ((o2.toList == o.toList) && ((ty2 == ty) && (cl2 == cl))) := by
              rw [str_eqD, runB]
              by_cases h1 : ty2 = ty <;> by_cases h2 : cl2 = cl <;> simp [h1, h2]
            clear R1 R2 put HALL HC0 hk0
            cases hO : (o2.toList == o.toList) with
            | false =>
              have HE : Hid (frN xs ⟨o, ty, cl, tt, da⟩ j = k) := by show _ = _; rw [HF.out, hkf]; exact frN_no hyk (by rw [hrb, hO]; rfl)
              clear HF hrb hyk hkf
              go_wp2
              go_quiet (fail)
              generalize hwE : World.drewN wr _ = wE
              have hbE : Below w.heap.size w wE := by rw [← hwE]; exact Go.below_drewN hbel2 _
              have hR := HROW.out.below hbE
              have hkl := HKL.out
              have hjl := HJL.out
              have t1 := fun W (hb : Below wE.heap.size wE W) => (rv_takeD hR k (by omega)).below hb
              have l1 : (xs.take k).length ≤ xs.length := by simp; omega
              have l2 : (xs.take k).length + (xs.drop (j + 1)).length ≤ 1048576 := by simp; omega
              have hown0 : (wE.alloc (.cells #[] 72)).drew.ownsRow wE.heap.size 72 5 (.slice (some ⟨wE.heap.size, 0, none⟩) 0 0) 0 [] := World.ownsRow_made (base := wE.heap.size) (size := 5) (e := 72) wE #[] 0 (by simp) (by decide) rfl
              have hbA : Below wE.heap.size wE (wE.alloc (.cells #[] 72)).drew := ((Below.refl wE.heap.size wE).alloc (Nat.le_refl _) _).drew
              have hbD : Below wE.heap.size wE wE.drew := (Below.refl wE.heap.size wE).drew
              have hj1 := l06JoinC_any (.slice (some ⟨wE.heap.size, 0, none⟩) 0 0) (.slice (some ⟨b, off, none⟩) k cap) [] (xs.take k) wE.heap.size (wE.alloc (.cells #[] 72)).drew hown0 (fun W hb => t1 W (hbA.trans hb)) (by simp) (by simp; omega)
              rw [List.nil_append] at hj1
              have n1 : (0 : Int) ≤ (k : Int) := by omega
              have n2 : (k : Int) ≤ (xs.length : Int) := by omega
              have n3 : (k : Int) ≤ (cap : Int) := by omega
              have n4 : (0 : Int) ≤ (j : Int) + 1 := by omega
              have n5 : (j : Int) + 1 ≤ (xs.length : Int) := by omega
              have n6 : (xs.length : Int) ≤ (cap : Int) := by omega
              have HE2 : Hid (xs.take (frN xs ⟨o, ty, cl, tt, da⟩ j) ++ xs.drop (j + 1) = xs.take k ++ xs.drop (j + 1)) := by show _ = _; rw [HE.out]
              rw [HE2.out] at HDS
              by_cases hcj : cap = j + 1
              · have hxe : xs.length = j + 1 := by omega
                have t2 : ∀ W, Below wE.heap.size wE W → CRow W (.slice (some ⟨b, off, none⟩) 0 0) (xs.drop (j + 1)).length 5 (rvVs (xs.drop (j + 1))) := by
                  intro W _
                  rw [List.drop_of_length_le (by omega)]
                  exact ⟨rfl, _, _, rfl, Nat.le_refl _, by decide, fun h => by simp at h⟩
                have hj2 := fun u W (hu : W.ownsRow wE.heap.size 72 5 u (xs.take k).length (rvVs (xs.take k))) (hbW : Below wE.heap.size wE W) => l06JoinC_any u (.slice (some ⟨b, off, none⟩) 0 0) (xs.take k) (xs.drop (j + 1)) wE.heap.size W hu (fun W' hb' => t2 W' (hbW.trans hb')) hbW.size l2
                generalize xs.take k = TK at *
                generalize xs.drop (j + 1) = DK at *
                generalize TK ++ DK = YS at *
                have HX := Nm.hide hxe
                rw [hxe]
                rw [hxe] at n2 n5 n6
                clear hwE hbel2 hR t1 t2 hkl hjl l1 l2 hown0 hxe HROW HJL HKL HE HE2 HXK hlt hk hk2 i2 hcap hmx hn
                subst hcj
                have m1 : (k : Int) ≤ (j : Int) + 1 := by omega
                have m2 : k ≤ j + 1 := by omega
                go_wp2
                go_region_held3 (fun W => Below wE.heap.size wE W) (first | with_reducible assumption) ((first | (go_at_call 37; with_reducible refine hj1.mono ?_; rintro e w5 ⟨u5, rfl, ho5, c5⟩; have hb5 : Below wE.heap.size wE w5 := hbA.trans c5; obtain ⟨p5, r5, hv5⟩ := own_sl ho5; subst hv5) | (go_at_call 37; with_reducible refine (hj2 _ w5 ho5 hb5).mono ?_; rintro e w6 ⟨u6, rfl, ho6, c6⟩; have hb6 : Below wE.heap.size wE w6 := hb5.trans c6; obtain ⟨p6, r6, hv6⟩ := own_sl ho6; subst hv6)))
                go_wp2
                go_ret2
                exact ⟨.inr ⟨_, _, HDS.out, rfl, own_base ho6 hbE.size⟩, hbE.trans (hb6.mono hbE.size)⟩
              · have hj2 := fun u W (hu : W.ownsRow wE.heap.size 72 5 u (xs.take k).length (rvVs (xs.take k))) (hbW : Below wE.heap.size wE W) => l06JoinC_any u (.slice (some ⟨b, off + (j + 1) * 5, none⟩) (xs.length - (j + 1)) (cap - (j + 1))) (xs.take k) (xs.drop (j + 1)) wE.heap.size W hu (fun W' hb' => (rv_dropD hR (j + 1) hjl).below (hbW.trans hb')) hbW.size l2
                have m1 : k ≤ xs.length := by omega
                have m2 : k ≤ cap := by omega
                have m3 : j + 1 ≤ xs.length := by omega
                have m4 : xs.length ≤ cap := by omega
                generalize xs.take k = TK at *
                generalize xs.drop (j + 1) = DK at *
                generalize TK ++ DK = YS at *
                clear hwE hbel2 hR t1 hkl hjl l1 l2 hown0 HROW HJL HKL HE HE2 HXK hlt hk hk2 i2 hmx hn
                go_wp2
                go_region_held3 (fun W => Below wE.heap.size wE W) (first | with_reducible assumption) ((first | (go_at_call 37; with_reducible refine hj1.mono ?_; rintro e w5 ⟨u5, rfl, ho5, c5⟩; have hb5 : Below wE.heap.size wE w5 := hbA.trans c5; obtain ⟨p5, r5, hv5⟩ := own_sl ho5; subst hv5) | (go_at_call 37; with_reducible refine (hj2 _ w5 ho5 hb5).mono ?_; rintro e w6 ⟨u6, rfl, ho6, c6⟩; have hb6 : Below wE.heap.size wE w6 := hb5.trans c6; obtain ⟨p6, r6, hv6⟩ := own_sl ho6; subst hv6)))
                go_wp2
                go_ret2
                exact ⟨.inr ⟨_, _, HDS.out, rfl, own_base ho6 hbE.size⟩, hbE.trans (hb6.mono hbE.size)⟩
            | true =>
              cases hT : (ty2 == ty) with
              | false =>
                have HE : Hid (frN xs ⟨o, ty, cl, tt, da⟩ j = k) := by show _ = _; rw [HF.out, hkf]; exact frN_no hyk (by rw [hrb, hO, hT]; rfl)
                clear HF hrb hyk hkf
                go_wp2
                go_quiet (fail)
                generalize hwE : World.drewN wr _ = wE
                have hbE : Below w.heap.size w wE := by rw [← hwE]; exact Go.below_drewN hbel2 _
                have hR := HROW.out.below hbE
                have hkl := HKL.out
                have hjl := HJL.out
                have t1 := fun W (hb : Below wE.heap.size wE W) => (rv_takeD hR k (by omega)).below hb
                have l1 : (xs.take k).length ≤ xs.length := by simp; omega
                have l2 : (xs.take k).length + (xs.drop (j + 1)).length ≤ 1048576 := by simp; omega
                have hown0 : (wE.alloc (.cells #[] 72)).drew.ownsRow wE.heap.size 72 5 (.slice (some ⟨wE.heap.size, 0, none⟩) 0 0) 0 [] := World.ownsRow_made (base := wE.heap.size) (size := 5) (e := 72) wE #[] 0 (by simp) (by decide) rfl
                have hbA : Below wE.heap.size wE (wE.alloc (.cells #[] 72)).drew := ((Below.refl wE.heap.size wE).alloc (Nat.le_refl _) _).drew
                have hbD : Below wE.heap.size wE wE.drew := (Below.refl wE.heap.size wE).drew
                have hj1 := l06JoinC_any (.slice (some ⟨wE.heap.size, 0, none⟩) 0 0) (.slice (some ⟨b, off, none⟩) k cap) [] (xs.take k) wE.heap.size (wE.alloc (.cells #[] 72)).drew hown0 (fun W hb => t1 W (hbA.trans hb)) (by simp) (by simp; omega)
                rw [List.nil_append] at hj1
                have n1 : (0 : Int) ≤ (k : Int) := by omega
                have n2 : (k : Int) ≤ (xs.length : Int) := by omega
                have n3 : (k : Int) ≤ (cap : Int) := by omega
                have n4 : (0 : Int) ≤ (j : Int) + 1 := by omega
                have n5 : (j : Int) + 1 ≤ (xs.length : Int) := by omega
                have n6 : (xs.length : Int) ≤ (cap : Int) := by omega
                have HE2 : Hid (xs.take (frN xs ⟨o, ty, cl, tt, da⟩ j) ++ xs.drop (j + 1) = xs.take k ++ xs.drop (j + 1)) := by show _ = _; rw [HE.out]
                rw [HE2.out] at HDS
                by_cases hcj : cap = j + 1
                · have hxe : xs.length = j + 1 := by omega
                  have t2 : ∀ W, Below wE.heap.size wE W → CRow W (.slice (some ⟨b, off, none⟩) 0 0) (xs.drop (j + 1)).length 5 (rvVs (xs.drop (j + 1))) := by
                    intro W _
                    rw [List.drop_of_length_le (by omega)]
                    exact ⟨rfl, _, _, rfl, Nat.le_refl _, by decide, fun h => by simp at h⟩
                  have hj2 := fun u W (hu : W.ownsRow wE.heap.size 72 5 u (xs.take k).length (rvVs (xs.take k))) (hbW : Below wE.heap.size wE W) => l06JoinC_any u (.slice (some ⟨b, off, none⟩) 0 0) (xs.take k) (xs.drop (j + 1)) wE.heap.size W hu (fun W' hb' => t2 W' (hbW.trans hb')) hbW.size l2
                  generalize xs.take k = TK at *
                  generalize xs.drop (j + 1) = DK at *
                  generalize TK ++ DK = YS at *
                  have HX := Nm.hide hxe
                  rw [hxe]
                  rw [hxe] at n2 n5 n6
                  clear hwE hbel2 hR t1 t2 hkl hjl l1 l2 hown0 hxe HROW HJL HKL HE HE2 HXK hlt hk hk2 i2 hcap hmx hn
                  subst hcj
                  have m1 : (k : Int) ≤ (j : Int) + 1 := by omega
                  have m2 : k ≤ j + 1 := by omega
                  go_wp2
                  go_region_held3 (fun W => Below wE.heap.size wE W) (first | with_reducible assumption) ((first | (go_at_call 37; with_reducible refine hj1.mono ?_; rintro e w5 ⟨u5, rfl, ho5, c5⟩; have hb5 : Below wE.heap.size wE w5 := hbA.trans c5; obtain ⟨p5, r5, hv5⟩ := own_sl ho5; subst hv5) | (go_at_call 37; with_reducible refine (hj2 _ w5 ho5 hb5).mono ?_; rintro e w6 ⟨u6, rfl, ho6, c6⟩; have hb6 : Below wE.heap.size wE w6 := hb5.trans c6; obtain ⟨p6, r6, hv6⟩ := own_sl ho6; subst hv6)))
                  go_wp2
                  go_ret2
                  exact ⟨.inr ⟨_, _, HDS.out, rfl, own_base ho6 hbE.size⟩, hbE.trans (hb6.mono hbE.size)⟩
                · have hj2 := fun u W (hu : W.ownsRow wE.heap.size 72 5 u (xs.take k).length (rvVs (xs.take k))) (hbW : Below wE.heap.size wE W) => l06JoinC_any u (.slice (some ⟨b, off + (j + 1) * 5, none⟩) (xs.length - (j + 1)) (cap - (j + 1))) (xs.take k) (xs.drop (j + 1)) wE.heap.size W hu (fun W' hb' => (rv_dropD hR (j + 1) hjl).below (hbW.trans hb')) hbW.size l2
                  have m1 : k ≤ xs.length := by omega
                  have m2 : k ≤ cap := by omega
                  have m3 : j + 1 ≤ xs.length := by omega
                  have m4 : xs.length ≤ cap := by omega
                  generalize xs.take k = TK at *
                  generalize xs.drop (j + 1) = DK at *
                  generalize TK ++ DK = YS at *
                  clear hwE hbel2 hR t1 hkl hjl l1 l2 hown0 HROW HJL HKL HE HE2 HXK hlt hk hk2 i2 hmx hn
                  go_wp2
                  go_region_held3 (fun W => Below wE.heap.size wE W) (first | with_reducible assumption) ((first | (go_at_call 37; with_reducible refine hj1.mono ?_; rintro e w5 ⟨u5, rfl, ho5, c5⟩; have hb5 : Below wE.heap.size wE w5 := hbA.trans c5; obtain ⟨p5, r5, hv5⟩ := own_sl ho5; subst hv5) | (go_at_call 37; with_reducible refine (hj2 _ w5 ho5 hb5).mono ?_; rintro e w6 ⟨u6, rfl, ho6, c6⟩; have hb6 : Below wE.heap.size wE w6 := hb5.trans c6; obtain ⟨p6, r6, hv6⟩ := own_sl ho6; subst hv6)))
                  go_wp2
                  go_ret2
                  exact ⟨.inr ⟨_, _, HDS.out, rfl, own_base ho6 hbE.size⟩, hbE.trans (hb6.mono hbE.size)⟩
              | true =>
                cases hC : (cl2 == cl) with
                | false =>
                  have HE : Hid (frN xs ⟨o, ty, cl, tt, da⟩ j = k) := by show _ = _; rw [HF.out, hkf]; exact frN_no hyk (by rw [hrb, hO, hT, hC]; rfl)
                  clear HF hrb hyk hkf
                  go_wp2
                  go_quiet (fail)
                  generalize hwE : World.drewN wr _ = wE
                  have hbE : Below w.heap.size w wE := by rw [← hwE]; exact Go.below_drewN hbel2 _
                  have hR := HROW.out.below hbE
                  have hkl := HKL.out
                  have hjl := HJL.out
                  have t1 := fun W (hb : Below wE.heap.size wE W) => (rv_takeD hR k (by omega)).below hb
                  have l1 : (xs.take k).length ≤ xs.length := by simp; omega
                  have l2 : (xs.take k).length + (xs.drop (j + 1)).length ≤ 1048576 := by simp; omega
                  have hown0 : (wE.alloc (.cells #[] 72)).drew.ownsRow wE.heap.size 72 5 (.slice (some ⟨wE.heap.size, 0, none⟩) 0 0) 0 [] := World.ownsRow_made (base := wE.heap.size) (size := 5) (e := 72) wE #[] 0 (by simp) (by decide) rfl
                  have hbA : Below wE.heap.size wE (wE.alloc (.cells #[] 72)).drew := ((Below.refl wE.heap.size wE).alloc (Nat.le_refl _) _).drew
                  have hbD : Below wE.heap.size wE wE.drew := (Below.refl wE.heap.size wE).drew
                  have hj1 := l06JoinC_any (.slice (some ⟨wE.heap.size, 0, none⟩) 0 0) (.slice (some ⟨b, off, none⟩) k cap) [] (xs.take k) wE.heap.size (wE.alloc (.cells #[] 72)).drew hown0 (fun W hb => t1 W (hbA.trans hb)) (by simp) (by simp; omega)
                  rw [List.nil_append] at hj1
                  have n1 : (0 : Int) ≤ (k : Int) := by omega
                  have n2 : (k : Int) ≤ (xs.length : Int) := by omega
                  have n3 : (k : Int) ≤ (cap : Int) := by omega
                  have n4 : (0 : Int) ≤ (j : Int) + 1 := by omega
                  have n5 : (j : Int) + 1 ≤ (xs.length : Int) := by omega
                  have n6 : (xs.length : Int) ≤ (cap : Int) := by omega
                  have HE2 : Hid (xs.take (frN xs ⟨o, ty, cl, tt, da⟩ j) ++ xs.drop (j + 1) = xs.take k ++ xs.drop (j + 1)) := by show _ = _; rw [HE.out]
                  rw [HE2.out] at HDS
                  by_cases hcj : cap = j + 1
                  · have hxe : xs.length = j + 1 := by omega
                    have t2 : ∀ W, Below wE.heap.size wE W → CRow W (.slice (some ⟨b, off, none⟩) 0 0) (xs.drop (j + 1)).length 5 (rvVs (xs.drop (j + 1))) := by
                      intro W _
                      rw [List.drop_of_length_le (by omega)]
                      exact ⟨rfl, _, _, rfl, Nat.le_refl _, by decide, fun h => by simp at h⟩
                    have hj2 := fun u W (hu : W.ownsRow wE.heap.size 72 5 u (xs.take k).length (rvVs (xs.take k))) (hbW : Below wE.heap.size wE W) => l06JoinC_any u (.slice (some ⟨b, off, none⟩) 0 0) (xs.take k) (xs.drop (j + 1)) wE.heap.size W hu (fun W' hb' => t2 W' (hbW.trans hb')) hbW.size l2
                    generalize xs.take k = TK at *
                    generalize xs.drop (j + 1) = DK at *
                    generalize TK ++ DK = YS at *
                    have HX := Nm.hide hxe
                    rw [hxe]
                    rw [hxe] at n2 n5 n6
                    clear hwE hbel2 hR t1 t2 hkl hjl l1 l2 hown0 hxe HROW HJL HKL HE HE2 HXK hlt hk hk2 i2 hcap hmx hn
                    subst hcj
                    have m1 : (k : Int) ≤ (j : Int) + 1 := by omega
                    have m2 : k ≤ j + 1 := by omega
                    go_wp2
                    go_region_held3 (fun W => Below wE.heap.size wE W) (first | with_reducible assumption) ((first | (go_at_call 37; with_reducible refine hj1.mono ?_; rintro e w5 ⟨u5, rfl, ho5, c5⟩; have hb5 : Below wE.heap.size wE w5 := hbA.trans c5; obtain ⟨p5, r5, hv5⟩ := own_sl ho5; subst hv5) | (go_at_call 37; with_reducible refine (hj2 _ w5 ho5 hb5).mono ?_; rintro e w6 ⟨u6, rfl, ho6, c6⟩; have hb6 : Below wE.heap.size wE w6 := hb5.trans c6; obtain ⟨p6, r6, hv6⟩ := own_sl ho6; subst hv6)))
                    go_wp2
                    go_ret2
                    exact ⟨.inr ⟨_, _, HDS.out, rfl, own_base ho6 hbE.size⟩, hbE.trans (hb6.mono hbE.size)⟩
                  · have hj2 := fun u W (hu : W.ownsRow wE.heap.size 72 5 u (xs.take k).length (rvVs (xs.take k))) (hbW : Below wE.heap.size wE W) => l06JoinC_any u (.slice (some ⟨b, off + (j + 1) * 5, none⟩) (xs.length - (j + 1)) (cap - (j + 1))) (xs.take k) (xs.drop (j + 1)) wE.heap.size W hu (fun W' hb' => (rv_dropD hR (j + 1) hjl).below (hbW.trans hb')) hbW.size l2
                    have m1 : k ≤ xs.length := by omega
                    have m2 : k ≤ cap := by omega
                    have m3 : j + 1 ≤ xs.length := by omega
                    have m4 : xs.length ≤ cap := by omega
                    generalize xs.take k = TK at *
                    generalize xs.drop (j + 1) = DK at *
                    generalize TK ++ DK = YS at *
                    clear hwE hbel2 hR t1 hkl hjl l1 l2 hown0 HROW HJL HKL HE HE2 HXK hlt hk hk2 i2 hmx hn
                    go_wp2
                    go_region_held3 (fun W => Below wE.heap.size wE W) (first | with_reducible assumption) ((first | (go_at_call 37; with_reducible refine hj1.mono ?_; rintro e w5 ⟨u5, rfl, ho5, c5⟩; have hb5 : Below wE.heap.size wE w5 := hbA.trans c5; obtain ⟨p5, r5, hv5⟩ := own_sl ho5; subst hv5) | (go_at_call 37; with_reducible refine (hj2 _ w5 ho5 hb5).mono ?_; rintro e w6 ⟨u6, rfl, ho6, c6⟩; have hb6 : Below wE.heap.size wE w6 := hb5.trans c6; obtain ⟨p6, r6, hv6⟩ := own_sl ho6; subst hv6)))
                    go_wp2
                    go_ret2
                    exact ⟨.inr ⟨_, _, HDS.out, rfl, own_base ho6 hbE.size⟩, hbE.trans (hb6.mono hbE.size)⟩
                | true =>
                  have HE : Hid (frN xs ⟨o, ty, cl, tt, da⟩ j = frN xs ⟨o, ty, cl, tt, da⟩ f) := by show _ = _; rw [HF.out, hkf]; exact frN_yes hyk (by rw [hrb, hO, hT, hC]; rfl)
                  have HKF := Nm.hide hkf
                  clear HF hrb hyk hkf
                  go_wp2
                  go_quiet (fail)
                  go_wp2
                  go_roundw
                  case rel => exact ⟨f, by have := HKF.out; have := HKL.out; omega, by go_num, HE, Go.below_drewN hbel2 _⟩
                  case measure => have := HKF.out; simp [intOf]; omega

set_option maxRecDepth 100000 in
set_option maxHeartbeats 6400000 in
theorem l13Drop_off (v : Value) (xs : List Rr) (w : World) (h : CRow w v xs.length 5 (rvVs xs)) (hn : xs.length ≤ 1048576) :
    Calls Tryz.prog 36 #[v, .bool false] w (SdPost isN v xs w) := by
  obtain ⟨a, cap, rfl⟩ : ∃ a cap, v = .slice a xs.length cap := by obtain ⟨_, a, c, e, _⟩ := h; exact ⟨a, c, e⟩
  have hrow := h
  obtain ⟨_, a', cap', e0, hcap, hmx, hc⟩ := h
  simp only [Value.slice.injEq] at e0
  obtain ⟨rfl, _, rfl⟩ := e0
  unfold maxLen at hmx
  go_enter Tryz.func36, Tryz.ntmps36
  go_wp2
  go_loopw [6] (fun t wr => ∃ k : Nat, k ≤ xs.length ∧ t = .int .i64 k ∧ Hid (tdN isN xs xs.length = tdN isN xs k) ∧ Below w.heap.size w wr) (fun t _ => (intOf t).toNat)
  case atStart => exact ⟨xs.length, Nat.le_refl _, rfl, rfl, Below.refl _ _⟩
  case round =>
    obtain ⟨k, hk, rfl, HT, hbel⟩ := hrel
    cases k with
    | zero =>
      have HD : Hid (dropS isN xs = none) := dropS_noneD HT.out
      clear hc HT hrow
      go_wp2
      go_ret2
      exact ⟨.inl ⟨HD.out, rfl⟩, hbel⟩
    | succ j =>
      have hlt : j < xs.length := by omega
      obtain ⟨x, hxk⟩ : ∃ x, xs[j]? = some x := ⟨_, List.getElem?_eq_getElem hlt⟩
      obtain ⟨b, off, rfl, hcell⟩ := hc (by omega)
      have hall := fun (i : Nat) (y : Rr) (hy : xs[i]? = some y) => rv_cells hcell hy
      have HALL := Nm.hide hall
      have HC0 := Nm.hide (rv_cells hcell hxk)
      obtain ⟨c0, c1, c2, c3, c4⟩ := rv_cells hcell hxk
      have put : ∀ {O : Nat} {z : Value}, w.cell? ⟨b, O, none⟩ = some z → wr.cell? ⟨b, O, none⟩ = some z := fun h => (hbel.cell (World.block_lt_of_cell? w _ h)).trans h
      replace c1 := put c1
      have i0 : (0 : Int) < ((j + 1 : Nat) : Int) := by omega
      have i1 : (0 : Int) ≤ (j : Int) := by omega
      have i2 : (j : Int) < (xs.length : Int) := by omega
      have i3 : ((j + 1 : Nat) : Int) - 1 = (j : Int) := by omega
      have i4 : ((j : Int) + 1 == 0) = false := by simpa using (by omega : ¬ (j : Int) + 1 = 0)
      have hwj : IntKind.i64.wrap (j : Int) = (j : Int) := Go.wrap_small _ (by omega) (by omega)
      have HXK := Nm.hide hxk
      cases hok : isN x with
      | true =>
        have HT2 : Hid (tdN isN xs xs.length = tdN isN xs j) := HT.out.trans (tdN_yes hxk hok)
        cases hok
      | false =>
        have HT2 : Hid (tdN isN xs xs.length = j + 1) := HT.out.trans (tdN_no hxk hok)
        have HDS : Hid (dropS isN xs = some (xs.take (frN xs x j) ++ xs.drop (j + 1))) := dropS_someD HT2.out HXK.out
        clear hok
        have HROW := Nm.hide hrow
        have HJL : Hid (j + 1 ≤ xs.length) := hk
        clear hxk hcell put hc hall hrow c0 c2 c3 c4 HT HT2
        obtain ⟨o, ty, cl, tt, da⟩ := x
        simp only at *
        go_wp2
        clear c1
        go_loopw [7] (fun t wr2 => ∃ k : Nat, k ≤ j ∧ t = .int .i64 k ∧ Hid (frN xs ⟨o, ty, cl, tt, da⟩ j = frN xs ⟨o, ty, cl, tt, da⟩ k) ∧ Below w.heap.size w wr2) (fun t _ => (intOf t).toNat)
        case atStart => exact ⟨j, Nat.le_refl _, by first | rfl | (go_num), rfl, hbel⟩
        case round =>
          clear hbel
          obtain ⟨k, hk2, rfl, HF, hbel2⟩ := hrel
          have HKL : Hid (k ≤ j) := hk2
          by_cases hk0 : k = 0
          · have HE : Hid (frN xs ⟨o, ty, cl, tt, da⟩ j = k) := by show _ = _; rw [HF.out, hk0]; rfl
            have d0 : decide (0 < k) = false := by rw [hk0]; rfl
            clear HF HALL HC0 hk0
            go_wp2
            go_quiet (fail)
            generalize hwE : World.drewN wr _ = wE
            have hbE : Below w.heap.size w wE := by rw [← hwE]; exact Go.below_drewN hbel2 _
            have hR := HROW.out.below hbE
            have hkl := HKL.out
            have hjl := HJL.out
            have t1 := fun W (hb : Below wE.heap.size wE W) => (rv_takeD hR k (by omega)).below hb
            have l1 : (xs.take k).length ≤ xs.length := by simp; omega
            have l2 : (xs.take k).length + (xs.drop (j + 1)).length ≤ 1048576 := by simp; omega
            have hown0 : (wE.alloc (.cells #[] 72)).drew.ownsRow wE.heap.size 72 5 (.slice (some ⟨wE.heap.size, 0, none⟩) 0 0) 0 [] := World.ownsRow_made (base := wE.heap.size) (size := 5) (e := 72) wE #[] 0 (by simp) (by decide) rfl
            have hbA : Below wE.heap.size wE (wE.alloc (.cells #[] 72)).drew := ((Below.refl wE.heap.size wE).alloc (Nat.le_refl _) _).drew
            have hbD : Below wE.heap.size wE wE.drew := (Below.refl wE.heap.size wE).drew
            have hj1 := l06JoinC_any (.slice (some ⟨wE.heap.size, 0, none⟩) 0 0) (.slice (some ⟨b, off, none⟩) k cap) [] (xs.take k) wE.heap.size (wE.alloc (.cells #[] 72)).drew hown0 (fun W hb => t1 W (hbA.trans hb)) (by simp) (by simp; omega)
            rw [List.nil_append] at hj1
            have n1 : (0 : Int) ≤ (k : Int) := by omega
            have n2 : (k : Int) ≤ (xs.length : Int) := by omega
            have n3 : (k : Int) ≤ (cap : Int) := by omega
            have n4 : (0 : Int) ≤ (j : Int) + 1 := by omega
            have n5 : (j : Int) + 1 ≤ (xs.length : Int) := by omega
            have n6 : (xs.length : Int) ≤ (cap : Int) := by omega
            have HE2 : Hid (xs.take (frN xs ⟨o, ty, cl, tt, da⟩ j) ++ xs.drop (j + 1) = xs.take k ++ xs.drop (j + 1)) := by show _ = _; rw [HE.out]
            rw [HE2.out] at HDS
            by_cases hcj : cap = j + 1
            · have hxe : xs.length = j + 1 := by omega
              have t2 : ∀ W, Below wE.heap.size wE W → CRow W (.slice (some ⟨b, off, none⟩) 0 0) (xs.drop (j + 1)).length 5 (rvVs (xs.drop (j + 1))) := by
                intro W _
                rw [List.drop_of_length_le (by omega)]
                exact ⟨rfl, _, _, rfl, Nat.le_refl _, by decide, fun h => by simp at h⟩
              have hj2 := fun u W (hu : W.ownsRow wE.heap.size 72 5 u (xs.take k).length (rvVs (xs.take k))) (hbW : Below wE.heap.size wE W) => l06JoinC_any u (.slice (some ⟨b, off, none⟩) 0 0) (xs.take k) (xs.drop (j + 1)) wE.heap.size W hu (fun W' hb' => t2 W' (hbW.trans hb')) hbW.size l2
              generalize xs.take k = TK at *
              generalize xs.drop (j + 1) = DK at *
              generalize TK ++ DK = YS at *
              have HX := Nm.hide hxe
              rw [hxe]
              rw [hxe] at n2 n5 n6
              clear hwE hbel2 hR t1 t2 hkl hjl l1 l2 hown0 hxe HROW HJL HKL HE HE2 HXK hlt hk hk2 i2 hcap hmx hn
              subst hcj
              have m1 : (k : Int) ≤ (j : Int) + 1 := by omega
              have m2 : k ≤ j + 1 := by omega
              go_wp2
              go_region_held3 (fun W => Below wE.heap.size wE W) (first | with_reducible assumption) ((first | (go_at_call 37; with_reducible refine hj1.mono ?_; rintro e w5 ⟨u5, rfl, ho5, c5⟩; have hb5 : Below wE.heap.size wE w5 := hbA.trans c5; obtain ⟨p5, r5, hv5⟩ := own_sl ho5; subst hv5) | (go_at_call 37; with_reducible refine (hj2 _ w5 ho5 hb5).mono ?_; rintro e w6 ⟨u6, rfl, ho6, c6⟩; have hb6 : Below wE.heap.size wE w6 := hb5.trans c6; obtain ⟨p6, r6, hv6⟩ := own_sl ho6; subst hv6)))
              go_wp2
              go_ret2
              exact ⟨.inr ⟨_, _, HDS.out, rfl, own_base ho6 hbE.size⟩, hbE.trans (hb6.mono hbE.size)⟩
            · have hj2 := fun u W (hu : W.ownsRow wE.heap.size 72 5 u (xs.take k).length (rvVs (xs.take k))) (hbW : Below wE.heap.size wE W) => l06JoinC_any u (.slice (some ⟨b, off + (j + 1) * 5, none⟩) (xs.length - (j + 1)) (cap - (j + 1))) (xs.take k) (xs.drop (j + 1)) wE.heap.size W hu (fun W' hb' => (rv_dropD hR (j + 1) hjl).below (hbW.trans hb')) hbW.size l2
              have m1 : k ≤ xs.length := by omega
              have m2 : k ≤ cap := by omega
              have m3 : j + 1 ≤ xs.length := by omega
              have m4 : xs.length ≤ cap := by omega
              generalize xs.take k = TK at *
              generalize xs.drop (j + 1) = DK at *
              generalize TK ++ DK = YS at *
              clear hwE hbel2 hR t1 hkl hjl l1 l2 hown0 HROW HJL HKL HE HE2 HXK hlt hk hk2 i2 hmx hn
              go_wp2
              go_region_held3 (fun W => Below wE.heap.size wE W) (first | with_reducible assumption) ((first | (go_at_call 37; with_reducible refine hj1.mono ?_; rintro e w5 ⟨u5, rfl, ho5, c5⟩; have hb5 : Below wE.heap.size wE w5 := hbA.trans c5; obtain ⟨p5, r5, hv5⟩ := own_sl ho5; subst hv5) | (go_at_call 37; with_reducible refine (hj2 _ w5 ho5 hb5).mono ?_; rintro e w6 ⟨u6, rfl, ho6, c6⟩; have hb6 : Below wE.heap.size wE w6 := hb5.trans c6; obtain ⟨p6, r6, hv6⟩ := own_sl ho6; subst hv6)))
              go_wp2
              go_ret2
              exact ⟨.inr ⟨_, _, HDS.out, rfl, own_base ho6 hbE.size⟩, hbE.trans (hb6.mono hbE.size)⟩
          · obtain ⟨f, hkf⟩ : ∃ f, k = f + 1 := ⟨k - 1, by omega⟩
            obtain ⟨y, hyk⟩ : ∃ y, xs[f]? = some y := ⟨_, List.getElem?_eq_getElem (by omega)⟩
            obtain ⟨o2, ty2, cl2, tt2, da2⟩ := y
            have R1 := HALL.out f _ hyk
            have R2 := HC0.out
            simp only at R1 R2
            have put : ∀ {O : Nat} {z : Value}, w.cell? ⟨b, O, none⟩ = some z → wr.cell? ⟨b, O, none⟩ = some z := fun h => (hbel2.cell (World.block_lt_of_cell? w _ h)).trans h
            have r10 := put R1.1
            have r11 := put R1.2.1
            have r12 := put R1.2.2.1
            have r20 := put R2.1
            have r21 := put R2.2.1
            have r22 := put R2.2.2.1
            have d0 : decide (0 < k) = true := by rw [hkf]; simp
            have k1 : (0 : Int) ≤ (f : Int) := by omega
            have k2 : (f : Int) < (xs.length : Int) := by omega
            have k3 : (k : Int) - 1 = (f : Int) := by omega
            have hwf : IntKind.i64.wrap (f : Int) = (f : Int) := Go.wrap_small _ (by omega) (by omega)
            have hrb : runB ⟨o2, ty2, cl2, tt2, da2⟩ ⟨o, ty, cl, tt, da⟩ = ((o2.toList == o.toList) && ((ty2 == ty) && (cl2 == cl))) := by
              rw [str_eqD, runB]
              by_cases h1 : ty2 = ty <;> by_cases h2 : cl2 = cl <;> simp [h1, h2]
            clear R1 R2 put HALL HC0 hk0
            cases hO : (o2.toList == o.toList) with
            | false =>
              have HE : Hid (frN xs ⟨o, ty, cl, tt, da⟩ j = k) := by show _ = _; rw [HF.out, hkf]; exact frN_no hyk (by rw [hrb, hO]; rfl)
              clear HF hrb hyk hkf
              go_wp2
              go_quiet (fail)
              generalize hwE : World.drewN wr _ = wE
              have hbE : Below w.heap.size w wE := by rw [← hwE]; exact Go.below_drewN hbel2 _
              have hR := HROW.out.below hbE
              have hkl := HKL.out
              have hjl := HJL.out
              have t1 := fun W (hb : Below wE.heap.size wE W) => (rv_takeD hR k (by omega)).below hb
              have l1 : (xs.take k).length ≤ xs.length := by simp; omega
              have l2 : (xs.take k).length + (xs.drop (j + 1)).length ≤ 1048576 := by simp; omega
              have hown0 : (wE.alloc (.cells #[] 72)).drew.ownsRow wE.heap.size 72 5 (.slice (some ⟨wE.heap.size, 0, none⟩) 0 0) 0 [] := World.ownsRow_made (base := wE.heap.size) (size := 5) (e := 72) wE #[] 0 (by simp) (by decide) rfl
              have hbA : Below wE.heap.size wE (wE.alloc (.cells #[] 72)).drew := ((Below.refl wE.heap.size wE).alloc (Nat.le_refl _) _).drew
              have hbD : Below wE.heap.size wE wE.drew := (Below.refl wE.heap.size wE).drew
              have hj1 := l06JoinC_any (.slice (some ⟨wE.heap.size, 0, none⟩) 0 0) (.slice (some ⟨b, off, none⟩) k cap) [] (xs.take k) wE.heap.size (wE.alloc (.cells #[] 72)).drew hown0 (fun W hb => t1 W (hbA.trans hb)) (by simp) (by simp; omega)
              rw [List.nil_append] at hj1
              have n1 : (0 : Int) ≤ (k : Int) := by omega
              have n2 : (k : Int) ≤ (xs.length : Int) := by omega
              have n3 : (k : Int) ≤ (cap : Int) := by omega
              have n4 : (0 : Int) ≤ (j : Int) + 1 := by omega
              have n5 : (j : Int) + 1 ≤ (xs.length : Int) := by omega
              have n6 : (xs.length : Int) ≤ (cap : Int) := by omega
              have HE2 : Hid (xs.take (frN xs ⟨o, ty, cl, tt, da⟩ j) ++ xs.drop (j + 1) = xs.take k ++ xs.drop (j + 1)) := by show _ = _; rw [HE.out]
              rw [HE2.out] at HDS
              by_cases hcj : cap = j + 1
              · have hxe : xs.length = j + 1 := by omega
                have t2 : ∀ W, Below wE.heap.size wE W → CRow W (.slice (some ⟨b, off, none⟩) 0 0) (xs.drop (j + 1)).length 5 (rvVs (xs.drop (j + 1))) := by
                  intro W _
                  rw [List.drop_of_length_le (by omega)]
                  exact ⟨rfl, _, _, rfl, Nat.le_refl _, by decide, fun h => by simp at h⟩
                have hj2 := fun u W (hu : W.ownsRow wE.heap.size 72 5 u (xs.take k).length (rvVs (xs.take k))) (hbW : Below wE.heap.size wE W) => l06JoinC_any u (.slice (some ⟨b, off, none⟩) 0 0) (xs.take k) (xs.drop (j + 1)) wE.heap.size W hu (fun W' hb' => t2 W' (hbW.trans hb')) hbW.size l2
                generalize xs.take k = TK at *
                generalize xs.drop (j + 1) = DK at *
                generalize TK ++ DK = YS at *
                have HX := Nm.hide hxe
                rw [hxe]
                rw [hxe] at n2 n5 n6
                clear hwE hbel2 hR t1 t2 hkl hjl l1 l2 hown0 hxe HROW HJL HKL HE HE2 HXK hlt hk hk2 i2 hcap hmx hn
                subst hcj
                have m1 : (k : Int) ≤ (j : Int) + 1 := by omega
                have m2 : k ≤ j + 1 := by omega
                go_wp2
                go_region_held3 (fun W => Below wE.heap.size wE W) (first | with_reducible assumption) ((first | (go_at_call 37; with_reducible refine hj1.mono ?_; rintro e w5 ⟨u5, rfl, ho5, c5⟩; have hb5 : Below wE.heap.size wE w5 := hbA.trans c5; obtain ⟨p5, r5, hv5⟩ := own_sl ho5; subst hv5) | (go_at_call 37; with_reducible refine (hj2 _ w5 ho5 hb5).mono ?_; rintro e w6 ⟨u6, rfl, ho6, c6⟩; have hb6 : Below wE.heap.size wE w6 := hb5.trans c6; obtain ⟨p6, r6, hv6⟩ := own_sl ho6; subst hv6)))
                go_wp2
                go_ret2
                exact ⟨.inr ⟨_, _, HDS.out, rfl, own_base ho6 hbE.size⟩, hbE.trans (hb6.mono hbE.size)⟩
              · have hj2 := fun u W (hu : W.ownsRow wE.heap.size 72 5 u (xs.take k).length (rvVs (xs.take k))) (hbW : Below wE.heap.size wE W) => l06JoinC_any u (.slice (some ⟨b, off + (j + 1) * 5, none⟩) (xs.length - (j + 1)) (cap - (j + 1))) (xs.take k) (xs.drop (j + 1)) wE.heap.size W hu (fun W' hb' => (rv_dropD hR (j + 1) hjl).below (hbW.trans hb')) hbW.size l2
                have m1 : k ≤ xs.length := by omega
                have m2 : k ≤ cap := by omega
                have m3 : j + 1 ≤ xs.length := by omega
                have m4 : xs.length ≤ cap := by omega
                generalize xs.take k = TK at *
                generalize xs.drop (j + 1) = DK at *
                generalize TK ++ DK = YS at *
                clear hwE hbel2 hR t1 hkl hjl l1 l2 hown0 HROW HJL HKL HE HE2 HXK hlt hk hk2 i2 hmx hn
                go_wp2
                go_region_held3 (fun W => Below wE.heap.size wE W) (first | with_reducible assumption) ((first | (go_at_call 37; with_reducible refine hj1.mono ?_; rintro e w5 ⟨u5, rfl, ho5, c5⟩; have hb5 : Below wE.heap.size wE w5 := hbA.trans c5; obtain ⟨p5, r5, hv5⟩ := own_sl ho5; subst hv5) | (go_at_call 37; with_reducible refine (hj2 _ w5 ho5 hb5).mono ?_; rintro e w6 ⟨u6, rfl, ho6, c6⟩; have hb6 : Below wE.heap.size wE w6 := hb5.trans c6; obtain ⟨p6, r6, hv6⟩ := own_sl ho6; subst hv6)))
                go_wp2
                go_ret2
                exact ⟨.inr ⟨_, _, HDS.out, rfl, own_base ho6 hbE.size⟩, hbE.trans (hb6.mono hbE.size)⟩
            | true =>
              cases hT : (ty2 == ty) with
              | false =>
                have HE : Hid (frN xs ⟨o, ty, cl, tt, da⟩ j = k) := by show _ = _; rw [HF.out, hkf]; exact frN_no hyk (by rw [hrb, hO, hT]; rfl)
                clear HF hrb hyk hkf
                go_wp2
                go_quiet (fail)
                generalize hwE : World.drewN wr _ = wE
                have hbE : Below w.heap.size w wE := by rw [← hwE]; exact Go.below_drewN hbel2 _
                have hR := HROW.out.below hbE
                have hkl := HKL.out
                have hjl := HJL.out
                have t1 := fun W (hb : Below wE.heap.size wE W) => (rv_takeD hR k (by omega)).below hb
                have l1 : (xs.take k).length ≤ xs.length := by simp; omega
                have l2 : (xs.take k).length + (xs.drop (j + 1)).length ≤ 1048576 := by simp; omega
                have hown0 : (wE.alloc (.cells #[] 72)).drew.ownsRow wE.heap.size 72 5 (.slice (some ⟨wE.heap.size, 0, none⟩) 0 0) 0 [] := World.ownsRow_made (base := wE.heap.size) (size := 5) (e := 72) wE #[] 0 (by simp) (by decide) rfl
                have hbA : Below wE.heap.size wE (wE.alloc (.cells #[] 72)).drew := ((Below.refl wE.heap.size wE).alloc (Nat.le_refl _) _).drew
                have hbD : Below wE.heap.size wE wE.drew := (Below.refl wE.heap.size wE).drew
                have hj1 := l06JoinC_any (.slice (some ⟨wE.heap.size, 0, none⟩) 0 0) (.slice (some ⟨b, off, none⟩) k cap) [] (xs.take k) wE.heap.size (wE.alloc (.cells #[] 72)).drew hown0 (fun W hb => t1 W (hbA.trans hb)) (by simp) (by simp; omega)
                rw [List.nil_append] at hj1
                have n1 : (0 : Int) ≤ (k : Int) := by omega
                have n2 : (k : Int) ≤ (xs.length : Int) := by omega
                have n3 : (k : Int) ≤ (cap : Int) := by omega
                have n4 : (0 : Int) ≤ (j : Int) + 1 := by omega
                have n5 : (j : Int) + 1 ≤ (xs.length : Int) := by omega
                have n6 : (xs.length : Int) ≤ (cap : Int) := by omega
                have HE2 : Hid (xs.take (frN xs ⟨o, ty, cl, tt, da⟩ j) ++ xs.drop (j + 1) = xs.take k ++ xs.drop (j + 1)) := by show _ = _; rw [HE.out]
                rw [HE2.out] at HDS
                by_cases hcj : cap = j + 1
                · have hxe : xs.length = j + 1 := by omega
                  have t2 : ∀ W, Below wE.heap.size wE W → CRow W (.slice (some ⟨b, off, none⟩) 0 0) (xs.drop (j + 1)).length 5 (rvVs (xs.drop (j + 1))) := by
                    intro W _
                    rw [List.drop_of_length_le (by omega)]
                    exact ⟨rfl, _, _, rfl, Nat.le_refl _, by decide, fun h => by simp at h⟩
                  have hj2 := fun u W (hu : W.ownsRow wE.heap.size 72 5 u (xs.take k).length (rvVs (xs.take k))) (hbW : Below wE.heap.size wE W) => l06JoinC_any u (.slice (some ⟨b, off, none⟩) 0 0) (xs.take k) (xs.drop (j + 1)) wE.heap.size W hu (fun W' hb' => t2 W' (hbW.trans hb')) hbW.size l2
                  generalize xs.take k = TK at *
                  generalize xs.drop (j + 1) = DK at *
                  generalize TK ++ DK = YS at *
                  have HX := Nm.hide hxe
                  rw [hxe]
                  rw [hxe] at n2 n5 n6
                  clear hwE hbel2 hR t1 t2 hkl hjl l1 l2 hown0 hxe HROW HJL HKL HE HE2 HXK hlt hk hk2 i2 hcap hmx hn
                  subst hcj
                  have m1 : (k : Int) ≤ (j : Int) + 1 := by omega
                  have m2 : k ≤ j + 1 := by omega
                  go_wp2
                  go_region_held3 (fun W => Below wE.heap.size wE W) (first | with_reducible assumption) ((first | (go_at_call 37; with_reducible refine hj1.mono ?_; rintro e w5 ⟨u5, rfl, ho5, c5⟩; have hb5 : Below wE.heap.size wE w5 := hbA.trans c5; obtain ⟨p5, r5, hv5⟩ := own_sl ho5; subst hv5) | (go_at_call 37; with_reducible refine (hj2 _ w5 ho5 hb5).mono ?_; rintro e w6 ⟨u6, rfl, ho6, c6⟩; have hb6 : Below wE.heap.size wE w6 := hb5.trans c6; obtain ⟨p6, r6, hv6⟩ := own_sl ho6; subst hv6)))
                  go_wp2
                  go_ret2
                  exact ⟨.inr ⟨_, _, HDS.out, rfl, own_base ho6 hbE.size⟩, hbE.trans (hb6.mono hbE.size)⟩
                · have hj2 := fun u W (hu : W.ownsRow wE.heap.size 72 5 u (xs.take k).length (rvVs (xs.take k))) (hbW : Below wE.heap.size wE W) => l06JoinC_any u (.slice (some ⟨b, off + (j + 1) * 5, none⟩) (xs.length - (j + 1)) (cap - (j + 1))) (xs.take k) (xs.drop (j + 1)) wE.heap.size W hu (fun W' hb' => (rv_dropD hR (j + 1) hjl).below (hbW.trans hb')) hbW.size l2
                  have m1 : k ≤ xs.length := by omega
                  have m2 : k ≤ cap := by omega
                  have m3 : j + 1 ≤ xs.length := by omega
                  have m4 : xs.length ≤ cap := by omega
                  generalize xs.take k = TK at *
                  generalize xs.drop (j + 1) = DK at *
                  generalize TK ++ DK = YS at *
                  clear hwE hbel2 hR t1 hkl hjl l1 l2 hown0 HROW HJL HKL HE HE2 HXK hlt hk hk2 i2 hmx hn
                  go_wp2
                  go_region_held3 (fun W => Below wE.heap.size wE W) (first | with_reducible assumption) ((first | (go_at_call 37; with_reducible refine hj1.mono ?_; rintro e w5 ⟨u5, rfl, ho5, c5⟩; have hb5 : Below wE.heap.size wE w5 := hbA.trans c5; obtain ⟨p5, r5, hv5⟩ := own_sl ho5; subst hv5) | (go_at_call 37; with_reducible refine (hj2 _ w5 ho5 hb5).mono ?_; rintro e w6 ⟨u6, rfl, ho6, c6⟩; have hb6 : Below wE.heap.size wE w6 := hb5.trans c6; obtain ⟨p6, r6, hv6⟩ := own_sl ho6; subst hv6)))
                  go_wp2
                  go_ret2
                  exact ⟨.inr ⟨_, _, HDS.out, rfl, own_base ho6 hbE.size⟩, hbE.trans (hb6.mono hbE.size)⟩
              | true =>
                cases hC : (cl2 == cl) with
                | false =>
                  have HE : Hid (frN xs ⟨o, ty, cl, tt, da⟩ j = k) := by show _ = _; rw [HF.out, hkf]; exact frN_no hyk (by rw [hrb, hO, hT, hC]; rfl)
                  clear HF hrb hyk hkf
                  go_wp2
                  go_quiet (fail)
                  generalize hwE : World.drewN wr _ = wE
                  have hbE : Below w.heap.size w wE := by rw [← hwE]; exact Go.below_drewN hbel2 _
                  have hR := HROW.out.below hbE
                  have hkl := HKL.out
                  have hjl := HJL.out
                  have t1 := fun W (hb : Below wE.heap.size wE W) => (rv_takeD hR k (by omega)).below hb
                  have l1 : (xs.take k).length ≤ xs.length := by simp; omega
                  have l2 : (xs.take k).length + (xs.drop (j + 1)).length ≤ 1048576 := by simp; omega
                  have hown0 : (wE.alloc (.cells #[] 72)).drew.ownsRow wE.heap.size 72 5 (.slice (some ⟨wE.heap.size, 0, none⟩) 0 0) 0 [] := World.ownsRow_made (base := wE.heap.size) (size := 5) (e := 72) wE #[] 0 (by simp) (by decide) rfl
                  have hbA : Below wE.heap.size wE (wE.alloc (.cells #[] 72)).drew := ((Below.refl wE.heap.size wE).alloc (Nat.le_refl _) _).drew
                  have hbD : Below wE.heap.size wE wE.drew := (Below.refl wE.heap.size wE).drew
                  have hj1 := l06JoinC_any (.slice (some ⟨wE.heap.size, 0, none⟩) 0 0) (.slice (some ⟨b, off, none⟩) k cap) [] (xs.take k) wE.heap.size (wE.alloc (.cells #[] 72)).drew hown0 (fun W hb => t1 W (hbA.trans hb)) (by simp) (by simp; omega)
                  rw [List.nil_append] at hj1
                  have n1 : (0 : Int) ≤ (k : Int) := by omega
                  have n2 : (k : Int) ≤ (xs.length : Int) := by omega
                  have n3 : (k : Int) ≤ (cap : Int) := by omega
                  have n4 : (0 : Int) ≤ (j : Int) + 1 := by omega
                  have n5 : (j : Int) + 1 ≤ (xs.length : Int) := by omega
                  have n6 : (xs.length : Int) ≤ (cap : Int) := by omega
                  have HE2 : Hid (xs.take (frN xs ⟨o, ty, cl, tt, da⟩ j) ++ xs.drop (j + 1) = xs.take k ++ xs.drop (j + 1)) := by show _ = _; rw [HE.out]
                  rw [HE2.out] at HDS
                  by_cases hcj : cap = j + 1
                  · have hxe : xs.length = j + 1 := by omega
                    have t2 : ∀ W, Below wE.heap.size wE W → CRow W (.slice (some ⟨b, off, none⟩) 0 0) (xs.drop (j + 1)).length 5 (rvVs (xs.drop (j + 1))) := by
                      intro W _
                      rw [List.drop_of_length_le (by omega)]
                      exact ⟨rfl, _, _, rfl, Nat.le_refl _, by decide, fun h => by simp at h⟩
                    have hj2 := fun u W (hu : W.ownsRow wE.heap.size 72 5 u (xs.take k).length (rvVs (xs.take k))) (hbW : Below wE.heap.size wE W) => l06JoinC_any u (.slice (some ⟨b, off, none⟩) 0 0) (xs.take k) (xs.drop (j + 1)) wE.heap.size W hu (fun W' hb' => t2 W' (hbW.trans hb')) hbW.size l2
                    generalize xs.take k = TK at *
                    generalize xs.drop (j + 1) = DK at *
                    generalize TK ++ DK = YS at *
                    have HX := Nm.hide hxe
                    rw [hxe]
                    rw [hxe] at n2 n5 n6
                    clear hwE hbel2 hR t1 t2 hkl hjl l1 l2 hown0 hxe HROW HJL HKL HE HE2 HXK hlt hk hk2 i2 hcap hmx hn
                    subst hcj
                    have m1 : (k : Int) ≤ (j : Int) + 1 := by omega
                    have m2 : k ≤ j + 1 := by omega
                    go_wp2
                    go_region_held3 (fun W => Below wE.heap.size wE W) (first | with_reducible assumption) ((first | (go_at_call 37; with_reducible refine hj1.mono ?_; rintro e w5 ⟨u5, rfl, ho5, c5⟩; have hb5 : Below wE.heap.size wE w5 := hbA.trans c5; obtain ⟨p5, r5, hv5⟩ := own_sl ho5; subst hv5) | (go_at_call 37; with_reducible refine (hj2 _ w5 ho5 hb5).mono ?_; rintro e w6 ⟨u6, rfl, ho6, c6⟩; have hb6 : Below wE.heap.size wE w6 := hb5.trans c6; obtain ⟨p6, r6, hv6⟩ := own_sl ho6; subst hv6)))
                    go_wp2
                    go_ret2
                    exact ⟨.inr ⟨_, _, HDS.out, rfl, own_base ho6 hbE.size⟩, hbE.trans (hb6.mono hbE.size)⟩
                  · have hj2 := fun u W (hu : W.ownsRow wE.heap.size 72 5 u (xs.take k).length (rvVs (xs.take k))) (hbW : Below wE.heap.size wE W) => l06JoinC_any u (.slice (some ⟨b, off + (j + 1) * 5, none⟩) (xs.length - (j + 1)) (cap - (j + 1))) (xs.take k) (xs.drop (j + 1)) wE.heap.size W hu (fun W' hb' => (rv_dropD hR (j + 1) hjl).below (hbW.trans hb')) hbW.size l2
                    have m1 : k ≤ xs.length := by omega
                    have m2 : k ≤ cap := by omega
                    have m3 : j + 1 ≤ xs.length := by omega
                    have m4 : xs.length ≤ cap := by omega
                    generalize xs.take k = TK at *
                    generalize xs.drop (j + 1) = DK at *
                    generalize TK ++ DK = YS at *
                    clear hwE hbel2 hR t1 hkl hjl l1 l2 hown0 HROW HJL HKL HE HE2 HXK hlt hk hk2 i2 hmx hn
                    go_wp2
                    go_region_held3 (fun W => Below wE.heap.size wE W) (first | with_reducible assumption) ((first | (go_at_call 37; with_reducible refine hj1.mono ?_; rintro e w5 ⟨u5, rfl, ho5, c5⟩; have hb5 : Below wE.heap.size wE w5 := hbA.trans c5; obtain ⟨p5, r5, hv5⟩ := own_sl ho5; subst hv5) | (go_at_call 37; with_reducible refine (hj2 _ w5 ho5 hb5).mono ?_; rintro e w6 ⟨u6, rfl, ho6, c6⟩; have hb6 : Below wE.heap.size wE w6 := hb5.trans c6; obtain ⟨p6, r6, hv6⟩ := own_sl ho6; subst hv6)))
                    go_wp2
                    go_ret2
                    exact ⟨.inr ⟨_, _, HDS.out, rfl, own_base ho6 hbE.size⟩, hbE.trans (hb6.mono hbE.size)⟩
                | true =>
                  have HE : Hid (frN xs ⟨o, ty, cl, tt, da⟩ j = frN xs ⟨o, ty, cl, tt, da⟩ f) := by show _ = _; rw [HF.out, hkf]; exact frN_yes hyk (by rw [hrb, hO, hT, hC]; rfl)
                  have HKF := Nm.hide hkf
                  clear HF hrb hyk hkf
                  go_wp2
                  go_quiet (fail)
                  go_wp2
                  go_roundw
                  case rel => exact ⟨f, by have := HKF.out; have := HKL.out; omega, by go_num, HE, Go.below_drewN hbel2 _⟩
                  case measure => have := HKF.out; simp [intOf]; omega

end Go.Proofs.YtmaopfagkffccaaGreat
