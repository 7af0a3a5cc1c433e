import Derived.Test.YtddabafaejahbaaGreatDoorJRmQ
import Derived.Test.YtddabafaejahbaaGreatDoorJLxN
import Derived.Deep.CutRange
import Derived.Test.YtddabafaejahbaaGreatDoorJRmD
import Derived.Test.YtddabafaejahbaaGreatDoorJSSplit
/- spec.l05Between by its contract. -/
namespace Go.Proofs.YtddabafaejahbaaGreatDoor
open Go.RowKit
set_option linter.unusedVariables false
/-- What stands between owner and data: the type, the time, the code, how many words. -/
def btR (ws : List Wrd) : Int × Int × Int × Int := match frF ws none none with
 | .inl c => (0, 0, c, 0)
 | .inr (t, c, r) => match tyF r with
   | .inl e => (0, 0, e, 0)
   | .inr ty => if c.isSome = true ∧ c ≠ some 1 then (0, 0, 19, 0) else (ty, optI t, 0, ((ws.length - r.length : Nat) : Int) + 1)
def btV (r : Int × Int × Int × Int) : Value := .tuple #[.int .i64 r.1, .int .i64 r.2.1, .int .i64 r.2.2.1, .int .i64 r.2.2.2]
theorem bt_err {ws : List Wrd} {c : Int} (h : frF ws none none = .inl c) : btR ws = (0, 0, c, 0) := by rw [btR, h]
theorem bt_type {ws r : List Wrd} {t c : Option Nat} {e : Int} (h : frF ws none none = .inr (t, c, r)) (ht : tyF r = .inl e) : btR ws = (0, 0, e, 0) := by rw [btR, h]; simp only; rw [ht]
theorem bt_rest {ws r : List Wrd} {t c : Option Nat} {ty : Int} (h : frF ws none none = .inr (t, c, r)) (ht : tyF r = .inr ty) : btR ws = if c.isSome = true ∧ c ≠ some 1 then (0, 0, 19, 0) else (ty, optI t, 0, ((ws.length - r.length : Nat) : Int) + 1) := by rw [btR, h]; simp only; rw [ht]
theorem tkF_no {x : Wrd} {t c : Option Nat} (hq : x.2 = false) : tkF x t c = if (ttlS x.1).2 = 0 then (if t.isSome = true then .inl 15 else .inr (some (some (ttlS x.1).1.toNat, c))) else match clsS x.1 with
 | some k => if c.isSome = true then .inl 15 else .inr (some (t, some k))
 | none => .inr none := by
 rw [tkF, if_neg (by rw [hq]; decide)]; rfl
theorem clsK_some (k : Nat) : 0 < clsK (some k) := by
 show 0 < (if k = 1 then (1 : Int) else 2)
 split <;> decide
theorem clsK_two (c : Option Nat) : clsK c = 2 ↔ (c.isSome = true ∧ c ≠ some 1) := by
 cases c with
 | none => exact ⟨fun h => absurd h (by decide), fun h => absurd h.1 (by decide)⟩
 | some k =>
   show (if k = 1 then (1 : Int) else 2) = 2 ↔ _
   by_cases h : k = 1
   · rw [if_pos h, h]; exact ⟨fun h => absurd h (by decide), fun h => absurd rfl h.2⟩
   · rw [if_neg h]; exact ⟨fun _ => ⟨rfl, by simpa using h⟩, fun _ => rfl⟩
set_option maxRecDepth 100000 in
set_option maxHeartbeats 3200000 in
theorem l05Between_any (v : Value) (ws : List Wrd) (w : World) (h : CRow w v ws.length 2 (wdVs ws)) (hn : ws.length ≤ 300) (hz : wsz ws ≤ 1000000) :
 Calls Tryz.prog 75 #[v] w fun e w' => e = .returned (btV (btR ws)) ∧ Below w.heap.size w w' := by
 obtain ⟨_, a, cap, rfl, hcap, hmx, hc⟩ := h; have HCC := Nm.hide hc; have HZ := Nm.hide hz; clear hc hz hmx; obtain ⟨R, HR⟩ : ∃ R, Hid (R = btR ws) := ⟨_, rfl⟩; rw [← HR.out]; have HST : Hid (frF ws none none = frF (ws.drop 0) none none) := rfl; go_enter Tryz.func75, Tryz.ntmps75; go_wp2
 go_loopw [6, 7, 8] (fun p q i wr => ∃ (j : Nat) (t c : Option Nat) (tI cI : Int), j ≤ ws.length ∧ Hid (tI = optI t ∧ cI = clsK c) ∧ p = .int .i64 tI ∧ q = .int .i64 cI ∧ i = .int .i64 (j : Int) ∧ Hid (frF ws none none = frF (ws.drop j) t c) ∧ Below w.heap.size w wr) (fun _ _ i _ => ws.length - (intOf i).toNat)
 case atStart => exact ⟨0, none, none, -1, 0, Nat.zero_le _, ⟨rfl, rfl⟩, rfl, rfl, rfl, HST, Below.refl _ _⟩
 case round =>
  obtain ⟨j, t, c, tI, cI, hj, HI, rfl, rfl, rfl, HA, hbel⟩ := hrel; clear HST
  by_cases hlt : j < ws.length
  · obtain ⟨x, hx⟩ : ∃ x, ws[j]? = some x := ⟨_, List.getElem?_eq_getElem hlt⟩; obtain ⟨b, off, rfl, hcell⟩ := HCC.out (by omega); have put : ∀ {g O : Nat} {z : Value} {W : World}, Below w.heap.size w W → w.cell? ⟨g, O, none⟩ = some z → W.cell? ⟨g, O, none⟩ = some z := fun hW h => (hW.cell (World.block_lt_of_cell? w _ h)).trans h
    have c0 : wr.cell? ⟨b, off + j * 2, none⟩ = some (.string x.1) := put hbel (hcell _ _ (wdVs_at ws j 0 x hx (by decide))); have c1 : wr.cell? ⟨b, off + j * 2 + 1, none⟩ = some (.bool x.2) := put hbel (hcell _ _ (wdVs_at ws j 1 x hx (by decide))); have cB : Hid (∀ W, Below w.heap.size w W → W.cell? ⟨b, off + j * 2, none⟩ = some (.string x.1) ∧ W.cell? ⟨b, off + j * 2 + 1, none⟩ = some (.bool x.2)) := fun W hW => ⟨put hW (hcell _ _ (wdVs_at ws j 0 x hx (by decide))), put hW (hcell _ _ (wdVs_at ws j 1 x hx (by decide)))⟩
    have hxz := wsz_mem (List.mem_of_getElem? hx); have hzz := HZ.out; have i1 : (0 : Int) ≤ (j : Int) := by omega
    have i2 : (j : Int) < (ws.length : Int) := by omega
    have hstep := HA.out; rw [drop_at hx] at hstep; have HL : Hid ((ws.length - (x :: ws.drop (j + 1)).length : Nat) = j) := by show _ = _; rw [List.length_cons, List.length_drop]; omega
    cases hq : x.2 with
    | true =>
      rw [hq] at c1
      have HN : Hid (R = (0, 0, 15, 0)) := by
       show _ = _
       rw [HR.out, bt_type (hstep.trans (frF_stop (by rw [tkF, if_pos hq]))) (show tyF (x :: ws.drop (j + 1)) = .inl 15 by rw [tyF, if_pos hq])]
      clear hstep hx hcell put HA hq cB HL; go_wp2; refine bodyPost_ret (v := btV R) ?_ rfl ⟨rfl, (hbel)⟩; rw [HN.out]
      simp [results, Tryz.f75, go_sem, btV]
    | false =>
      rw [hq] at c1; have hT0 := tkF_no (t := t) (c := c) hq; obtain ⟨T, HT⟩ : ∃ T, Hid (T = ttlS x.1) := ⟨_, rfl⟩; obtain ⟨C, HC⟩ : ∃ C, Hid (C = clsS x.1) := ⟨_, rfl⟩; obtain ⟨kI, HK⟩ : ∃ kI, Hid (kI = clsK C) := ⟨_, rfl⟩; have htt := fun W => specReadTTL_any x.1 W
      have hcl := fun W => l05Class_any x.1 W (by omega)
      rw [← HT.out] at htt hT0; rw [← HC.out, ← HK.out] at hcl; rw [← HC.out] at hT0; unfold ttlV at htt; have HTD : Hid (T.2 = 0 → ∃ h0 : 0 < x.1.size, Nm.digB x.1[0] = true) := by rw [HT.out]; exact ttl_digit
      have HTN : Hid (T.2 = 0 → 0 ≤ T.1) := fun _ => by rw [HT.out]; exact (ttlS_rng _).1
      have HS1 : Hid (∀ e, tkF x t c = .inl e → R = (0, 0, e, 0)) := fun e he => by rw [HR.out, bt_err (hstep.trans (frF_err he))]
      have HS2 : Hid (∀ t' c', tkF x t c = .inr (some (t', c')) → frF ws none none = frF (ws.drop (j + 1)) t' c') := fun t' c' he => hstep.trans (frF_more he)
      have HS3 : Hid (tkF x t c = .inr none → frF ws none none = .inr (t, c, x :: ws.drop (j + 1))) := fun he => hstep.trans (frF_stop he)
      have HTK := Nm.hide hT0; have HQ := Nm.hide hq; clear hstep hx hcell put HA hT0 hq; obtain ⟨bt, HBT⟩ : ∃ bt : Bool, Hid (bt = decide (T.2 = 0)) := ⟨_, rfl⟩; go_upto_region 8 with (first | (go_at_call 46; refine (htt _).mono ?_; rintro e w2 ⟨rfl, hw⟩; obtain rfl := hw.symm; clear hw) | (go_at_call 138; refine (hcl _).mono ?_; rintro e w3 ⟨rfl, hb3⟩))
      have hb4 := Nm.below_two hbel hb3; clear htt hcl c0 c1; go_cut [49] from 39 to 49 (fun p wx => p = .bool bt ∧ wx = w3)
      case first =>
       by_cases hz : x.1.size = 0
       · obtain ⟨q1, q2⟩ := beq_empty hz; have HE : Hid (bt = false) := by show _ = _; rw [HBT.out, decide_eq_false_iff_not]; intro h0; obtain ⟨h1, _⟩ := HTD.out h0; omega
         clear hz; go_wp2; go_meet
         case rel => rw [HE.out]; exact ⟨rfl, rfl⟩
       · obtain ⟨q1, q2⟩ := not_empty (s := x.1) (by omega); have n0 : 0 < x.1.size := by omega
         have z0 : (0 : Int) < (x.1.size : Int) := by omega
         have hdi := fun W => l01Digit_any x.1[0] W
         cases hd : Nm.digB x.1[0] with
         | false =>
           rw [hd] at hdi; have HE : Hid (bt = false) := by show _ = _; rw [HBT.out, decide_eq_false_iff_not]; intro h0; obtain ⟨_, h1⟩ := HTD.out h0; rw [hd] at h1; cases h1
           clear hd hz; go_wp2_with (go_at_call 79; refine (hdi _).mono ?_; rintro e w5 ⟨rfl, hw⟩; obtain rfl := hw.symm; clear hw)
           go_meet
           case rel => rw [HE.out]; exact ⟨rfl, rfl⟩
         | true =>
           rw [hd] at hdi
           by_cases h0 : T.2 = 0
           · have HE : Hid (bt = true) := by show _ = _; rw [HBT.out, decide_eq_true_eq]; exact h0
             have d0 : (T.2 == 0) = true := by simpa using h0
             clear hd hz h0; go_wp2_with (go_at_call 79; refine (hdi _).mono ?_; rintro e w5 ⟨rfl, hw⟩; obtain rfl := hw.symm; clear hw)
             go_meet
             case rel => rw [HE.out]; exact ⟨rfl, rfl⟩
           · have HE : Hid (bt = false) := by show _ = _; rw [HBT.out, decide_eq_false_iff_not]; exact h0
             have d0 : (T.2 == 0) = false := by simpa using h0
             clear hd hz h0; go_wp2_with (go_at_call 79; refine (hdi _).mono ?_; rintro e w5 ⟨rfl, hw⟩; obtain rfl := hw.symm; clear hw)
             go_meet
             case rel => rw [HE.out]; exact ⟨rfl, rfl⟩
      case rest =>
       obtain ⟨rfl, rfl⟩ := hcut; obtain ⟨k0, k1⟩ := cB.out _ hb4; rw [HQ.out] at k1
       cases bt with
       | true =>
         have h0 : T.2 = 0 := of_decide_eq_true HBT.out.symm; have hk := HTK.out; rw [if_pos h0] at hk
         cases t with
         | some n0 =>
           rw [if_pos (show (some n0).isSome = true from rfl)] at hk; have HN := Nm.hide (HS1.out _ hk); have g0 : (0 : Int) ≤ tI := by rw [HI.out.1]; exact Int.natCast_nonneg _
           clear hk h0 HS1 HS2 HS3 HTK HBT HTD HTN; go_wp2; refine bodyPost_ret (v := btV R) ?_ rfl ⟨rfl, (hb4)⟩; rw [HN.out]
           simp [results, Tryz.f75, go_sem, btV]
         | none =>
           rw [if_neg (by decide)] at hk; have HN := Nm.hide (HS2.out _ _ hk); have g0 : ¬ (0 : Int) ≤ tI := by rw [HI.out.1]; decide
           have HM : Hid (T.1 = optI (some T.1.toNat)) := by show _ = ((T.1.toNat : Nat) : Int); have := HTN.out h0; omega
           clear hk h0 HS1 HS2 HS3 HTK HBT HTD HTN; go_wp2; go_roundw
           case rel => exact ⟨j + 1, _, c, T.1, cI, by omega, ⟨HM.out, HI.out.2⟩, rfl, rfl, by go_num, HN, hb4⟩
           case measure => simp [intOf]; omega
       | false =>
         have h0 : ¬ T.2 = 0 := of_decide_eq_false HBT.out.symm; have hk := HTK.out; rw [if_neg h0] at hk
         cases C with
         | some k =>
           have p0 : (0 : Int) < kI := by rw [HK.out]; exact clsK_some k
           cases c with
           | some c1 =>
             simp only at hk
             rw [if_pos (show (some c1).isSome = true from rfl)] at hk; have HN := Nm.hide (HS1.out _ hk); have g0 : (0 : Int) < cI := by rw [HI.out.2]; exact clsK_some c1
             clear hk h0 HS1 HS2 HS3 HTK HBT HTD HTN; go_wp2; refine bodyPost_ret (v := btV R) ?_ rfl ⟨rfl, (hb4)⟩; rw [HN.out]
             simp [results, Tryz.f75, go_sem, btV]
           | none =>
             simp only at hk
             rw [if_neg (by decide)] at hk; have HN := Nm.hide (HS2.out _ _ hk); have g0 : ¬ (0 : Int) < cI := by rw [HI.out.2]; decide
             clear hk h0 HS1 HS2 HS3 HTK HBT HTD HTN; go_wp2; go_roundw
             case rel => exact ⟨j + 1, t, _, tI, kI, by omega, ⟨HI.out.1, HK.out⟩, rfl, rfl, by go_num, HN, hb4⟩
             case measure => simp [intOf]; omega
         | none =>
           have p0 : ¬ (0 : Int) < kI := by rw [HK.out]; decide
           have hfr := HS3.out hk; have hrt := fun W => specReadType_any x.1 W (by omega)
           obtain ⟨Y, HY⟩ : ∃ Y, Hid (Y = readTyS x.1) := ⟨_, rfl⟩; rw [← HY.out] at hrt; unfold pairV at hrt; have hty : tyF (x :: ws.drop (j + 1)) = if Y.2 ≠ 0 then .inl Y.2 else if metaB Y.1 = true then .inl 6 else .inr Y.1 := by rw [tyF, if_neg (by rw [HQ.out]; decide), ← HY.out]
           have hme := fun W => l05Meta_any Y.1 W
           have j3 : ¬ (ws.length : Int) ≤ (j : Int) := by omega
           by_cases hy : Y.2 = 0
           · have dy : (Y.2 == 0) = true := by simpa using hy
             rw [if_neg (by simpa using hy)] at hty
             cases hm : metaB Y.1 with
             | true =>
               rw [if_pos hm] at hty; rw [hm] at hme; have HN : Hid (R = (0, 0, 6, 0)) := by show _ = _; rw [HR.out, bt_type hfr hty]
               clear hk h0 HS1 HS2 HS3 HTK HBT HTD HTN hfr hty hm hy; go_wp2_with (first | (go_at_call 20; refine (hrt _).mono ?_; rintro e w5 ⟨rfl, hb5⟩) | (go_at_call 139; refine (hme _).mono ?_; rintro e w6 ⟨rfl, hw⟩; obtain rfl := hw.symm; clear hw))
               refine bodyPost_ret (v := btV R) ?_ rfl ⟨rfl, (Nm.below_two hb4 hb5)⟩; rw [HN.out]
               simp [results, Tryz.f75, go_sem, btV]
             | false =>
               rw [if_neg (by rw [hm]; decide)] at hty; rw [hm] at hme; have HF : Hid (R = if c.isSome = true ∧ c ≠ some 1 then (0, 0, 19, 0) else (Y.1, optI t, 0, ((ws.length - (x :: ws.drop (j + 1)).length : Nat) : Int) + 1)) := by show _ = _; rw [HR.out, bt_rest hfr hty]
               by_cases h2 : cI = 2
               · have d2 : (cI == 2) = true := by simpa using h2
                 have HN : Hid (R = (0, 0, 19, 0)) := by show _ = _; rw [HF.out, if_pos ((clsK_two c).1 (HI.out.2.symm.trans h2))]
                 clear hk h0 HS1 HS2 HS3 HTK HBT HTD HTN hfr hty hm hy HF h2; go_wp2_with (first | (go_at_call 20; refine (hrt _).mono ?_; rintro e w5 ⟨rfl, hb5⟩) | (go_at_call 139; refine (hme _).mono ?_; rintro e w6 ⟨rfl, hw⟩; obtain rfl := hw.symm; clear hw))
                 refine bodyPost_ret (v := btV R) ?_ rfl ⟨rfl, (Nm.below_two hb4 hb5)⟩; rw [HN.out]; simp [results, Tryz.f75, go_sem, btV]
               · have d2 : (cI == 2) = false := by simpa using h2
                 have HN : Hid (R = (Y.1, tI, 0, (j : Int) + 1)) := by show _ = _; rw [HF.out, if_neg (fun h => h2 (HI.out.2.trans ((clsK_two c).2 h))), HL.out, HI.out.1]
                 have jw : IntKind.i64.wrap ((j : Int) + 1) = (j : Int) + 1 := Go.wrap_small _ (by omega) (by omega); clear hk h0 HS1 HS2 HS3 HTK HBT HTD HTN hfr hty hm hy HF h2; go_wp2_with (first | (go_at_call 20; refine (hrt _).mono ?_; rintro e w5 ⟨rfl, hb5⟩) | (go_at_call 139; refine (hme _).mono ?_; rintro e w6 ⟨rfl, hw⟩; obtain rfl := hw.symm; clear hw))
                 refine bodyPost_ret (v := btV R) ?_ rfl ⟨rfl, (Nm.below_two hb4 hb5)⟩; rw [HN.out]; simp [results, Tryz.f75, go_sem, btV]
           · have dy : (Y.2 == 0) = false := by simpa using hy
             rw [if_pos hy] at hty; have HN : Hid (R = (0, 0, Y.2, 0)) := by show _ = _; rw [HR.out, bt_type hfr hty]
             clear hk h0 HS1 HS2 HS3 HTK HBT HTD HTN hfr hty hy hme; go_wp2_with (go_at_call 20; refine (hrt _).mono ?_; rintro e w5 ⟨rfl, hb5⟩)
             refine bodyPost_ret (v := btV R) ?_ rfl ⟨rfl, (Nm.below_two hb4 hb5)⟩; rw [HN.out]; simp [results, Tryz.f75, go_sem, btV]
  · have hjn : j = ws.length := by omega
    subst hjn; have i2 : ¬ (ws.length : Int) < (ws.length : Int) := by omega
    have i3 : (ws.length : Int) ≤ (ws.length : Int) := by omega
    have HN : Hid (R = (0, 0, 15, 0)) := by
     show _ = _
     rw [HR.out, bt_type (t := t) (c := c) (r := []) (by rw [HA.out, List.drop_length, frF]) rfl]
    clear HA; go_wp2; refine bodyPost_ret (v := btV R) ?_ rfl ⟨rfl, (hbel)⟩; rw [HN.out]; simp [results, Tryz.f75, go_sem, btV]
/-- What a zone's text has told, as the model has it. -/
abbrev mbV (m : Ms) (v : Value) : Array Value := #[.string m.org, .string m.own, .int .i64 m.us, .int .i64 m.la, v]
def Mb (m : Ms) (v : Value) (w : World) (g : Nat) : Prop := Blk w g (mbV m v) 62
theorem mb_cells {m : Ms} {v : Value} {w : World} {g : Nat} (h : Mb m v w g) : w.cell? ⟨g, 0, none⟩ = some (.string m.org) ∧ w.cell? ⟨g, 1, none⟩ = some (.string m.own) ∧ w.cell? ⟨g, 2, none⟩ = some (.int .i64 m.us) ∧ w.cell? ⟨g, 3, none⟩ = some (.int .i64 m.la) ∧ w.cell? ⟨g, 4, none⟩ = some v ∧ ∀ i, w.frozen? ⟨g, i, none⟩ = false :=
 ⟨(blk_cell h 0).trans rfl, (blk_cell h 1).trans rfl, (blk_cell h 2).trans rfl, (blk_cell h 3).trans rfl, (blk_cell h 4).trans rfl, fun i => blk_frozen h i⟩
theorem Mb.below {m : Ms} {v : Value} {w w' : World} {g : Nat} (h : Mb m v w g) (hb : Below w.heap.size w w') : Mb m v w' g := blk_below h hb
theorem Mb.lt {m : Ms} {v : Value} {w : World} {g : Nat} (h : Mb m v w g) : g < w.heap.size := blk_lt h
theorem mb_org {m : Ms} {v : Value} {w : World} {g : Nat} (h : Mb m v w g) (x : ByteArray) : Mb { m with org := x } v (w.setCell ⟨g, 0, none⟩ (.string x)) g := blk_set h 0 (.string x)
theorem mb_own {m : Ms} {v : Value} {w : World} {g : Nat} (h : Mb m v w g) (x : ByteArray) : Mb { m with own := x } v (w.setCell ⟨g, 1, none⟩ (.string x)) g := blk_set h 1 (.string x)
theorem mb_us {m : Ms} {v : Value} {w : World} {g : Nat} (h : Mb m v w g) (x : Int) : Mb { m with us := x } v (w.setCell ⟨g, 2, none⟩ (.int .i64 x)) g := blk_set h 2 (.int .i64 x)
theorem mb_la {m : Ms} {v : Value} {w : World} {g : Nat} (h : Mb m v w g) (x : Int) : Mb { m with la := x } v (w.setCell ⟨g, 3, none⟩ (.int .i64 x)) g := blk_set h 3 (.int .i64 x)
theorem mb_rs {m : Ms} {v : Value} {w : World} {g : Nat} (h : Mb m v w g) (x : Value) (rs : List Rr) : Mb { m with rs := rs } x (w.setCell ⟨g, 4, none⟩ x) g := blk_set h 4 x
def MdP (g : Nat) (v : Value) (w : World) (r : Sum Int Ms) (e : Ending) (w' : World) : Prop :=
 w.grownBy w' (some g) ∧ match r with
 | .inl c => e = .returned (.int .i64 c)
 | .inr m => e = .returned (.int .i64 0) ∧ Mb m v w' g
set_option maxRecDepth 100000 in
set_option maxHeartbeats 3200000 in
theorem l05Directive_any (m : Ms) (v u : Value) (ws : List Wrd) (g : Nat) (w : World) (h : Mb m v w g) (ho : m.org.size ≤ 1048576) (hu : CRow w u ws.length 2 (wdVs ws)) (h0 : 0 < ws.length) (hz : wsz ws ≤ 1000000) :
 Calls Tryz.prog 29 #[.pointer (some ⟨g, 0, none⟩), u] w (MdP g v w (dirF m ws)) := by
 obtain ⟨R, HR⟩ : ∃ R, Hid (R = dirF m ws) := ⟨_, rfl⟩; rw [← HR.out]; obtain ⟨_, a, cap, rfl, hcap, hmx, hc⟩ := hu; obtain ⟨b, off, rfl, hcell⟩ := hc h0; obtain ⟨x, hx⟩ : ∃ x, ws[0]? = some x := ⟨_, List.getElem?_eq_getElem h0⟩; have hx0 : word1 ws 0 = x := by rw [word1, List.getD_eq_getElem?_getD, hx]; rfl
 have c0 : w.cell? ⟨b, off, none⟩ = some (.string x.1) := hcell _ _ (wdVs_at ws 0 0 x hx (by decide)); have hxz := wsz_mem (List.mem_of_getElem? hx); have hfo := l01Small_any x.1 w (by omega); have n0 : (0 : Int) < (ws.length : Int) := by omega
 have HW := Nm.hide hcell; have HZ := Nm.hide hz; obtain ⟨k, hk⟩ : ∃ k, k = Nm.small x.1 := ⟨_, rfl⟩; rw [← hk] at hfo; have HK : Hid (Nm.small (word1 ws 0).1 = k) := by show _ = _; rw [hx0, hk]
 clear hcell hc hx hx0 hk hz hxz hmx
 cases hA : (k.toList == [36, 111, 114, 105, 103, 105, 110]) with
 | false =>
   cases hB : (k.toList == [36, 116, 116, 108]) with
   | false =>
     have HN : Hid (R = .inl 16) := by show _ = _; rw [HR.out, dir_other (by rw [HK.out]; exact hA) (by rw [HK.out]; exact hB)]
     have e3 : True := trivial; clear HR HK HW; go_enter Tryz.func29, Tryz.ntmps29; go_wp2_with (go_at_call 40; refine hfo.mono ?_; rintro e w1 ⟨rfl, hb1⟩; try (have e2' := (hb1.cell (World.block_lt_of_cell? w _ e3)).trans e3))
     go_ret; rw [HN.out]
     exact ⟨gr_belL (gr_refl _ _) hb1, rfl⟩
   | true =>
     have HNB : Hid (¬ (((Nm.small (word1 ws 0).1).toList == [36, 111, 114, 105, 103, 105, 110]) = false ∧ ((Nm.small (word1 ws 0).1).toList == [36, 116, 116, 108]) = false)) := by
      rintro ⟨_, h2⟩; rw [HK.out, hB] at h2; cases h2
     by_cases hl : ws.length = 2
     · obtain ⟨y, hy⟩ : ∃ y, ws[1]? = some y := ⟨_, List.getElem?_eq_getElem (by omega)⟩; have hy1 : word1 ws 1 = y := by rw [word1, List.getD_eq_getElem?_getD, hy]; rfl
       have e2 : w.cell? ⟨b, off + 2, none⟩ = some (.string y.1) := HW.out _ _ (wdVs_at ws 1 0 y hy (by decide)); have e3 : w.cell? ⟨b, off + 3, none⟩ = some (.bool y.2) := HW.out _ _ (wdVs_at ws 1 1 y hy (by decide))
       cases hq : y.2 with
       | true =>
         have HN : Hid (R = .inl 15) := by show _ = _; rw [HR.out, dir_word HNB.out (.inr (by rw [hy1]; exact hq))]
         rw [hq] at e3; clear HNB hy hy1; rw [hl] at *; clear HR HK HW; go_enter Tryz.func29, Tryz.ntmps29; go_wp2_with (go_at_call 40; refine hfo.mono ?_; rintro e w1 ⟨rfl, hb1⟩; try (have e2' := (hb1.cell (World.block_lt_of_cell? w _ e3)).trans e3))
         go_ret; rw [HN.out]
         exact ⟨gr_belL (gr_refl _ _) hb1, rfl⟩
       | false =>
         rw [hq] at e3
         have HE : Hid (R = if (ttlS y.1).2 ≠ 0 then .inl (ttlS y.1).2 else .inr { m with us := (ttlS y.1).1 }) := by
          show _ = _
          rw [HR.out, dirF, if_neg HNB.out, if_neg (by rw [hy1, hq, hl]; simp), if_neg (by rw [HK.out, hA]; decide), hy1]
         have hTT := fun W => specReadTTL_any y.1 W
         generalize ttlS y.1 = T at *; unfold ttlV at hTT; clear HR HNB hy hy1 HK HW; rw [hl] at *
         by_cases hT0 : T.2 = 0
         · have HN : Hid (R = .inr { m with us := T.1 }) := by show _ = _; rw [HE.out, if_neg (by simpa using hT0)]
           rw [hT0] at hTT; clear HE hT0; go_enter Tryz.func29, Tryz.ntmps29; go_wp2_with (first | (go_at_call 40; refine hfo.mono ?_; rintro e w1 ⟨rfl, hb1⟩; have e2' := (hb1.cell (World.block_lt_of_cell? w _ e2)).trans e2; have e3' := (hb1.cell (World.block_lt_of_cell? w _ e3)).trans e3; have hL1 := h.below hb1; obtain ⟨q4, q5, q6, q7, q8, qf⟩ := mb_cells hL1; have qf2 := qf 2) | (go_at_call 46; refine (hTT _).mono ?_; rintro e w2 ⟨rfl, hw⟩; obtain rfl := hw.symm; clear hw))
           go_ret; rw [HN.out]; exact ⟨gr_trans (gr_belL (gr_refl _ _) hb1) (gr_set _ g 2 (.int .i64 T.1)), rfl, mb_us hL1 T.1⟩
         · have HN : Hid (R = .inl T.2) := by show _ = _; rw [HE.out, if_pos hT0]
           have d0 : (T.2 == 0) = false := by simpa using hT0
           clear HE hT0; go_enter Tryz.func29, Tryz.ntmps29; go_wp2_with (first | (go_at_call 40; refine hfo.mono ?_; rintro e w1 ⟨rfl, hb1⟩; have e2' := (hb1.cell (World.block_lt_of_cell? w _ e2)).trans e2; have e3' := (hb1.cell (World.block_lt_of_cell? w _ e3)).trans e3) | (go_at_call 46; refine (hTT _).mono ?_; rintro e w2 ⟨rfl, hw⟩; obtain rfl := hw.symm; clear hw))
           go_ret; rw [HN.out]; exact ⟨gr_belL (gr_refl _ _) hb1, rfl⟩
     · have HN : Hid (R = .inl 15) := by show _ = _; rw [HR.out, dir_word HNB.out (.inl hl)]
       have d2 : ((ws.length : Int) == 2) = false := by rw [beq_eq_false_iff_ne]; omega
       have d3 : ((ws.length : Int) != 2) = true := by simp; omega
       have e3 : True := trivial; clear HNB; clear HR HK HW; go_enter Tryz.func29, Tryz.ntmps29; go_wp2_with (go_at_call 40; refine hfo.mono ?_; rintro e w1 ⟨rfl, hb1⟩; try (have e2' := (hb1.cell (World.block_lt_of_cell? w _ e3)).trans e3))
       go_ret; rw [HN.out]
       exact ⟨gr_belL (gr_refl _ _) hb1, rfl⟩
 | true =>
   have HNB : Hid (¬ (((Nm.small (word1 ws 0).1).toList == [36, 111, 114, 105, 103, 105, 110]) = false ∧ ((Nm.small (word1 ws 0).1).toList == [36, 116, 116, 108]) = false)) := by
    rintro ⟨h2, _⟩; rw [HK.out, hA] at h2; cases h2
   have hB : (k.toList == [36, 116, 116, 108]) = false := by
    rw [beq_iff_eq] at hA; rw [hA]; decide
   by_cases hl : ws.length = 2
   · obtain ⟨y, hy⟩ : ∃ y, ws[1]? = some y := ⟨_, List.getElem?_eq_getElem (by omega)⟩; have hy1 : word1 ws 1 = y := by rw [word1, List.getD_eq_getElem?_getD, hy]; rfl
     have e2 : w.cell? ⟨b, off + 2, none⟩ = some (.string y.1) := HW.out _ _ (wdVs_at ws 1 0 y hy (by decide)); have e3 : w.cell? ⟨b, off + 3, none⟩ = some (.bool y.2) := HW.out _ _ (wdVs_at ws 1 1 y hy (by decide))
     cases hq : y.2 with
     | true =>
       have HN : Hid (R = .inl 15) := by show _ = _; rw [HR.out, dir_word HNB.out (.inr (by rw [hy1]; exact hq))]
       rw [hq] at e3; clear HNB hy hy1; rw [hl] at *; clear HR HK HW; go_enter Tryz.func29, Tryz.ntmps29; go_wp2_with (go_at_call 40; refine hfo.mono ?_; rintro e w1 ⟨rfl, hb1⟩; try (have e2' := (hb1.cell (World.block_lt_of_cell? w _ e3)).trans e3))
       go_ret; rw [HN.out]
       exact ⟨gr_belL (gr_refl _ _) hb1, rfl⟩
     | false =>
       rw [hq] at e3; obtain ⟨N, hN⟩ : ∃ N, N = readS y.1 m.org := ⟨_, rfl⟩
       have HE : Hid (R = if N.2 ≠ 0 then .inl N.2 else .inr { m with org := N.1 }) := by
        show _ = _
        rw [HR.out, dirF, if_neg HNB.out, if_neg (by rw [hy1, hq, hl]; simp), if_pos (by rw [HK.out, hA]), hy1, ← hN]
       have hRN := fun W => specReadName_any y.1 m.org W (by unfold maxLen; omega)
       rw [← hN] at hRN; clear HR HNB hy hy1 HK HW hN; rw [hl] at *; go_enter Tryz.func29, Tryz.ntmps29; go_upto_region 11 with (go_at_call 40; refine hfo.mono ?_; rintro e w1 ⟨rfl, hb1⟩; have e2' := (hb1.cell (World.block_lt_of_cell? w _ e2)).trans e2; have e3' := (hb1.cell (World.block_lt_of_cell? w _ e3)).trans e3)
       have hL1 := h.below hb1; have g1 : w.grownBy w1 (some g) := gr_belL (gr_refl _ _) hb1; obtain ⟨q4, q5, q6, q7, q8, qf⟩ := mb_cells hL1; refine wp_region_last (S := fun W => W.cell? ⟨b, off + 2, none⟩ = some (.string y.1) ∧ W.cell? ⟨g, 0, none⟩ = some (.string m.org)) (L := 1000) (by kernel_rfl) ⟨e2', q4⟩ (fun hH => ?_); refine tkB 0 rfl ?_; refine tkB 1 rfl ?_; refine tkB 2 rfl ?_; refine tkB 3 rfl ?_; refine tkB 4 rfl ?_; refine tkB 5 rfl ?_; refine tkB 6 rfl ?_; refine tkB 7 rfl ?_; refine wpAnyL_one (i := 8) (by kernel_rfl) rfl (fun KQ hK' => ?_); go_simp; refine (hRN _).mono ?_; rintro e w2 ⟨rfl, hb2⟩; have hL2 : Mb m v w2 g := Mb.below (w := w1.drew) hL1 hb2; have g2 : w.grownBy w2 (some g) := gr_belL (gr_trans g1 (gr_drew _ g)) hb2; have s2 : w2.cell? ⟨b, off + 2, none⟩ = some (.string y.1) := (hb2.cell (World.block_lt_of_cell? w1 _ e2')).trans e2'; obtain ⟨t4, t5, t6, t7, t8, tf⟩ := mb_cells hL2; have t4f := tf 0; have hL3 := mb_org hL2 N.1; have g3 := gr_trans g2 (gr_set w2 g 0 (.string N.1)); clear hb2 hRN q4 q5 q6 q7 q8 qf hL1 g1 hL2; go_wp2_with fail
       refine hK'.out _ _ ⟨s2, t4⟩ (fun hH => ?_); clear hK' KQ; refine tkB 9 rfl ?_; refine tkB 10 rfl ?_; refine tkB 11 rfl ?_; refine tkB 12 rfl ?_; refine tkB 13 rfl ?_; refine wpAnyL_done (by kernel_rfl) ?_; clear hH
       by_cases hN0 : N.2 = 0
       · have HN : Hid (R = .inr { m with org := N.1 }) := by show _ = _; rw [HE.out, if_neg (by simpa using hN0)]
         have d0 : (N.2 == 0) = true := by simpa using hN0
         have HN0 := Nm.hide hN0; clear HE hN0; go_wp2; go_ret; rw [HN.out]; exact ⟨g3, by rw [HN0.out]; rfl, hL3⟩
       · have HN : Hid (R = .inl N.2) := by show _ = _; rw [HE.out, if_pos hN0]
         have d0 : (N.2 == 0) = false := by simpa using hN0
         clear HE hN0; go_wp2; go_ret; rw [HN.out]; exact ⟨g2, rfl⟩
   · have HN : Hid (R = .inl 15) := by show _ = _; rw [HR.out, dir_word HNB.out (.inl hl)]
     have d2 : ((ws.length : Int) == 2) = false := by rw [beq_eq_false_iff_ne]; omega
     have d3 : ((ws.length : Int) != 2) = true := by simp; omega
     have e3 : True := trivial; clear HNB; clear HR HK HW; go_enter Tryz.func29, Tryz.ntmps29; go_wp2_with (go_at_call 40; refine hfo.mono ?_; rintro e w1 ⟨rfl, hb1⟩; try (have e2' := (hb1.cell (World.block_lt_of_cell? w _ e3)).trans e3))
     go_ret; rw [HN.out]; exact ⟨gr_belL (gr_refl _ _) hb1, rfl⟩
end Go.Proofs.YtddabafaejahbaaGreatDoor
