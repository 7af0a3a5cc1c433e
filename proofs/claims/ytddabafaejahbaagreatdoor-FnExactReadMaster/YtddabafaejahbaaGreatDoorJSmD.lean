import Derived.Test.YtddabafaejahbaaGreatDoorJSmB
import Derived.Test.YtddabafaejahbaaGreatDoorRmF
import Derived.Test.YtddabafaejahbaaGreatDoorJRdS
import Derived.Test.YtddabafaejahbaaGreatDoorJRmG
import Derived.Test.YtddabafaejahbaaGreatDoorJLxN
/- spec.l05Record by its contract. -/
namespace Go.Proofs.YtddabafaejahbaaGreatDoor
open Go.RowKit
set_option linter.unusedVariables false
/-- Times that were told, or none. -/
def TmOk (m : Ms) : Prop := -1 ≤ m.us ∧ -1 ≤ m.la
def MrP (B g : Nat) (w : World) (r : Sum Int Ms) (e : Ending) (w' : World) : Prop :=
 Frm B g w w' ∧ match r with
 | .inl c => e = .returned (.int .i64 c)
 | .inr m => e = .returned (.int .i64 0) ∧ ∃ v, Mb m v w' g ∧ w'.ownsRow B 80 5 v m.rs.length (rvVs m.rs)
theorem Mb.row {m : Ms} {v u : Value} {w w' : World} {g B e s n : Nat} {xs : List Value} (h : Mb m v w g) (hV : w.ownsRow B e s u n xs) (hgr : w.grownBy w' u.ownBlock) (hg : g < B) : Mb m v w' g :=
 blk_grown h hgr (fun e => by have := (hV.lt g e).1; omega)
theorem fr_code : ∀ (ws : List Wrd) (t c : Option Nat) (e : Int), frF ws t c = .inl e → e = 15 := by
 intro ws
 induction ws with
 | nil => intro t c e h; rw [frF] at h; cases h
 | cons x ws ih =>
   intro t c e h; rw [frF] at h
   split at h
   · cases h
   · split at h
     · split at h
       · cases h; rfl
       · exact ih _ _ _ h
     · cases hc : clsS x.1 with
       | none => rw [hc] at h; cases h
       | some k =>
         rw [hc] at h; simp only at h
         split at h
         · cases h; rfl
         · exact ih _ _ _ h
theorem ty_code {r : List Wrd} {e : Int} (h : tyF r = .inl e) : e ≠ 0 := by
 cases r with
 | nil => rw [tyF] at h; cases h; decide
 | cons x r =>
   rw [tyF] at h
   split at h
   · cases h; decide
   · split at h
     · rename_i h2; cases h; exact h2
     · split at h
       · cases h; decide
       · cases h
theorem fr_drop : ∀ (ws : List Wrd) (t c t' c' : Option Nat) (r : List Wrd), frF ws t c = .inr (t', c', r) → ∃ k, k ≤ ws.length ∧ r = ws.drop k := by
 intro ws
 induction ws with
 | nil => intro t c t' c' r h; rw [frF] at h; cases h; exact ⟨0, Nat.le_refl _, rfl⟩
 | cons x ws ih =>
   intro t c t' c' r h
   have go : ∀ {t c}, frF ws t c = .inr (t', c', r) → ∃ k, k ≤ (x :: ws).length ∧ r = (x :: ws).drop k := by
    intro t c h; obtain ⟨k, h1, h2⟩ := ih _ _ _ _ _ h; exact ⟨k + 1, by simp; omega, by rw [List.drop_succ_cons]; exact h2⟩
   rw [frF] at h
   split at h
   · cases h; exact ⟨0, Nat.zero_le _, rfl⟩
   · split at h
     · split at h
       · cases h
       · exact go h
     · cases hc : clsS x.1 with
       | none => rw [hc] at h; cases h; exact ⟨0, Nat.zero_le _, rfl⟩
       | some k =>
         rw [hc] at h; simp only at h
         split at h
         · cases h
         · exact go h
theorem wsz_drop (ws : List Wrd) (k : Nat) : wsz (ws.drop k) ≤ wsz ws := by
 have h := congrArg wsz (List.take_append_drop k ws); rw [wsz_app] at h; omega
set_option maxRecDepth 100000 in
set_option maxHeartbeats 4000000 in
theorem l05Record_any (m : Ms) (v u : Value) (num : Int) (bl : Bool) (ws : List Wrd) (B g : Nat) (w : World) (h : Mb m v w g) (hv : w.ownsRow B 80 5 v m.rs.length (rvVs m.rs)) (hB : B ≤ w.heap.size) (hg : g < B) (ho : m.org.size ≤ 1048576) (hrs : m.rs.length ≤ 500) (ht : TmOk m) (hu : CRow w u ws.length 2 (wdVs ws)) (hub : ∀ b off k c, u = .slice (some ⟨b, off, none⟩) k c → b < B ∧ b ≠ g) (h0 : 0 < ws.length) (hn : ws.length ≤ 300) (hz : wsz ws ≤ 1000000) :
 Calls Tryz.prog 30 #[.pointer (some ⟨g, 0, none⟩), .agg #[.int .i64 num, .bool bl, u]] w (MrP B g w (recF m bl ws)) := by
 obtain ⟨R, HR⟩ : ∃ R, Hid (R = recF m bl ws) := ⟨_, rfl⟩; rw [← HR.out]; have HU := Nm.hide hu; obtain ⟨_, a, cap, rfl, hcap, hmx, hc⟩ := hu; obtain ⟨b, off, rfl, hcell⟩ := hc h0; obtain ⟨hbB, hbg⟩ := hub b off _ _ rfl; have HCE := Nm.hide hcell; have hLA := h.below ((Below.refl w.heap.size w).alloc (Nat.le_refl _) (.cells #[.int .i64 num, .bool bl, .slice (some ⟨b, off, none⟩) ws.length cap] 64)); have hVA := hv.alloc (.cells #[.int .i64 num, .bool bl, .slice (some ⟨b, off, none⟩) ws.length cap] 64); have bA := (Below.refl w.heap.size w).alloc (Nat.le_refl _) (.cells #[.int .i64 num, .bool bl, .slice (some ⟨b, off, none⟩) ws.length cap] 64); clear hcell hc hmx hub; go_enter Tryz.func30, Tryz.ntmps30; go_upto_if 17 with fail
 go_cut [5, 6, 7] from 18 to 42 (fun q _ _ wx => ∃ (m' : Ms) (ws' : List Wrd) (b' off' cap' : Nat), q = .slice (some ⟨b', off', none⟩) ws'.length cap' ∧ Hid (R = bodF m' ws' ∧ b' < B ∧ b' ≠ g ∧ ws'.length ≤ 300 ∧ wsz ws' ≤ 1000000 ∧ m'.org.size ≤ 1048576 ∧ m'.rs.length ≤ 500 ∧ TmOk m') ∧ Hid (CRow wx q ws'.length 2 (wdVs ws')) ∧ Mb m' v wx g ∧ wx.ownsRow B 80 5 v m'.rs.length (rvVs m'.rs) ∧ Frm B g w wx)
 case first =>
  cases bl with
  | true =>
    have HE : Hid (R = bodF m ws) := by show _ = _; rw [HR.out, recF, if_pos rfl]
    have HU2 := Nm.hide (HU.out.below bA); clear HR HU HCE; go_wp2; go_meet
    case rel => exact ⟨m, ws, b, off, cap, rfl, ⟨HE.out, hbB, hbg, hn, hz, ho, hrs, ht⟩, HU2, hLA, hVA, Frm.bel bA hB⟩
  | false =>
    cases ws with
    | nil => simp at h0
    | cons x r =>
      have hr := rec_own (m := m) (x := x) (r := r); rw [nwF] at hr; have c0 : w.cell? ⟨b, off, none⟩ = some (.string x.1) := HCE.out _ _ (wdVs_at (x :: r) 0 0 x rfl (by decide)); have c1 : w.cell? ⟨b, off + 1, none⟩ = some (.bool x.2) := HCE.out _ _ (wdVs_at (x :: r) 0 1 x rfl (by decide)); have d0 := fun O => (old_allocR (World.block_lt_of_cell? w _ c0) O off).1.trans c0
      have d1 := fun O => (old_allocR (World.block_lt_of_cell? w _ c1) O (off + 1)).1.trans c1
      have hzr : wsz r ≤ 1000000 := by rw [wsz_cons] at hz; omega
      have hFA : Frm B g w (w.alloc (.cells #[.int .i64 num, .bool false, .slice (some ⟨b, off, none⟩) (x :: r).length cap] 64)) := Frm.bel bA hB; have hBA : B ≤ (w.alloc (.cells #[.int .i64 num, .bool false, .slice (some ⟨b, off, none⟩) (x :: r).length cap] 64)).heap.size := by simp; omega
      have n0 : (0 : Int) < (r.length : Int) + 1 := by omega
      have n1 : (1 : Int) ≤ (r.length : Int) + 1 := by omega
      cases hq : x.2 with
      | true =>
        rw [hq] at d1; rw [if_pos hq] at hr; have HN : Hid (R = .inl 15) := by show _ = _; rw [HR.out, hr]
        clear hr HR HU HCE hq c1 c0; simp only [List.length_cons] at *; go_wp2; go_ret; rw [HN.out]
        exact ⟨hFA, rfl⟩
      | false =>
        rw [hq] at d1; rw [if_neg (by rw [hq]; decide)] at hr; obtain ⟨N, hN⟩ : ∃ N, N = readS x.1 m.org := ⟨_, rfl⟩; rw [← hN] at hr; have hRN := fun W => specReadName_any x.1 m.org W (by unfold maxLen; omega)
        rw [← hN] at hRN; have HE1 : Hid (N.2 ≠ 0 → R = .inl N.2) := fun h => by rw [HR.out, hr, if_pos h]
        have HE2 : Hid (N.2 = 0 → R = bodF { m with own := N.1 } r) := fun h => by rw [HR.out, hr, if_neg (by simpa using h)]
        have HROW := Nm.hide (wd_tail HU.out); have p0 := d0 (.cells #[.int .i64 num, .bool false, .slice (some ⟨b, off, none⟩) (x :: r).length cap] 64); simp only [List.length_cons] at *; clear hr hN HR HU HCE hq c1 c0; have HQ : Hid (r.length + 1 ≤ cap) := hcap; generalize hq : r.length = q at *; have HQQ := Nm.hide hq; clear hq; have hcap' := HQ.out; go_upto_region 5 with fail
        generalize w.alloc (.cells #[.int .i64 num, .bool false, .slice (some ⟨b, off, none⟩) (q + 1) cap] 64) = WA at *; have o0 := (mb_cells hLA).1; refine wp_region_last (S := fun W => W.cell? ⟨b, off, none⟩ = some (.string x.1) ∧ W.cell? ⟨g, 0, none⟩ = some (.string m.org)) (L := 1000) (by kernel_rfl) ⟨p0, o0⟩ (fun hH => ?_); refine tkB 0 rfl ?_; refine tkB 1 rfl ?_; refine tkB 2 rfl ?_; refine tkB 3 rfl ?_; refine tkB 4 rfl ?_; refine tkB 5 rfl ?_; refine tkB 6 rfl ?_; refine tkB 7 rfl ?_; refine wpAnyL_one (i := 8) (by kernel_rfl) rfl (fun KQ hK' => ?_); go_simp; refine (hRN _).mono ?_; rintro e w2 ⟨rfl, hb2⟩; have hb2' : Below WA.heap.size WA w2 := (Below.refl _ WA).drew.trans hb2; have hL2 : Mb m v w2 g := hLA.below hb2'; have hV2 := own_below hVA hb2'; have hF2 := hFA.trans (Frm.bel (g := g) hb2' hBA); have p2 : w2.cell? ⟨b, off, none⟩ = some (.string x.1) := (hb2'.cell (World.block_lt_of_cell? WA _ p0)).trans p0; have o2 := (mb_cells hL2).1; clear hb2; go_wp2_with fail
        refine hK'.out _ _ ⟨p2, o2⟩ (fun hH => ?_); clear hK' KQ; refine tkB 9 rfl ?_; refine tkB 10 rfl ?_; refine tkB 11 rfl ?_; refine tkB 12 rfl ?_; refine tkB 13 rfl ?_; refine wpAnyL_done (by kernel_rfl) ?_; clear hH
        by_cases hN0 : N.2 = 0
        · have HN := Nm.hide (HE2.out hN0); have d0 : (N.2 == 0) = true := by simpa using hN0
          clear HE1 HE2 hN0; obtain ⟨t4, t5, t6, t7, t8, tf⟩ := mb_cells hL2; have t1f := tf 1; have hL3 := mb_own hL2 N.1; have hV3 := own_far_lt (g := g) (i := 1) (y := .string N.1) hV2 hg; have hF3 := hF2.trans (Frm.gr (gr_set w2 g 1 (.string N.1)) (Nat.le_trans hB hF2.size))
          by_cases hc1 : cap = 1
          · have hq0 : q = 0 := by omega
            subst hc1 hq0; go_wp2_with fail
            go_meet
            case rel =>
             refine ⟨{ m with own := N.1 }, r, b, off, 0, by rw [HQQ.out], ⟨HN.out, hbB, hbg, by rw [HQQ.out]; omega, hzr, ho, hrs, ht⟩, ?_, hL3, hV3, hF3⟩; have := hF3.crow (HROW.out.2.2 (by first | trivial | rfl)) (fun b' off' k c e => by cases e; exact ⟨hbB, hbg⟩); rw [HQQ.out]; exact this
          · go_wp2_with fail
            go_meet
            case rel =>
             refine ⟨{ m with own := N.1 }, r, b, off + 2, cap - 1, by rw [HQQ.out], ⟨HN.out, hbB, hbg, by rw [HQQ.out]; omega, hzr, ho, hrs, ht⟩, ?_, hL3, hV3, hF3⟩; have := hF3.crow HROW.out.2.1 (fun b' off' k c e => by cases e; exact ⟨hbB, hbg⟩); rw [HQQ.out]; exact this
        · have HN := Nm.hide (HE1.out hN0); have d0 : (N.2 == 0) = false := by simpa using hN0
          clear HE1 HE2 hN0; go_wp2; go_ret; rw [HN.out]; exact ⟨hF2, rfl⟩
 case rest =>
  obtain ⟨m', ws', b', off', cap', rfl, HF, HROW, hL, hV, hF⟩ := hcut; have hBc : B ≤ wc.heap.size := Nat.le_trans hB hF.size; obtain ⟨c0, c1, c2, c3, c4, cf⟩ := mb_cells hL; obtain ⟨R1, R2, R3, R4, R5, R6, R7, R8⟩ := HF.out; have HR1 := Nm.hide R1; clear HF R1 HR HU HCE hLA hVA bA
  by_cases hs : m'.own.size = 0
  · obtain ⟨q1, q2⟩ := beq_empty hs; have HN : Hid (R = .inl 17) := by show _ = _; rw [HR1.out, bod_own hs]
    clear HR1 HROW hs; go_wp2; go_ret; rw [HN.out]; exact ⟨hF, rfl⟩
  · obtain ⟨q1, q2⟩ := not_empty (s := m'.own) (by omega); have hbt := l05Between_any _ ws' wc HROW.out R4 R5; obtain ⟨Q, HQ⟩ : ∃ Q, Hid (Q = btR ws') := ⟨_, rfl⟩; rw [← HQ.out] at hbt; unfold btV at hbt; have bad : ∀ e, Q = (0, 0, e, 0) → e ≠ 0 → R = .inl e → Hid (R = .inl Q.2.2.1 ∧ (Q.2.2.1 == 0) = false) := fun e h1 h2 h3 => ⟨by rw [h1]; exact h3, by rw [h1]; simpa using h2⟩
    have key : Hid (R = .inl Q.2.2.1 ∧ (Q.2.2.1 == 0) = false) ∨ ∃ t ty k, Hid (Q = (ty, optI t, 0, ((k + 1 : Nat) : Int)) ∧ k + 1 ≤ ws'.length) ∧ Hid (R = if timF m' t = -1 then .inl 18
     else if (readDS ty (ws'.drop (k + 1)) m'.org).2 ≠ 0 then .inl (readDS ty (ws'.drop (k + 1)) m'.org).2
     else if 500 ≤ m'.rs.length then .inl 12
     else .inr { laF m' t with rs := m'.rs ++ [⟨m'.own, ty, 1, timF m' t, (readDS ty (ws'.drop (k + 1)) m'.org).1⟩] }) := by
     cases hfr : frF ws' none none with
     | inl c => exact .inl (bad c (by rw [HQ.out, bt_err hfr]) (by rw [fr_code _ _ _ _ hfr]; decide) (by rw [HR1.out, bod_front hs hfr]))
     | inr tcr =>
       obtain ⟨t, c, r⟩ := tcr
       cases hty : tyF r with
       | inl e => exact .inl (bad e (by rw [HQ.out, bt_type hfr hty]) (ty_code hty) (by rw [HR1.out, bod_type hs hfr hty]))
       | inr ty =>
         have e1 := bod_rest hs hfr hty; have e2 := bt_rest hfr hty
         by_cases hcb : c.isSome = true ∧ c ≠ some 1
         · rw [if_pos hcb] at e1 e2; exact .inl (bad 19 (by rw [HQ.out, e2]) (by decide) (by rw [HR1.out, e1]))
         · rw [if_neg hcb] at e1 e2; obtain ⟨k, hk, rfl⟩ := fr_drop _ _ _ _ _ _ hfr; obtain ⟨y, q, hyq⟩ := tyF_cons hty; have hl := congrArg List.length hyq; rw [List.length_drop, List.length_cons] at hl; have e3 : (ws'.drop k).tail = ws'.drop (k + 1) := by rw [List.tail_drop]
           rw [e3] at e1; refine .inr ⟨t, ty, k, ⟨?_, by omega⟩, by show _ = _; rw [HR1.out, e1]⟩; rw [HQ.out, e2, List.length_drop]; congr 3; omega
    clear bad HR1 HQ hs
    rcases key with HN | ⟨t, ty, k, HK, HR2⟩
    · obtain ⟨HN1, d0⟩ := HN.out; have HN2 := Nm.hide HN1; clear HN1 HROW HN; go_wp2_with (go_at_call 75; refine hbt.mono ?_; rintro e w2 ⟨rfl, hb2⟩)
      go_ret; rw [HN2.out]; exact ⟨hF.trans (Frm.bel hb2 hBc), rfl⟩
    · obtain ⟨hK1, hK2⟩ := HK.out; rw [hK1] at hbt; simp only at hbt
      have HROW5 := Nm.hide (wd_drop (k + 1) HROW.out hK2); have hdl : (ws'.drop (k + 1)).length = ws'.length - (k + 1) := List.length_drop; have hqz : wsz (ws'.drop (k + 1)) ≤ 1048576 := by have := wsz_drop ws' (k + 1); omega
      obtain ⟨_, a9, cap9, e9, hcap9, _⟩ := id HROW.out; cases e9
      clear hK1 HK; generalize ws'.drop (k + 1) = q at *; generalize k + 1 = n at *; obtain ⟨tI, HTI⟩ : ∃ tI, Hid (tI = optI t) := ⟨_, rfl⟩; rw [← HTI.out] at hbt; have HLA : Hid ((laF m' t).org = m'.org ∧ (laF m' t).own = m'.own ∧ (laF m' t).rs = m'.rs) := ⟨rfl, rfl, rfl⟩; obtain ⟨TM, HTM⟩ : ∃ TM, Hid (TM = timF m' t) := ⟨_, rfl⟩; rw [← HTM.out] at HR2; clear Q; go_upto_if 59 with (go_at_call 75; refine hbt.mono ?_; rintro e w2 ⟨rfl, hb2⟩)
      have hL2 := hL.below hb2; have hV2 := own_below hV hb2; have hF2 := hF.trans (Frm.bel (g := g) hb2 hBc); have hB2 : B ≤ w2.heap.size := Nat.le_trans hBc hb2.size; have hu2 := Nm.hide (HROW.out.below hb2); have hu5 := Nm.hide (HROW5.out.below hb2); clear hL hV hF hb2 hbt HROW HROW5 c0 c1 c2 c3 c4 cf; obtain ⟨c0, c1, c2, c3, c4, cf⟩ := mb_cells hL2; have f3 := cf 3
      go_cut [9] from 59 to 75 (fun p wx => p = .int .i64 TM ∧ Hid (R = if (readDS ty q m'.org).2 ≠ 0 then .inl (readDS ty q m'.org).2
       else if 500 ≤ m'.rs.length then .inl 12
       else .inr { laF m' t with rs := m'.rs ++ [⟨m'.own, ty, 1, TM, (readDS ty q m'.org).1⟩] }) ∧ Mb (laF m' t) v wx g ∧ w2.grownBy wx (some g))
      case first =>
       cases t with
       | some n0 =>
         have g0 : (0 : Int) ≤ tI := by rw [HTI.out]; exact Int.natCast_nonneg _
         have HT : Hid (tI = TM) := by show _ = _; rw [HTI.out, HTM.out]; rfl
         have HM : Hid (TM ≠ -1) := by show _ ≠ _; rw [← HT.out]; omega
         have hL3 : Mb (laF m' (some n0)) v (w2.setCell ⟨g, 3, none⟩ (.int .i64 tI)) g := by rw [HTI.out]; exact mb_la hL2 _
         go_wp2; go_meet
         case rel => exact ⟨by rw [HT.out], by show _ = _; rw [HR2.out, if_neg HM.out], hL3, gr_set _ _ _ _⟩
       | none =>
         have g0 : ¬ (0 : Int) ≤ tI := by rw [HTI.out]; decide
         have HT : Hid (TM = if m'.us ≠ -1 then m'.us else m'.la) := HTM; have hL3 : Mb (laF m' none) v w2 g := hL2
         by_cases hus : m'.us = -1
         · have dus : m'.us < 0 := by omega
           have HT2 : Hid (TM = m'.la) := by show _ = _; rw [HT.out, if_neg (by simpa using hus)]
           by_cases hla : m'.la = -1
           · have dla : m'.la < 0 := by omega
             have HN : Hid (R = .inl 18) := by show _ = _; rw [HR2.out, if_pos (by rw [HT2.out]; exact hla)]
             clear HR2 HT HT2 HTM hus hla; go_wp2; go_ret; rw [HN.out]; exact ⟨hF2, rfl⟩
           · have dla : ¬ m'.la < 0 := by have := R8.2; omega
             have HM : Hid (TM ≠ -1) := by show _ ≠ _; rw [HT2.out]; exact hla
             clear HT HTM hus hla; go_wp2; go_meet
             case rel => exact ⟨by rw [HT2.out], by show _ = _; rw [HR2.out, if_neg HM.out], hL3, gr_refl _ _⟩
         · have dus : ¬ m'.us < 0 := by have := R8.1; omega
           have HT2 : Hid (TM = m'.us) := by show _ = _; rw [HT.out, if_pos (by simpa using hus)]
           have HM : Hid (TM ≠ -1) := by show _ ≠ _; rw [HT2.out]; exact hus
           clear HT HTM hus; go_wp2; go_meet
           case rel => exact ⟨by rw [HT2.out], by show _ = _; rw [HR2.out, if_neg HM.out], hL3, gr_refl _ _⟩
      case rest =>
       obtain ⟨rfl, HR4, hL5, g5⟩ := hcut; obtain ⟨w5, hw5⟩ : ∃ w5, w5 = wc := ⟨_, rfl⟩; subst hw5; have hV5 := own_grL hV2 g5 hg; have hF5 := hF2.trans (Frm.gr g5 hB2); have hB5 : B ≤ w5.heap.size := Nat.le_trans hB2 g5.size; have hua := (Frm.gr g5 hB2).crow hu2.out (fun b1 o1 k1 c1 e => by cases e; exact ⟨R2, R3⟩); have hub := (Frm.gr g5 hB2).crow hu5.out (fun b1 o1 k1 c1 e => by cases e; exact ⟨R2, R3⟩); have o5 : w5.cell? ⟨g, 0, none⟩ = some (.string m'.org) := (mb_cells hL5).1; have hdr : Below w5.heap.size w5 w5.drew := (Below.refl _ w5).drew; have hrd2 := specReadData_any ty _ q m'.org _ (by rw [hdl]; exact hdl ▸ hub.below hdr) (by omega) hqz R6
       have hrd3 : cap' = n → ∀ W, Calls Tryz.prog 6 #[.int .i64 ty, (.slice (some ⟨b', off', none⟩) (ws'.length - n) 0), .string m'.org] W fun e w' => e = .returned (strV (readDS ty q m'.org)) ∧ Below W.heap.size W w' := by
        intro hcn W; have q0 : q = [] := List.length_eq_zero_iff.1 (by omega); have e0 : ws'.length - n = 0 := by omega
        rw [q0, e0]; exact specReadData_any ty _ [] m'.org W ⟨rfl, _, 0, rfl, Nat.le_refl _, by decide, fun h => absurd h (by simp)⟩ (by simp) (by simp [wsz]) R6
       obtain ⟨D, hD⟩ : ∃ D, D = readDS ty q m'.org := ⟨_, rfl⟩; rw [← hD] at hrd2 hrd3 HR4; clear hD hua hub hu2 hu5 hL2 hV2 hF2 g5 c0 c1 c2 c3 c4 cf f3; unfold strV at *; have n1 : (0 : Int) ≤ (n : Int) := by omega
       have n2 : (n : Int) ≤ (ws'.length : Int) := by omega
       have n3 : (ws'.length : Int) ≤ (cap' : Int) := by omega
       go_upto_region 22 with fail
       go_cut [12, 10] from 76 to 87 (fun z1 z2 wx => z1 = .string D.1 ∧ z2 = .int .i64 D.2 ∧ Below w5.heap.size w5 wx)
       case first =>
        by_cases hc1 : cap' = n
        · subst hc1; have hrd := hrd3 rfl w5.drew; rw [Nat.sub_eq_zero_of_le hcap9] at hrd; clear hrd2 hrd3 HR4; refine wp_region_last (S := fun W => W.cell? ⟨g, 0, none⟩ = some (.string m'.org) ∧ True) (L := 1000) (by kernel_rfl) ⟨o5, trivial⟩ (fun hH => ?_); refine tkB 0 rfl ?_; refine tkB 1 rfl ?_; refine tkB 2 rfl ?_; refine tkB 3 rfl ?_; refine tkB 4 rfl ?_; refine tkB 5 rfl ?_; refine tkB 6 rfl ?_; refine tkB 7 rfl ?_; refine wpAnyL_one (i := 8) (by kernel_rfl) rfl (fun KQ hK' => ?_); go_simp; refine hrd.mono ?_; rintro e w6 ⟨rfl, hb6⟩; have hb6' : Below w5.heap.size w5 w6 := hdr.trans hb6; have o6 : w6.cell? ⟨g, 0, none⟩ = some (.string m'.org) := (hb6'.cell (World.block_lt_of_cell? w5 _ o5)).trans o5; clear hb6; go_wp2_with fail
          refine hK'.out _ _ ⟨o6, trivial⟩ (fun hH => ?_); clear hK' KQ; refine tkB 9 rfl ?_; refine tkB 10 rfl ?_; refine tkB 11 rfl ?_; refine tkB 12 rfl ?_; refine tkB 13 rfl ?_; refine wpAnyL_done (by kernel_rfl) ?_; clear hH; go_wp2_with fail
          go_meet
          case rel => exact ⟨rfl, rfl, hb6'⟩
        · have hrd := hrd2; clear hrd2 hrd3 HR4; refine wp_region_last (S := fun W => W.cell? ⟨g, 0, none⟩ = some (.string m'.org) ∧ True) (L := 1000) (by kernel_rfl) ⟨o5, trivial⟩ (fun hH => ?_); refine tkB 0 rfl ?_; refine tkB 1 rfl ?_; refine tkB 2 rfl ?_; refine tkB 3 rfl ?_; refine tkB 4 rfl ?_; refine tkB 5 rfl ?_; refine tkB 6 rfl ?_; refine tkB 7 rfl ?_; refine wpAnyL_one (i := 8) (by kernel_rfl) rfl (fun KQ hK' => ?_); go_simp; refine hrd.mono ?_; rintro e w6 ⟨rfl, hb6⟩; have hb6' : Below w5.heap.size w5 w6 := hdr.trans hb6; have o6 : w6.cell? ⟨g, 0, none⟩ = some (.string m'.org) := (hb6'.cell (World.block_lt_of_cell? w5 _ o5)).trans o5; clear hb6; go_wp2_with fail
          refine hK'.out _ _ ⟨o6, trivial⟩ (fun hH => ?_); clear hK' KQ; refine tkB 9 rfl ?_; refine tkB 10 rfl ?_; refine tkB 11 rfl ?_; refine tkB 12 rfl ?_; refine tkB 13 rfl ?_; refine wpAnyL_done (by kernel_rfl) ?_; clear hH; go_wp2_with fail
          go_meet
          case rel => exact ⟨rfl, rfl, hb6'⟩
       case rest =>
        obtain ⟨rfl, rfl, hb6⟩ := hcut; have hL6 := hL5.below hb6; have hV6 := own_below hV5 hb6; have hF6 := hF5.trans (Frm.bel (g := g) hb6 hB5); have hB6 : B ≤ wc.heap.size := Nat.le_trans hB5 hb6.size; clear hrd2 hrd3 hL5 hV5 hF5 hdr o5 hB5 hb6
        by_cases hD0 : D.2 = 0
        · have HR6 : Hid (R = if 500 ≤ m'.rs.length then .inl 12 else .inr { laF m' t with rs := m'.rs ++ [⟨m'.own, ty, 1, TM, D.1⟩] }) := by show _ = _; rw [HR4.out, if_neg (by simpa using hD0)]
          have d0 : (D.2 == 0) = true := by simpa using hD0
          obtain ⟨va, vc, rfl⟩ := own_sl hV6; obtain ⟨c4', c5', c6', c7', c8', cf'⟩ := mb_cells hL6; have r5 : wc.cell? ⟨g, 1, none⟩ = some (.string m'.own) := c5'; clear HR4 hD0 c4' c5' c6' c7'
          by_cases h5 : 500 ≤ m'.rs.length
          · have HN : Hid (R = .inl 12) := by show _ = _; rw [HR6.out, if_pos h5]
            have i5 : (500 : Int) ≤ (m'.rs.length : Int) := by omega
            clear HR6 h5; generalize m'.rs.length = rl at *; go_wp2; go_ret; rw [HN.out]; exact ⟨hF6, rfl⟩
          · have HN : Hid (R = .inr { laF m' t with rs := m'.rs ++ [⟨m'.own, ty, 1, TM, D.1⟩] }) := by show _ = _; rw [HR6.out, if_neg h5]
            have i5 : ¬ (500 : Int) ≤ (m'.rs.length : Int) := by omega
            obtain ⟨i0, hi, hz0, hz1, hz2⟩ := info_parts Tryz.infoRm; clear HR6; go_upto_region 27 with fail
            have hgw := hL6.lt; have a8 := fun O => (old_allocR hgw O 4).1.trans c8'
            have a5 := fun O => (old_allocR hgw O 1).1.trans r5
            refine wp_region_last (S := fun W => W.cell? ⟨g, 4, none⟩ = some (.slice va m'.rs.length vc) ∧ W.cell? ⟨g, 1, none⟩ = some (.string m'.own)) (L := 17) (by kernel_rfl) ⟨c8', r5⟩ (fun hH => ?_); refine tkB 0 rfl ?_; refine tkB 1 rfl ?_; refine tkB 2 rfl ?_; refine tkB 3 rfl ?_; refine tkB 4 rfl ?_; refine tkB 5 rfl ?_; refine tkB 6 rfl ?_; refine tkB 7 rfl ?_; refine tkB 8 rfl ?_; refine tkB 9 rfl ?_; refine tkB 10 rfl ?_; refine tkB 11 rfl ?_; refine tkB 12 rfl ?_; refine wpAnyL_one (i := 13) (by kernel_rfl) rfl (fun KQ hK' => ?_); go_simp; refine hK'.out _ _ ⟨a8 _, a5 _⟩ (fun hH => ?_); clear hK' KQ; have hVn := own_below (hV6.alloc (.cells #[.string m'.own, .int .i64 ty, .int .i64 1, .int .i64 TM, .string D.1] 80)) (Below.refl _ _).drew; have hLn : Mb (laF m' t) (.slice va m'.rs.length vc) (wc.alloc (.cells #[.string m'.own, .int .i64 ty, .int .i64 1, .int .i64 TM, .string D.1] 80)).drew g := hL6.below ((Below.refl _ wc).alloc (Nat.le_refl _) _).drew; have hFn := hF6.trans (Frm.bel (g := g) ((Below.refl _ wc).alloc (Nat.le_refl _) (.cells #[.string m'.own, .int .i64 ty, .int .i64 1, .int .i64 TM, .string D.1] 80)).drew hB6); have kn := blk_new wc #[.string m'.own, .int .i64 ty, .int .i64 1, .int .i64 TM, .string D.1] 80; refine wpAnyL_one (i := 14) (by kernel_rfl) rfl (fun KQ hK' => ?_); refine step_append_own rfl (.tmp 101) (.tmp 110) 30 rfl B 80 i0 (.agg #[.string ByteArray.empty, .int .i64 0, .int .i64 0, .int .i64 0, .string ByteArray.empty]) 5 56 Tryz.underlying30 hi hz0 hz1 hz2 rfl (by decide) _ _ _ (by go_simp) hVn ⟨wc.heap.size, 0, none⟩ 1 1 [.string m'.own, .int .i64 ty, .int .i64 1, .int .i64 TM, .string D.1] (by go_simp) rfl (fun j z hz => by rw [Nm.addr_add, Nat.zero_add]; exact (blk_cell kn j).trans (by simpa using hz)) (by intro z hz; simp at hz; rcases hz with rfl | rfl | rfl | rfl | rfl <;> rfl) (by unfold maxLen; omega) (by omega) (by simp [World.drew]; omega) ?_; intro v' w7 hown7 hgrow7 _; have hL7 := hLn.row hVn hgrow7 hg; have hF7 : Frm B g w w7 := hFn.trans ⟨hgrow7.os, hgrow7.tape, hgrow7.output, hgrow7.size, fun k hk _ => hgrow7.block k (by simp [World.drew]; omega) (fun e => by have := (hVn.lt k e.symm).1; omega), fun k cs c hk _ => hgrow7.block k (lt_some hk) (fun e => own_noline hVn hk e.symm)⟩; obtain ⟨xa, xc, rfl⟩ := own_sl hown7; obtain ⟨_, e5', _, _, e8', ef'⟩ := mb_cells hL7; have r5' : w7.cell? ⟨g, 1, none⟩ = some (.string m'.own) := e5'; have f8 := ef' 4; have hL8 := mb_rs hL7 (.slice xa (m'.rs.length + 1) xc) (m'.rs ++ [⟨m'.own, ty, 1, TM, D.1⟩]); have hV8 := own_far_lt (g := g) (i := 4) (y := .slice xa (m'.rs.length + 1) xc) hown7 hg; have hF8 := hF7.trans (Frm.gr (gr_set w7 g 4 (.slice xa (m'.rs.length + 1) xc)) (Nat.le_trans hB hF7.size))
            have HV8 : Hid ((w7.setCell ⟨g, 4, none⟩ (.slice xa (m'.rs.length + 1) xc)).ownsRow B 80 5 (.slice xa (m'.rs.length + 1) xc) (m'.rs ++ [(⟨m'.own, ty, 1, TM, D.1⟩ : Rr)]).length (rvVs (m'.rs ++ [(⟨m'.own, ty, 1, TM, D.1⟩ : Rr)]))) := by
             show World.ownsRow _ _ _ _ _ _ _
             rw [List.length_append]; have e : rvVs (m'.rs ++ [⟨m'.own, ty, 1, TM, D.1⟩]) = rvVs m'.rs ++ [.string m'.own, .int .i64 ty, .int .i64 1, .int .i64 TM, .string D.1] := by simp [rvVs, rvV]
             rw [e]; exact hV8
            clear hVn hLn hFn kn hown7 hgrow7 hV8 hL6 hV6 hF6; refine hK'.out _ _ ⟨e8', r5'⟩ (fun hH => ?_); clear hK' KQ; refine wpAnyL_one (i := 15) (by kernel_rfl) rfl (fun KQ hK' => ?_); go_simp; refine hK'.out _ _ ⟨e8', r5'⟩ (fun hH => ?_); clear hK' KQ; refine tkB 16 rfl ?_; refine wpAnyL_end (by kernel_rfl) rfl (by kernel_rfl) (fun KQ hK' => ?_); go_simp; refine hK'.out _ _ ?_; clear hK' KQ; go_wp2; go_ret; rw [HN.out]; exact ⟨hF8, rfl, _, hL8, HV8.out⟩
        · have HN : Hid (R = .inl D.2) := by show _ = _; rw [HR4.out, if_pos hD0]
          have d0 : (D.2 == 0) = false := by simpa using hD0
          clear HR4 hD0; go_wp2; go_ret; rw [HN.out]; exact ⟨hF6, rfl⟩
theorem dir_code {m : Ms} {ws : List Wrd} {c : Int} (h : dirF m ws = .inl c) : c ≠ 0 := by
 unfold dirF at h
 split at h
 · cases h; decide
 · split at h
   · cases h; decide
   · split at h
     · split at h
       · rename_i h1; cases h; exact h1
       · cases h
     · split at h
       · rename_i h1; cases h; exact h1
       · cases h
theorem bod_code {m : Ms} {ws : List Wrd} {c : Int} (h : bodF m ws = .inl c) : c ≠ 0 := by
 unfold bodF at h
 split at h
 · cases h; decide
 · cases hf : frF ws none none with
   | inl c => rw [hf] at h; cases h; rw [fr_code _ _ _ _ hf]; decide
   | inr tcr =>
     obtain ⟨t, c, r⟩ := tcr; rw [hf] at h; simp only at h
     cases ht : tyF r with
     | inl e => rw [ht] at h; cases h; exact ty_code ht
     | inr ty =>
       rw [ht] at h; simp only at h
       split at h
       · cases h; decide
       · split at h
         · cases h; decide
         · split at h
           · rename_i h1; cases h; exact h1
           · split at h
             · cases h; decide
             · cases h
theorem rec_code {m : Ms} {bl : Bool} {ws : List Wrd} {c : Int} (h : recF m bl ws = .inl c) : c ≠ 0 := by
 unfold recF at h
 split at h
 · exact bod_code h
 · split at h
   · cases h; decide
   · split at h
     · rename_i h1; cases h; exact h1
     · exact bod_code h
theorem dir_tm {m m' : Ms} {ws : List Wrd} (h : dirF m ws = .inr m') (ht : TmOk m) : TmOk m' := by
 unfold dirF at h
 split at h
 · cases h
 · split at h
   · cases h
   · split at h
     · split at h
       · cases h
       · cases h; exact ht
     · split at h
       · cases h
       · cases h
         have := (ttlS_rng (word1 ws 1).1).1; exact ⟨by show -1 ≤ (ttlS (word1 ws 1).1).1; omega, ht.2⟩
theorem bod_tm {m m' : Ms} {ws : List Wrd} (h : bodF m ws = .inr m') (ht : TmOk m) : TmOk m' := by
 unfold bodF at h
 split at h
 · cases h
 · cases hf : frF ws none none with
   | inl c => rw [hf] at h; cases h
   | inr tcr =>
     obtain ⟨t, c, r⟩ := tcr; rw [hf] at h; simp only at h
     cases hy : tyF r with
     | inl e => rw [hy] at h; cases h
     | inr ty =>
       rw [hy] at h; simp only at h
       split at h
       · cases h
       · split at h
         · cases h
         · split at h
           · cases h
           · split at h
             · cases h
             · cases h
               refine ⟨ht.1, ?_⟩
               cases t with
               | none => exact ht.2
               | some n => show -1 ≤ (n : Int); omega
theorem rec_tm {m m' : Ms} {bl : Bool} {ws : List Wrd} (h : recF m bl ws = .inr m') (ht : TmOk m) : TmOk m' := by
 unfold recF at h
 split at h
 · exact bod_tm h ht
 · split at h
   · cases h
   · split at h
     · cases h
     · exact bod_tm h ht
theorem lin_tm {m m' : Ms} {l : Ln} (h : linF m l = .inr m') (ht : TmOk m) : TmOk m' := by
 unfold linF at h
 split at h
 · exact dir_tm h ht
 · exact rec_tm h ht
theorem lin_code {m : Ms} {l : Ln} {c : Int} (h : linF m l = .inl c) : c ≠ 0 := by
 unfold linF at h
 split at h
 · exact dir_code h
 · exact rec_code h
/-- No word is empty that has no quotes. -/
def Full (ws : List Wrd) : Prop := ∀ x ∈ ws, x.2 = false → 0 < x.1.size
theorem full_snoc {ws : List Wrd} {x : Wrd} (h : Full ws) (hx : x.2 = false → 0 < x.1.size) : Full (ws ++ [x]) := by
 intro y hy
 rcases List.mem_append.1 hy with hy | hy
 · exact h y hy
 · rw [List.mem_singleton] at hy; subst hy; exact hx
theorem lnF_full (s : ByteArray) (num : Nat) : ∀ (k p n o : Nat) (ws : List Wrd), s.size - p ≤ k → p ≤ s.size → Full ws → ∀ p' n' ws', lnF s num p n o ws = .inr (p', n', ws') → Full ws' := by
 have fin : ∀ {p n : Nat} {ws : List Wrd} {p' n' : Nat} {ws' : List Wrd}, finL num p n ws = .inr (p', n', ws') → ws = ws' := by
  intro p n ws p' n' ws' h; unfold finL at h
  split at h
  · cases h
  · cases h; rfl
 intro k
 induction k with
 | zero =>
   intro p n o ws hk hp hf p' n' ws' h; have : ¬ p < s.size := by omega
   rw [lnF, dif_neg this] at h
   split at h
   · rw [← fin h]; exact hf
   · cases h
 | succ k ih =>
   intro p n o ws hk hp hf p' n' ws' h
   by_cases hlt : p < s.size
   · have go : ∀ q m o' ws2, p < q → q ≤ s.size → Full ws2 → lnF s num q m o' ws2 = .inr (p', n', ws') → Full ws' := by
      intro q m o' ws2 h1 h2 h3 h4; exact ih q m o' ws2 (by omega) h2 h3 p' n' ws' h4
     rw [lnF, dif_pos hlt] at h
     by_cases h10 : s[p] = 10
     · rw [dif_pos h10] at h
       split at h
       · rw [← fin h]; exact hf
       · exact go _ _ _ _ (by omega) (by omega) hf h
     · rw [dif_neg h10] at h
       split at h
       · exact go _ _ _ _ (by omega) (by omega) hf h
       · split at h
         · exact go _ _ _ _ (comE_gt hlt h10) (comE_le s p hp) hf h
         · split at h
           · split at h
             · exact go _ _ _ _ (by omega) (by omega) hf h
             · cases h
           · split at h
             · split at h
               · cases h
               · exact go _ _ _ _ (by omega) (by omega) hf h
             · split at h
               · split at h
                 · rename_i h0; have h1 := qutF_ge s (p + 1); obtain ⟨h2, -⟩ := qutF_lt s (p + 1) h0; exact go _ _ _ _ (by omega) (by omega) (full_snoc hf (fun e => by cases e)) h
                 · cases h
               · split at h
                 · rename_i h0; have h1 := barF_gt hlt h0.1 h0.2; have h2 := barF_le s p hp; refine go _ _ _ _ (by omega) (by omega) (full_snoc hf (fun _ => ?_)) h; show 0 < (s.extract p (barF s p).2).size
                   rw [ByteArray.size_extract]; omega
                 · cases h
   · rw [lnF, dif_neg hlt] at h
     split at h
     · rw [← fin h]; exact hf
     · cases h
theorem lsF_full (s : ByteArray) : ∀ (k p n : Nat) (acc : List Ln), s.size - p ≤ k → p ≤ s.size → (∀ l ∈ acc, Full l.ws) → ∀ ls, lsF s p n acc = .inr ls → ∀ l ∈ ls, Full l.ws := by
 intro k
 induction k with
 | zero =>
   intro p n acc hk hp ha ls h; rw [lsF_end (by omega)] at h; cases h
   exact ha
 | succ k ih =>
   intro p n acc hk hp ha ls h
   by_cases hlt : p < s.size
   · cases e : lnF s n p n 0 [] with
     | inl x =>
       obtain ⟨c, q⟩ := x; rw [lsF_err hlt e] at h
       cases h
     | inr x =>
       obtain ⟨p', n', ws⟩ := x; rw [lsF_ok hlt e] at h; obtain ⟨-, h2, h3, -⟩ := lnF_ok s n _ p n 0 [] (Nat.le_refl _) (by omega) _ _ _ e; have h4 := lnF_full s n _ p n 0 [] (Nat.le_refl _) (by omega) (fun x hx => by cases hx) _ _ _ e; refine ih p' n' _ (by have := h3 hlt; omega) h2 ?_ ls h; split
       · exact ha
       · intro l hl
         rcases List.mem_append.1 hl with hl | hl
         · exact ha l hl
         · rw [List.mem_singleton] at hl; subst hl; exact h4
   · rw [lsF_end hlt] at h; cases h
     exact ha
theorem lexR_full (s : ByteArray) : ∀ l ∈ (lexR s).ls, Full l.ws := by
 unfold lexR; split
 · intro l hl; cases hl
 · cases e : lsF s 0 1 [] with
   | inl x => intro l hl; cases hl
   | inr ls => exact lsF_full s _ 0 1 [] (Nat.le_refl _) (Nat.zero_le _) (by intro l hl; cases hl) ls e
/-- What comes of the lines. -/
def masE (r : Sum (Int × Nat) Ms) : List Rr × Int × Int := match r with
 | .inl (c, q) => ([], c, (q : Int))
 | .inr m => (m.rs, 0, 0)
theorem mas_bad {s o : ByteArray} (h : o.size ≠ 0 ∧ (Nm.split o).isSome = false) : masR s o = ([], 32, 0) := by rw [masR, if_pos h]
theorem mas_lex {s o : ByteArray} (h : ¬ (o.size ≠ 0 ∧ (Nm.split o).isSome = false)) (hc : (lexR s).co ≠ 0) : masR s o = ([], ((lexR s).co : Int), ((lexR s).at_ : Int)) := by rw [masR, if_neg h, if_pos hc]
theorem mas_lin {s o : ByteArray} (h : ¬ (o.size ≠ 0 ∧ (Nm.split o).isSome = false)) (hc : (lexR s).co = 0) : masR s o = masE (linsF ⟨o, ⟨#[]⟩, -1, -1, []⟩ (lexR s).ls) := by
 rw [masR, if_neg h, if_neg (by simpa using hc)]; rfl
/-- The model's lexer. -/
structure XB where
 p : Nat
 n : Nat
 o : Nat
 num : Nat
 bl : Bool
 u : Value
 fr : Bool
 vo : Value
 co : Nat
 pl : Nat
def xsA (s : ByteArray) (x : XB) : Array Value := #[.string s, .int .i64 x.p, .int .i64 x.n, .int .i64 x.o, .int .i64 x.num, .bool x.bl, x.u, .bool x.fr, x.vo, .int .i64 x.co, .int .i64 x.pl]
/-- It lies in block g, with its words and lines. -/
structure XS (W : World) (g : Nat) (s : ByteArray) (x : XB) (ws : List Wrd) (ps : List Lp) : Prop where
 k : Blk W g (xsA s x) 121
 row : ∃ B, g + 1 ≤ B ∧ B ≤ W.heap.size ∧ W.ownsRow B 40 2 x.u ws.length (wdVs ws) ∧ (x.fr = false → ∀ q ∈ ps, ∀ b, q.2.ownBlock = some b → b < B)
 out : LOwn W (g + 1) x.vo ps
theorem XS.cells {W : World} {g : Nat} {s : ByteArray} {x : XB} {ws : List Wrd} {ps : List Lp} (h : XS W g s x ws ps) :
 W.cell? ⟨g, 0, none⟩ = some (.string s) ∧ W.cell? ⟨g, 1, none⟩ = some (.int .i64 x.p) ∧ W.cell? ⟨g, 2, none⟩ = some (.int .i64 x.n) ∧ W.cell? ⟨g, 3, none⟩ = some (.int .i64 x.o) ∧ W.cell? ⟨g, 4, none⟩ = some (.int .i64 x.num) ∧ W.cell? ⟨g, 5, none⟩ = some (.bool x.bl) ∧ W.cell? ⟨g, 6, none⟩ = some x.u ∧ W.cell? ⟨g, 7, none⟩ = some (.bool x.fr) ∧ W.cell? ⟨g, 8, none⟩ = some x.vo ∧ W.cell? ⟨g, 9, none⟩ = some (.int .i64 x.co) ∧ W.cell? ⟨g, 10, none⟩ = some (.int .i64 x.pl) ∧ (∀ i, W.frozen? ⟨g, i, none⟩ = false) :=
 ⟨blk_cell h.k 0, blk_cell h.k 1, blk_cell h.k 2, blk_cell h.k 3, blk_cell h.k 4, blk_cell h.k 5, blk_cell h.k 6, blk_cell h.k 7, blk_cell h.k 8, blk_cell h.k 9, blk_cell h.k 10, fun i => blk_frozen h.k i⟩
theorem XS.lt {W : World} {g : Nat} {s : ByteArray} {x : XB} {ws : List Wrd} {ps : List Lp} (h : XS W g s x ws ps) : g < W.heap.size := blk_lt h.k
/-- The block alone is written. -/
theorem XS.grown {W W1 : World} {g : Nat} {s : ByteArray} {x y : XB} {ws : List Wrd} {ps : List Lp} (h : XS W g s x ws ps) (hg : W.grownBy W1 (some g)) (hk : Blk W1 g (xsA s y) 121) (hu : y.u = x.u) (hv : y.vo = x.vo) (hf : y.fr = false → x.fr = false) : XS W1 g s y ws ps := by
 obtain ⟨B, h1, h2, h3, h4⟩ := h.row; exact ⟨hk, ⟨B, h1, Nat.le_trans h2 hg.size, by rw [hu]; exact own_grL h3 hg h1, fun e => h4 (hf e)⟩, by rw [hv]; exact h.out.beside hg (fun k e => by simp at e; omega)⟩
/-- A word is put behind. -/
theorem XS.put {W W1 : World} {g B : Nat} {s : ByteArray} {x : XB} {ws : List Wrd} {ps : List Lp} {v' : Value} {y : Wrd} (hk0 : Blk W g (xsA s x) 121) (hO : LOwn W (g + 1) x.vo ps) (h1 : g + 1 ≤ B) (h2 : B ≤ W.heap.size) (h3 : W.ownsRow B 40 2 x.u ws.length (wdVs ws)) (h4 : ∀ q ∈ ps, ∀ b, q.2.ownBlock = some b → b < B)
 (ho : W1.ownsRow B 40 2 v' (ws.length + 1) (wdVs ws ++ wdV y)) (hg : W.grownBy W1 x.u.ownBlock) :
 Blk W1 g (xsA s x) 121 ∧ XS (W1.setCell ⟨g, 6, none⟩ v') g s { x with u := v' } (ws ++ [y]) ps ∧ Below g W (W1.setCell ⟨g, 6, none⟩ v') := by
 have k1 := blk_grown hk0 hg (own_blkL h3 hk0 (by decide)); have e : wdVs (ws ++ [y]) = wdVs ws ++ wdV y := by simp [wdVs]
 have hg2 := gr_set W1 g 6 v'
 have o1 : LOwn W1 (g + 1) x.vo ps := ⟨own_besideL hO.outer hg (own_kindsL hO.outer h3 (by decide)), fun i q hq => own_besideL (hO.inner i q hq) hg (fun b e1 e2 => by
  have := (h3.lt b e1).1; have := h4 q (List.mem_of_getElem? hq) b e2
  omega), hO.apart⟩
 refine ⟨k1, ⟨blk_set k1 6 v', ⟨B, h1, Nat.le_trans (Nat.le_trans h2 hg.size) hg2.size, ?_, fun _ => h4⟩, o1.beside hg2 (fun k e => by simp at e; omega)⟩, ?_⟩
 · rw [e, List.length_append]; exact own_grL ho hg2 h1
 · refine ⟨hg.os, hg.tape, hg.output, Nat.le_trans hg.size hg2.size, fun k hk => (hg2.block k (by have := blk_lt k1; omega) (by simp; omega)).trans (hg.block k (by have := blk_lt hk0; omega) (fun e1 => by have := (h3.lt k e1.symm).1; omega))⟩
theorem XS.drewN {W : World} {g : Nat} {s : ByteArray} {x : XB} {ws : List Wrd} {ps : List Lp} (h : XS W g s x ws ps) (k : Nat) : XS (W.drewN k) g s x ws ps := h.grown (gr_drewN W g k) h.k rfl rfl id
theorem bel_gr {B g : Nat} {w W : World} (h : w.grownBy W (some g)) (hg : B ≤ g) (hB : B ≤ w.heap.size) : Below B w W := ⟨h.os, h.tape, h.output, h.size, fun k hk => h.block k (by omega) (by simp; omega)⟩
set_option maxRecDepth 100000 in
set_option maxHeartbeats 800000 in
theorem l05Fail_any (g : Nat) (s : ByteArray) (x : XB) (ws : List Wrd) (ps : List Lp) (c q : Nat) (w : World) (h : XS w g s x ws ps) (h0 : x.co = 0) :
 Calls Tryz.prog 73 #[.pointer (some ⟨g, 0, none⟩), .int .i64 c, .int .i64 q] w fun e w' => e = .returned (.tuple #[]) ∧ XS w' g s { x with co := c, pl := q } ws ps ∧ w.grownBy w' (some g) := by
 obtain ⟨c0, c1, c2, c3, c4, c5, c6, c7, c8, c9, c10, hf⟩ := h.cells; rw [h0] at c9; have hk := blk_set (blk_set h.k 9 (.int .i64 (c : Int))) 10 (.int .i64 (q : Int)); have HG := Nm.hide (gr_trans (gr_set w g 9 (.int .i64 (c : Int))) (gr_set _ g 10 (.int .i64 (q : Int)))); have HX := Nm.hide (h.grown (y := { x with co := c, pl := q }) HG.out hk rfl rfl id); clear hk h; go_enter Tryz.func73, Tryz.ntmps73; go_wp2; refine bodyPost_end (v := .tuple #[]) (by simp [results, go_sem]) rfl ⟨rfl, HX.out, HG.out⟩
set_option maxRecDepth 100000 in
set_option maxHeartbeats 800000 in
theorem paren_openS (g : Nat) (s : ByteArray) (x : XB) (ws : List Wrd) (ps : List Lp) (c : UInt8) (w : World) (h : XS w g s x ws ps) (hp : x.p ≤ 1000000) (ho : x.o = 0) (hc : c = 40) :
 Calls Tryz.prog 136 #[.pointer (some ⟨g, 0, none⟩), .int .u8 (c.toNat : Int)] w fun e w' => e = .returned (.tuple #[]) ∧ XS w' g s { x with p := x.p + 1, o := x.n } ws ps ∧ w.grownBy w' (some g) := by
 obtain ⟨c0, c1, c2, c3, c4, c5, c6, c7, c8, c9, c10, hf⟩ := h.cells; rw [ho] at c3; have d : (c.toNat : Int) = 40 := by rw [hc]; rfl
 have hk := blk_set (blk_set h.k 1 (.int .i64 ((x.p + 1 : Nat) : Int))) 3 (.int .i64 (x.n : Int)); have HG := Nm.hide (gr_trans (gr_set w g 1 (.int .i64 ((x.p + 1 : Nat) : Int))) (gr_set _ g 3 (.int .i64 (x.n : Int)))); have HX := Nm.hide (h.grown (y := { x with p := x.p + 1, o := x.n }) HG.out hk rfl rfl id); simp only [Int.natCast_add, Int.natCast_one] at HX HG; clear hk h; go_enter Tryz.func136, Tryz.ntmps136; go_wp2; refine bodyPost_end (v := .tuple #[]) (by simp [results, go_sem]) rfl ⟨rfl, HX.out, HG.out⟩
set_option maxRecDepth 100000 in
set_option maxHeartbeats 800000 in
theorem paren_closeS (g : Nat) (s : ByteArray) (x : XB) (ws : List Wrd) (ps : List Lp) (c : UInt8) (w : World) (h : XS w g s x ws ps) (hp : x.p ≤ 1000000) (ho : x.o ≠ 0) (hc : c = 41) :
 Calls Tryz.prog 136 #[.pointer (some ⟨g, 0, none⟩), .int .u8 (c.toNat : Int)] w fun e w' => e = .returned (.tuple #[]) ∧ XS w' g s { x with p := x.p + 1, o := 0 } ws ps ∧ w.grownBy w' (some g) := by
 obtain ⟨c0, c1, c2, c3, c4, c5, c6, c7, c8, c9, c10, hf⟩ := h.cells; have d : (c.toNat : Int) = 41 := by rw [hc]; rfl
 have do1 : 0 < (x.o : Int) := by omega
 have hk := blk_set (blk_set h.k 1 (.int .i64 ((x.p + 1 : Nat) : Int))) 3 (.int .i64 ((0 : Nat) : Int)); have HG := Nm.hide (gr_trans (gr_set w g 1 (.int .i64 ((x.p + 1 : Nat) : Int))) (gr_set _ g 3 (.int .i64 ((0 : Nat) : Int)))); have HX := Nm.hide (h.grown (y := { x with p := x.p + 1, o := 0 }) HG.out hk rfl rfl id); simp only [Int.natCast_add, Int.natCast_one] at HX HG; clear hk h; go_enter Tryz.func136, Tryz.ntmps136; go_wp2; refine bodyPost_end (v := .tuple #[]) (by simp [results, go_sem]) rfl ⟨rfl, HX.out, HG.out⟩
set_option maxRecDepth 100000 in
set_option maxHeartbeats 800000 in
theorem paren_badS (g : Nat) (s : ByteArray) (x : XB) (ws : List Wrd) (ps : List Lp) (c : UInt8) (w : World) (h : XS w g s x ws ps) (hp : x.p ≤ 1000000) (h0 : x.co = 0) (hc : (c = 40 ∧ x.o ≠ 0) ∨ (c = 41 ∧ x.o = 0)) :
 Calls Tryz.prog 136 #[.pointer (some ⟨g, 0, none⟩), .int .u8 (c.toNat : Int)] w fun e w' => e = .returned (.tuple #[]) ∧ XS w' g s { x with p := x.p + 1, co := 14, pl := x.n } ws ps ∧ w.grownBy w' (some g) := by
 obtain ⟨c0, c1, c2, c3, c4, c5, c6, c7, c8, c9, c10, hf⟩ := h.cells; have hk := blk_set h.k 1 (.int .i64 ((x.p + 1 : Nat) : Int)); have HG := gr_set w g 1 (.int .i64 ((x.p + 1 : Nat) : Int)); have HX := h.grown (y := { x with p := x.p + 1 }) HG hk rfl rfl id; have hfa := l05Fail_any g s _ ws ps 14 x.n _ HX h0; have HGG := Nm.hide HG; simp only [Int.natCast_add, Int.natCast_one] at hfa HGG; clear hk h HX HG
 rcases hc with ⟨hc, ho⟩ | ⟨hc, ho⟩
 · have d : (c.toNat : Int) = 40 := by rw [hc]; rfl
   have do1 : ((x.o : Int) == 0) = false := by simp; omega
   go_enter Tryz.func136, Tryz.ntmps136; go_wp2_with (go_at_call 73; refine hfa.mono ?_; rintro e w2 ⟨rfl, hx2, hg2⟩)
   refine bodyPost_end (v := .tuple #[]) (by simp [results, go_sem]) rfl ⟨rfl, hx2, gr_trans HGG.out hg2⟩
 · have d : (c.toNat : Int) = 41 := by rw [hc]; rfl
   rw [ho] at c3; go_enter Tryz.func136, Tryz.ntmps136; go_wp2_with (go_at_call 73; refine hfa.mono ?_; rintro e w2 ⟨rfl, hx2, hg2⟩)
   refine bodyPost_end (v := .tuple #[]) (by simp [results, go_sem]) rfl ⟨rfl, hx2, gr_trans HGG.out hg2⟩
set_option maxRecDepth 100000 in
set_option maxHeartbeats 400000 in
theorem l05Blank_any (c : UInt8) (w : World) :
 Calls Tryz.prog 134 #[.int .u8 (c.toNat : Int)] w fun e w' => e = .returned (.bool (isBl c)) ∧ w' = w := by
 have e1 : ((c.toNat : Int) == 32) = (c == 32) := u8_eq c 32; have e2 : ((c.toNat : Int) == 9) = (c == 9) := u8_eq c 9; have e3 : ((c.toNat : Int) == 13) = (c == 13) := u8_eq c 13; have hb : isBl c = (c == 32 || c == 9 || c == 13) := rfl; rw [hb]; clear hb; cases h1 : (c == 32) <;> cases h2 : (c == 9) <;> cases h3 : (c == 13) <;> rw [h1] at e1 <;> rw [h2] at e2 <;> rw [h3] at e3 <;> clear h1 h2 h3 <;>
 · go_enter Tryz.func134, Tryz.ntmps134; go_wp2; go_ret; exact ⟨rfl, rfl⟩
set_option maxRecDepth 100000 in
set_option maxHeartbeats 800000 in
theorem l05Special_any (c : UInt8) (w : World) :
 Calls Tryz.prog 179 #[.int .u8 (c.toNat : Int)] w fun e w' => e = .returned (.bool (isSp c)) ∧ w' = w := by
 have e1 : ((c.toNat : Int) == 10) = (c == 10) := u8_eq c 10; have e2 : ((c.toNat : Int) == 59) = (c == 59) := u8_eq c 59; have e3 : ((c.toNat : Int) == 40) = (c == 40) := u8_eq c 40; have e4 : ((c.toNat : Int) == 41) = (c == 41) := u8_eq c 41; have e5 : ((c.toNat : Int) == 34) = (c == 34) := u8_eq c 34; have hib := fun W => l05Blank_any c W
 have hb : isSp c = (isBl c || c == 10 || c == 59 || c == 40 || c == 41 || c == 34) := rfl; rw [hb]; clear hb; generalize isBl c = b at *; generalize (c == 10) = b1 at *; generalize (c == 59) = b2 at *; generalize (c == 40) = b3 at *; generalize (c == 41) = b4 at *; generalize (c == 34) = b5 at *; cases b
 · cases b1
   · cases b2
     · cases b3
       · cases b4
         · cases b5 <;>
           · go_enter Tryz.func179, Tryz.ntmps179; go_wp2_with (go_at_call 134; refine (hib _).mono ?_; rintro e w' ⟨rfl, rfl⟩)
             go_ret; exact ⟨rfl, rfl⟩
         · go_enter Tryz.func179, Tryz.ntmps179; go_wp2_with (go_at_call 134; refine (hib _).mono ?_; rintro e w' ⟨rfl, rfl⟩)
           go_ret; exact ⟨rfl, rfl⟩
       · go_enter Tryz.func179, Tryz.ntmps179; go_wp2_with (go_at_call 134; refine (hib _).mono ?_; rintro e w' ⟨rfl, rfl⟩)
         go_ret; exact ⟨rfl, rfl⟩
     · go_enter Tryz.func179, Tryz.ntmps179; go_wp2_with (go_at_call 134; refine (hib _).mono ?_; rintro e w' ⟨rfl, rfl⟩)
       go_ret; exact ⟨rfl, rfl⟩
   · go_enter Tryz.func179, Tryz.ntmps179; go_wp2_with (go_at_call 134; refine (hib _).mono ?_; rintro e w' ⟨rfl, rfl⟩)
     go_ret; exact ⟨rfl, rfl⟩
 · go_enter Tryz.func179, Tryz.ntmps179; go_wp2_with (go_at_call 134; refine (hib _).mono ?_; rintro e w' ⟨rfl, rfl⟩)
   go_ret; exact ⟨rfl, rfl⟩
theorem special_q {c : UInt8} {w : World} (b : Bool) (hb : isSp c = b) (k : Nat) :
 Calls Tryz.prog 179 #[.int .u8 (c.toNat : Int)] (w.drewN k) fun e w' => e = .returned (.bool b) ∧ ∃ m, w' = w.drewN m := by
 subst hb; exact Calls.quiet_of_same (l05Special_any c _)
/-- What comes behind a line. -/
def contL (s : ByteArray) (num : Nat) (bl : Bool) (r : LR) (ls : List Ln) : LsR :=
 match r with
 | .inl (c, q) => .inl (c, q)
 | .inr (p, n, ws) => lsF s p n (if ws.length = 0 then ls else ls ++ [⟨num, bl, ws⟩])
/-- What comes of all. -/
def totX (s : ByteArray) (x : XB) (ws : List Wrd) (ls : List Ln) : LsR :=
 if x.co = 0 then (if x.fr = true then lsF s x.p x.n ls else contL s x.num x.bl (lnF s x.num x.p x.n x.o ws) ls) else .inl (x.co, x.pl)
theorem totX_bad {s : ByteArray} {x : XB} {ws : List Wrd} {ls : List Ln} (h : x.co ≠ 0) : totX s x ws ls = .inl (x.co, x.pl) := if_neg h
theorem totX_line {s : ByteArray} {x : XB} {ws : List Wrd} {ls : List Ln} (h : x.co = 0) (hf : x.fr = false) : totX s x ws ls = contL s x.num x.bl (lnF s x.num x.p x.n x.o ws) ls := by
 rw [totX, if_pos h, if_neg (by simp [hf])]
theorem totX_new {s : ByteArray} {x : XB} {ws : List Wrd} {ls : List Ln} (h : x.co = 0) (hf : x.fr = true) : totX s x ws ls = lsF s x.p x.n ls := by
 rw [totX, if_pos h, if_pos hf]
theorem lsF_cont {s : ByteArray} {p n : Nat} {ls : List Ln} (h : p < s.size) : lsF s p n ls = contL s n (isBl s[p]) (lnF s n p n 0 []) ls := by
 cases e : lnF s n p n 0 [] with
 | inl cq =>
   obtain ⟨c, q⟩ := cq
   exact lsF_err h e
 | inr r0 =>
   obtain ⟨p', n', ws⟩ := r0; exact lsF_ok h e
theorem lnF_dif {s : ByteArray} {num p n o : Nat} {ws : List Wrd} (h : p < s.size) (hn : s[p] = 10) (ho : o ≠ 0) : lnF s num p n o ws = lnF s num (p + 1) (n + 1) o ws := by
 rw [lnF, dif_pos h, dif_pos hn, if_neg ho]
theorem lnF_fin {s : ByteArray} {num p n : Nat} {ws : List Wrd} (h : p < s.size) (hn : s[p] = 10) : lnF s num p n 0 ws = finL num (p + 1) (n + 1) ws := by
 rw [lnF, dif_pos h, dif_pos hn, if_pos rfl]
theorem lnF_bl {s : ByteArray} {num p n o : Nat} {ws : List Wrd} (h : p < s.size) (hn : s[p] ≠ 10) (hb : isBl s[p] = true) : lnF s num p n o ws = lnF s num (p + 1) n o ws := by
 rw [lnF, dif_pos h, dif_neg hn, if_pos hb]
theorem lnF_com {s : ByteArray} {num p n o : Nat} {ws : List Wrd} (h : p < s.size) (hn : s[p] ≠ 10) (hb : isBl s[p] = false) (hc : s[p] = 59) : lnF s num p n o ws = lnF s num (comE s p) n o ws := by
 rw [lnF, dif_pos h, dif_neg hn, if_neg (by simp [hb]), if_pos hc]
theorem lnF_40 {s : ByteArray} {num p n o : Nat} {ws : List Wrd} (h : p < s.size) (hc : s[p] = 40) : lnF s num p n o ws = if o = 0 then lnF s num (p + 1) n n ws else .inl (14, n) := by
 rw [lnF, dif_pos h, dif_neg (by rw [hc]; decide), if_neg (by rw [hc]; decide), if_neg (by rw [hc]; decide), if_pos hc]
theorem lnF_41 {s : ByteArray} {num p n o : Nat} {ws : List Wrd} (h : p < s.size) (hc : s[p] = 41) : lnF s num p n o ws = if o = 0 then .inl (14, n) else lnF s num (p + 1) n 0 ws := by
 rw [lnF, dif_pos h, dif_neg (by rw [hc]; decide), if_neg (by rw [hc]; decide), if_neg (by rw [hc]; decide), if_neg (by rw [hc]; decide), if_pos hc]
theorem lnF_34 {s : ByteArray} {num p n o : Nat} {ws : List Wrd} (h : p < s.size) (hc : s[p] = 34) : lnF s num p n o ws = if (qutF s (p + 1)).1 = 0 then lnF s num ((qutF s (p + 1)).2 + 1) n o (ws ++ [(s.extract (p + 1) (qutF s (p + 1)).2, true)]) else .inl ((qutF s (p + 1)).1, n) := by
 rw [lnF, dif_pos h, dif_neg (by rw [hc]; decide), if_neg (by rw [hc]; decide), if_neg (by rw [hc]; decide), if_neg (by rw [hc]; decide), if_neg (by rw [hc]; decide), if_pos hc]
theorem lnF_bar {s : ByteArray} {num p n o : Nat} {ws : List Wrd} (h : p < s.size) (hc : isSp s[p] = false) : lnF s num p n o ws = if (barF s p).1 = 0 then lnF s num (barF s p).2 n o (ws ++ [(s.extract p (barF s p).2, false)]) else .inl ((barF s p).1, n) := by
 have hc0 := hc; simp only [isSp, Bool.or_eq_false_iff, beq_eq_false_iff_ne, ne_eq] at hc; obtain ⟨⟨⟨⟨⟨hb, h10⟩, h59⟩, h40⟩, h41⟩, h34⟩ := hc; rw [lnF, dif_pos h, dif_neg h10, if_neg (by simp [hb]), if_neg h59, if_neg h40, if_neg h41, if_neg h34]
 by_cases h0 : (barF s p).1 = 0
 · rw [dif_pos ⟨hc0, h0⟩, if_pos h0]
 · rw [dif_neg (fun h => h0 h.2), if_neg h0]
/-- What holds between steps. -/
def GdX (s : ByteArray) (x : XB) (ws : List Wrd) (ps : List Lp) : Prop :=
 x.co = 0 → x.p ≤ s.size ∧ x.n ≤ x.p + 1 ∧ (x.fr = true → x.o = 0 ∧ ps.length ≤ x.p) ∧ (x.fr = false → ws.length ≤ x.p ∧ ps.length + 1 ≤ x.p)
end Go.Proofs.YtddabafaejahbaaGreatDoor
