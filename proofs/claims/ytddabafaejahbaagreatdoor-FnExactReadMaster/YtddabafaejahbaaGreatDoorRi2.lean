import Derived.Test.YtddabafaejahbaaGreatDoorJICheck
/- impl.ReadData by its contract: the walk. -/
namespace Go.Proofs.YtddabafaejahbaaGreatDoor
open Go.RowKit
set_option linter.unusedVariables false
theorem capD_of {p : ByteArray × Int} (h : p.2 ≠ 0) : capD p = (⟨#[]⟩, p.2) := by rw [capD, if_pos h]
theorem capD_big {p : ByteArray × Int} (h : p.2 = 0) (h2 : 65535 < p.1.size) : capD p = (⟨#[]⟩, 7) := by rw [capD, if_neg (by simpa using h), if_pos h2]
theorem capD_fit {p : ByteArray × Int} (h : p.2 = 0) (h2 : ¬ 65535 < p.1.size) : capD p = (p.1, 0) := by rw [capD, if_neg (by simpa using h), if_neg h2]
theorem name_ask {o : ByteArray} {bo : Bool} (h : bo = (decide (o.size ≠ 0) && !(Nm.split o).isSome)) : bo = true ↔ (o.size ≠ 0 ∧ (Nm.split o).isSome = false) := by
 subst h; cases (Nm.split o).isSome <;> by_cases h0 : o.size = 0 <;> simp [h0]
set_option maxRecDepth 100000 in
set_option maxHeartbeats 8000000 in
theorem implReadData_any (t : Int) (v : Value) (ws : List Wrd) (o : ByteArray) (w : World) (h : CRow w v ws.length 2 (wdVs ws)) (hn : ws.length ≤ 1048576) (hz : wsz ws ≤ 1048576) (ho : o.size ≤ 1048576) (hs : Reads w) (hM0 : MnemAt w) :
 Calls Tryz.prog 8 #[.int .i64 t, v, .string o] w fun e w' => e = .returned (strV (readDS t ws o)) ∧ Below w.heap.size w w' := by
 obtain ⟨R, HR⟩ : ∃ R, Hid (R = readDS t ws o) := ⟨_, rfl⟩; rw [← HR.out]; have HC := Nm.hide h; obtain ⟨_, a, cap, rfl, hcap, hmx, hc⟩ := h; have HCC := Nm.hide hc; clear hc; have HS := Nm.hide hs; have HM := Nm.hide hM0; clear hs hM0
 by_cases ht : t < 0
 · have HN : Hid (R = (⟨#[]⟩, 6)) := by show _ = _; rw [HR.out, readDS, if_pos (.inl ht)]
   have d1 : decide (t < 0) = true := by simp; exact ht
   clear ht; go_enter Tryz.func8, Tryz.ntmps8; go_wp2; go_ret2; rw [HN.out]; exact ⟨rfl, Below.refl _ _⟩
 by_cases ht2 : 65535 < t
 · have HN : Hid (R = (⟨#[]⟩, 6)) := by show _ = _; rw [HR.out, readDS, if_pos (.inr ht2)]
   have d1 : decide (t < 0) = false := by simp; omega
   have d2 : decide (65535 < t) = true := by simp; exact ht2
   clear ht ht2; go_enter Tryz.func8, Tryz.ntmps8; go_wp2; go_ret2; rw [HN.out]; exact ⟨rfl, Below.refl _ _⟩
 have d1 : decide (t < 0) = false := by simp; omega
 have d2 : decide (65535 < t) = false := by simp; omega
 have H1 : Hid (R = if o.size ≠ 0 ∧ (Nm.split o).isSome = false then (⟨#[]⟩, 32) else if 300 < ws.length then (⟨#[]⟩, 11) else if isPl ws = true then plainS t ws.tail else formD t ws o) := by
  show _ = _
  rw [HR.out, readDS, if_neg (by omega)]
 clear HR; obtain ⟨bo, HB⟩ : ∃ bo, Hid (bo = (decide (o.size ≠ 0) && !(Nm.split o).isSome)) := ⟨_, rfl⟩; have hNO := fun W => implNameOK_any o W (by unfold maxLen; omega)
 go_enter Tryz.func8, Tryz.ntmps8; go_upto_region 3 with fail
 go_cut [19] from 19 to 26 (fun p wx => p = .bool bo ∧ Below w.heap.size w wx)
 case first =>
  by_cases h0 : o.size = 0
  · obtain ⟨q1, q2⟩ := beq_empty h0; have HE : Hid (bo = false) := by show _ = _; rw [HB.out]; simp [h0]
    clear h0 hNO; go_wp2; go_meet
    case rel => rw [HE.out]; exact ⟨rfl, Below.refl _ _⟩
  · obtain ⟨q1, q2⟩ := not_empty (s := o) (by omega); have HE : Hid (bo = !(Nm.split o).isSome) := by show _ = _; rw [HB.out]; simp [h0]
    clear h0; generalize (Nm.split o).isSome = sb at *; go_wp2_with (go_at_call 24; refine (hNO _).mono ?_; rintro e w1 ⟨rfl, hb1⟩)
    go_meet
    case rel => rw [HE.out]; exact ⟨rfl, hb1⟩
 case rest =>
  obtain ⟨rfl, hb1⟩ := hcut; clear hNO
  cases bo with
  | true =>
    have HN : Hid (R = (⟨#[]⟩, 32)) := by
     show _ = _
     rw [H1.out, if_pos ((name_ask HB.out).1 rfl)]
    go_wp2; go_ret2; rw [HN.out]
    exact ⟨rfl, hb1⟩
  | false =>
    have H2 : Hid (R = if 300 < ws.length then (⟨#[]⟩, 11) else if isPl ws = true then plainS t ws.tail else formD t ws o) := by
     show _ = _
     rw [H1.out, if_neg (fun h => by have := (name_ask HB.out).2 h; cases this)]
    clear H1 HB
    by_cases h3 : 300 < ws.length
    · have HN : Hid (R = (⟨#[]⟩, 11)) := by show _ = _; rw [H2.out, if_pos h3]
      have i3 : (300 : Int) < (ws.length : Int) := by omega
      go_wp2; go_ret2; rw [HN.out]; exact ⟨rfl, hb1⟩
    have i3 : ¬ (300 : Int) < (ws.length : Int) := by omega
    have H3 : Hid (R = if isPl ws = true then plainS t ws.tail else formD t ws o) := by show _ = _; rw [H2.out, if_neg h3]
    clear H2; go_upto_region 7 with fail
    go_cut [31] from 31 to 41 (fun p wx => p = .bool (isPl ws) ∧ wx = wc)
    case first =>
     by_cases h0 : ws.length = 0
     · have e0 : ws = [] := List.length_eq_zero_iff.1 h0; have j0 : ¬ (0 : Int) < (ws.length : Int) := by omega
       have HE : Hid (isPl ws = false) := by show _ = _; rw [e0]; rfl
       clear h0 e0; go_wp2; go_meet
       case rel => rw [HE.out]; exact ⟨rfl, rfl⟩
     · obtain ⟨x, xs, hxs⟩ := List.exists_cons_of_ne_nil (show ws ≠ [] from fun e => h0 (by rw [e]; rfl)); have hx : ws[0]? = some x := by rw [hxs]; rfl
       obtain ⟨b, off, rfl, hcell⟩ := HCC.out (by omega); have c0 : wc.cell? ⟨b, off, none⟩ = some (.string x.1) := (hb1.cell (World.block_lt_of_cell? w _ (hcell _ _ (wdVs_at ws 0 0 x hx (by decide))))).trans (hcell _ _ (wdVs_at ws 0 0 x hx (by decide))); have c1 : wc.cell? ⟨b, off + 1, none⟩ = some (.bool x.2) := (hb1.cell (World.block_lt_of_cell? w _ (hcell _ _ (wdVs_at ws 0 1 x hx (by decide))))).trans (hcell _ _ (wdVs_at ws 0 1 x hx (by decide))); have HE : Hid (isPl ws = (x.1.toList == [92, 35] && !x.2)) := by show _ = _; rw [hxs]; rfl
       have j0 : (0 : Int) < (ws.length : Int) := by omega
       clear h0 hx hxs hcell; obtain ⟨x1, x2⟩ := x; simp only at c0 c1 HE
       cases hm : (x1.toList == [92, 35]) with
       | false =>
         rw [hm, Bool.false_and] at HE; go_wp2; go_meet
         case rel => rw [HE.out]; exact ⟨rfl, rfl⟩
       | true =>
         rw [hm, Bool.true_and] at HE
         cases x2 with
         | false =>
           go_wp2; go_meet
           case rel => rw [HE.out]; exact ⟨rfl, rfl⟩
         | true =>
           go_wp2; go_meet
           case rel => rw [HE.out]; exact ⟨rfl, rfl⟩
    case rest =>
     obtain ⟨rfl, rfl⟩ := hcut
     cases hp : isPl ws with
     | true =>
       have HN : Hid (R = plainS t ws.tail) := by show _ = _; rw [H3.out, if_pos hp]
       cases ws with
       | nil => cases hp
       | cons x r =>
         have hrow := HC.out.below hb1; simp only [List.length_cons] at *; obtain ⟨b, off, rfl, _⟩ := HCC.out (by omega); obtain ⟨q1, q2, q3⟩ := wd_tail hrow; have hzr := wsz_tail hz; rw [List.tail_cons] at HN; have hp2 := readPlain_any t _ r wc q2 (by omega) hzr; have hp3 := fun h1 => readPlain_any t _ r wc (q3 h1) (by omega) hzr
         clear HC HCC H3 q2 q3 hrow hp HS HM; generalize plainS t r = P at *; unfold strV at *; generalize r.length = n at *
         by_cases hc1 : cap = 1
         · have hn0 : n = 0 := by omega
           subst hc1 hn0; have hp1 := hp3 rfl; clear hp2 hp3; go_wp2_with (go_at_call 25; refine hp1.mono ?_; rintro e w2 ⟨rfl, hb2⟩)
           go_ret2; rw [HN.out]; exact ⟨rfl, Nm.below_two hb1 hb2⟩
         · clear hp3; go_wp2_with (go_at_call 25; refine hp2.mono ?_; rintro e w2 ⟨rfl, hb2⟩)
           go_ret2; rw [HN.out]
           exact ⟨rfl, Nm.below_two hb1 hb2⟩
     | false =>
       have H4 : Hid (R = formD t ws o) := by show _ = _; rw [H3.out, if_neg (by rw [hp]; decide)]
       clear H3 hp; have htf := fun W => textForms_anyR W
       have hwf := wf_smallR (t := t) (by omega) (by omega)
       by_cases hex : ∃ F, (t, F) ∈ formTabR
       · obtain ⟨F, hF⟩ := hex; have H5 : Hid (R = capD (formP F ws o)) := by show _ = _; rw [H4.out, form_eq hF]
         obtain ⟨x0, hx0, hxt⟩ := ins_form hF; have hff := fun (W : World) (r : Nat) (L : List (Int × Value)) (hM : IMap W r L) hLF (hLI : ∀ x ∈ insTabR, ∃ v, (x.2, v) ∈ L) => form_foundR (w := W) hM hLF (by rw [← hxt]; exact hLI x0 hx0) hF hwf
         have hwr := fun W u (hW : Below w.heap.size w W) (hT : TFr W F u) => tf_reads (o := o) hF hT (HC.out.below hW) (by omega) hz ho (HS.out.below hW) (HM.out.below hW)
         clear hF hxt hx0 hwf H4 HC HCC HS HM h3; generalize formP F ws o = P at *; unfold strV at *
         rcases F with ks | bb
         · simp only [fnOfR] at hwr
           by_cases h0 : P.2 = 0
           · have d0 : (P.2 == 0) = true := by simpa using h0
             by_cases h1 : 65535 < P.1.size
             · have HN : Hid (R = (⟨#[]⟩, 7)) := by show _ = _; rw [H5.out, capD_big h0 h1]
               have d1 : (65535 : Int) < (P.1.size : Int) := by omega
               clear h0 h1 H5; go_wp2_with (first | (go_at_call 26; refine (htf _).mono ?_; rintro e w2 ⟨⟨r, L, rfl, hM, hLF, hLI⟩, hb2⟩; obtain ⟨vv, hlk, hT⟩ := hff w2 r L hM hLF hLI; obtain ⟨gc, G, y, rfl, hwc⟩ := hwr w2 vv (Nm.below_two hb1 hb2) hT; clear hM hLF hLI hT) | (go_at_call 110; refine (hwc _ ((Below.refl _ _).alloc (Nat.le_refl _) _)).mono ?_; rintro e w3 ⟨rfl, hb3⟩; have hb03 := Nm.below_two (Nm.below_two (Nm.below_two hb1 hb2) ((Below.refl _ _).alloc (Nat.le_refl _) _)) hb3))
               go_ret2; rw [HN.out]; exact ⟨rfl, hb03⟩
             · have HN : Hid (R = (P.1, 0)) := by show _ = _; rw [H5.out, capD_fit h0 h1]
               have d1 : ¬ (65535 : Int) < (P.1.size : Int) := by omega
               clear h0 h1 H5; go_wp2_with (first | (go_at_call 26; refine (htf _).mono ?_; rintro e w2 ⟨⟨r, L, rfl, hM, hLF, hLI⟩, hb2⟩; obtain ⟨vv, hlk, hT⟩ := hff w2 r L hM hLF hLI; obtain ⟨gc, G, y, rfl, hwc⟩ := hwr w2 vv (Nm.below_two hb1 hb2) hT; clear hM hLF hLI hT) | (go_at_call 110; refine (hwc _ ((Below.refl _ _).alloc (Nat.le_refl _) _)).mono ?_; rintro e w3 ⟨rfl, hb3⟩; have hb03 := Nm.below_two (Nm.below_two (Nm.below_two hb1 hb2) ((Below.refl _ _).alloc (Nat.le_refl _) _)) hb3))
               go_ret2; rw [HN.out]; exact ⟨rfl, hb03⟩
           · have HN : Hid (R = (⟨#[]⟩, P.2)) := by show _ = _; rw [H5.out, capD_of h0]
             have d0 : (P.2 == 0) = false := by simpa using h0
             clear h0 H5; go_wp2_with (first | (go_at_call 26; refine (htf _).mono ?_; rintro e w2 ⟨⟨r, L, rfl, hM, hLF, hLI⟩, hb2⟩; obtain ⟨vv, hlk, hT⟩ := hff w2 r L hM hLF hLI; obtain ⟨gc, G, y, rfl, hwc⟩ := hwr w2 vv (Nm.below_two hb1 hb2) hT; clear hM hLF hLI hT) | (go_at_call 110; refine (hwc _ ((Below.refl _ _).alloc (Nat.le_refl _) _)).mono ?_; rintro e w3 ⟨rfl, hb3⟩; have hb03 := Nm.below_two (Nm.below_two (Nm.below_two hb1 hb2) ((Below.refl _ _).alloc (Nat.le_refl _) _)) hb3))
             go_ret2; rw [HN.out]; exact ⟨rfl, hb03⟩
         · cases bb with
           | false =>
             simp only [fnOfR] at hwr
             by_cases h0 : P.2 = 0
             · have d0 : (P.2 == 0) = true := by simpa using h0
               by_cases h1 : 65535 < P.1.size
               · have HN : Hid (R = (⟨#[]⟩, 7)) := by show _ = _; rw [H5.out, capD_big h0 h1]
                 have d1 : (65535 : Int) < (P.1.size : Int) := by omega
                 clear h0 h1 H5; go_wp2_with (first | (go_at_call 26; refine (htf _).mono ?_; rintro e w2 ⟨⟨r, L, rfl, hM, hLF, hLI⟩, hb2⟩; obtain ⟨vv, hlk, hT⟩ := hff w2 r L hM hLF hLI; obtain ⟨gc, G, y, rfl, hwc⟩ := hwr w2 vv (Nm.below_two hb1 hb2) hT; clear hM hLF hLI hT) | (go_at_call 121; refine (hwc _ ((Below.refl _ _).alloc (Nat.le_refl _) _)).mono ?_; rintro e w3 ⟨rfl, hb3⟩; have hb03 := Nm.below_two (Nm.below_two (Nm.below_two hb1 hb2) ((Below.refl _ _).alloc (Nat.le_refl _) _)) hb3))
                 go_ret2; rw [HN.out]; exact ⟨rfl, hb03⟩
               · have HN : Hid (R = (P.1, 0)) := by show _ = _; rw [H5.out, capD_fit h0 h1]
                 have d1 : ¬ (65535 : Int) < (P.1.size : Int) := by omega
                 clear h0 h1 H5; go_wp2_with (first | (go_at_call 26; refine (htf _).mono ?_; rintro e w2 ⟨⟨r, L, rfl, hM, hLF, hLI⟩, hb2⟩; obtain ⟨vv, hlk, hT⟩ := hff w2 r L hM hLF hLI; obtain ⟨gc, G, y, rfl, hwc⟩ := hwr w2 vv (Nm.below_two hb1 hb2) hT; clear hM hLF hLI hT) | (go_at_call 121; refine (hwc _ ((Below.refl _ _).alloc (Nat.le_refl _) _)).mono ?_; rintro e w3 ⟨rfl, hb3⟩; have hb03 := Nm.below_two (Nm.below_two (Nm.below_two hb1 hb2) ((Below.refl _ _).alloc (Nat.le_refl _) _)) hb3))
                 go_ret2; rw [HN.out]; exact ⟨rfl, hb03⟩
             · have HN : Hid (R = (⟨#[]⟩, P.2)) := by show _ = _; rw [H5.out, capD_of h0]
               have d0 : (P.2 == 0) = false := by simpa using h0
               clear h0 H5; go_wp2_with (first | (go_at_call 26; refine (htf _).mono ?_; rintro e w2 ⟨⟨r, L, rfl, hM, hLF, hLI⟩, hb2⟩; obtain ⟨vv, hlk, hT⟩ := hff w2 r L hM hLF hLI; obtain ⟨gc, G, y, rfl, hwc⟩ := hwr w2 vv (Nm.below_two hb1 hb2) hT; clear hM hLF hLI hT) | (go_at_call 121; refine (hwc _ ((Below.refl _ _).alloc (Nat.le_refl _) _)).mono ?_; rintro e w3 ⟨rfl, hb3⟩; have hb03 := Nm.below_two (Nm.below_two (Nm.below_two hb1 hb2) ((Below.refl _ _).alloc (Nat.le_refl _) _)) hb3))
               go_ret2; rw [HN.out]
               exact ⟨rfl, hb03⟩
           | true =>
             simp only [fnOfR] at hwr
             by_cases h0 : P.2 = 0
             · have d0 : (P.2 == 0) = true := by simpa using h0
               by_cases h1 : 65535 < P.1.size
               · have HN : Hid (R = (⟨#[]⟩, 7)) := by show _ = _; rw [H5.out, capD_big h0 h1]
                 have d1 : (65535 : Int) < (P.1.size : Int) := by omega
                 clear h0 h1 H5; go_wp2_with (first | (go_at_call 26; refine (htf _).mono ?_; rintro e w2 ⟨⟨r, L, rfl, hM, hLF, hLI⟩, hb2⟩; obtain ⟨vv, hlk, hT⟩ := hff w2 r L hM hLF hLI; obtain ⟨gc, G, y, rfl, hwc⟩ := hwr w2 vv (Nm.below_two hb1 hb2) hT; clear hM hLF hLI hT) | (go_at_call 129; refine (hwc _ ((Below.refl _ _).alloc (Nat.le_refl _) _)).mono ?_; rintro e w3 ⟨rfl, hb3⟩; have hb03 := Nm.below_two (Nm.below_two (Nm.below_two hb1 hb2) ((Below.refl _ _).alloc (Nat.le_refl _) _)) hb3))
                 go_ret2; rw [HN.out]; exact ⟨rfl, hb03⟩
               · have HN : Hid (R = (P.1, 0)) := by show _ = _; rw [H5.out, capD_fit h0 h1]
                 have d1 : ¬ (65535 : Int) < (P.1.size : Int) := by omega
                 clear h0 h1 H5; go_wp2_with (first | (go_at_call 26; refine (htf _).mono ?_; rintro e w2 ⟨⟨r, L, rfl, hM, hLF, hLI⟩, hb2⟩; obtain ⟨vv, hlk, hT⟩ := hff w2 r L hM hLF hLI; obtain ⟨gc, G, y, rfl, hwc⟩ := hwr w2 vv (Nm.below_two hb1 hb2) hT; clear hM hLF hLI hT) | (go_at_call 129; refine (hwc _ ((Below.refl _ _).alloc (Nat.le_refl _) _)).mono ?_; rintro e w3 ⟨rfl, hb3⟩; have hb03 := Nm.below_two (Nm.below_two (Nm.below_two hb1 hb2) ((Below.refl _ _).alloc (Nat.le_refl _) _)) hb3))
                 go_ret2; rw [HN.out]; exact ⟨rfl, hb03⟩
             · have HN : Hid (R = (⟨#[]⟩, P.2)) := by show _ = _; rw [H5.out, capD_of h0]
               have d0 : (P.2 == 0) = false := by simpa using h0
               clear h0 H5; go_wp2_with (first | (go_at_call 26; refine (htf _).mono ?_; rintro e w2 ⟨⟨r, L, rfl, hM, hLF, hLI⟩, hb2⟩; obtain ⟨vv, hlk, hT⟩ := hff w2 r L hM hLF hLI; obtain ⟨gc, G, y, rfl, hwc⟩ := hwr w2 vv (Nm.below_two hb1 hb2) hT; clear hM hLF hLI hT) | (go_at_call 129; refine (hwc _ ((Below.refl _ _).alloc (Nat.le_refl _) _)).mono ?_; rintro e w3 ⟨rfl, hb3⟩; have hb03 := Nm.below_two (Nm.below_two (Nm.below_two hb1 hb2) ((Below.refl _ _).alloc (Nat.le_refl _) _)) hb3))
               go_ret2; rw [HN.out]; exact ⟨rfl, hb03⟩
       · have hno : ∀ F, (t, F) ∉ formTabR := fun F hF => hex ⟨F, hF⟩
         have HN : Hid (R = (⟨#[]⟩, 15)) := by show _ = _; rw [H4.out, form_none hno]
         have hff := fun (W : World) (r : Nat) (L : List (Int × Value)) (hM : IMap W r L) hLF => form_lostR (t := t) (w := W) hM hLF hno hwf
         clear hno hex hwf H4 HC HCC HS HM; go_wp2_with (go_at_call 26; refine (htf _).mono ?_; rintro e w2 ⟨⟨r, L, rfl, hM, hLF, hLI⟩, hb2⟩; have hlk := hff w2 r L hM hLF; have hbA := Nm.below_two (Nm.below_two hb1 hb2) ((Below.refl w2.heap.size w2).alloc (Nat.le_refl _) (.cells #[.nilFunc, .nilFunc] 53)); clear hM hLF hLI)
         go_ret2; rw [HN.out]; exact ⟨rfl, hbA⟩
end Go.Proofs.YtddabafaejahbaaGreatDoor
