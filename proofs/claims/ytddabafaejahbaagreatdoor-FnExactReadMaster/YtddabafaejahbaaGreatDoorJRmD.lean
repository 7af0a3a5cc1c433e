import Derived.Test.YtddabafaejahbaaGreatDoorJLxN
import Derived.Test.YtddabafaejahbaaGreatDoorJRead
import Derived.Deep.CutRange
import Derived.Test.YtddabafaejahbaaGreatDoorRows
import Derived.Laws.AppendOwn
import Derived.Deep.RegionHeld3
import Derived.Deep.RegionLaw
/- The parser's time and owner, by their contracts. -/
namespace Go.Proofs.YtddabafaejahbaaGreatDoor
open Go.RowKit
set_option linter.unusedVariables false
/-- The cells of a parser. -/
theorem ps_cells {m : Ms} {v : Value} {w : World} {g p n o : Nat} {s : ByteArray} (h : Lx (psR m v) w g s p n o) : w.cell? ⟨g, 4, none⟩ = some (.string m.org) ∧ w.cell? ⟨g, 5, none⟩ = some (.string m.own) ∧ w.cell? ⟨g, 6, none⟩ = some (.int .i64 m.us) ∧ w.cell? ⟨g, 7, none⟩ = some (.int .i64 m.la) ∧ w.cell? ⟨g, 8, none⟩ = some v ∧ (∀ i, w.frozen? ⟨g, i, none⟩ = false) :=
 ⟨(h.tail 0).trans rfl, (h.tail 1).trans rfl, (h.tail 2).trans rfl, (h.tail 3).trans rfl, (h.tail 4).trans rfl, h.cells.2.2.2.2⟩
theorem ps_org {m : Ms} {v : Value} {w : World} {g p n o : Nat} {s : ByteArray} (h : Lx (psR m v) w g s p n o) (x : ByteArray) : Lx (psR { m with org := x } v) (w.setCell ⟨g, 4, none⟩ (.string x)) g s p n o := h.put 0 (.string x) (by simp [psR])
theorem ps_own {m : Ms} {v : Value} {w : World} {g p n o : Nat} {s : ByteArray} (h : Lx (psR m v) w g s p n o) (x : ByteArray) : Lx (psR { m with own := x } v) (w.setCell ⟨g, 5, none⟩ (.string x)) g s p n o := h.put 1 (.string x) (by simp [psR])
theorem ps_us {m : Ms} {v : Value} {w : World} {g p n o : Nat} {s : ByteArray} (h : Lx (psR m v) w g s p n o) (x : Int) : Lx (psR { m with us := x } v) (w.setCell ⟨g, 6, none⟩ (.int .i64 x)) g s p n o := h.put 2 (.int .i64 x) (by simp [psR])
theorem ps_la {m : Ms} {v : Value} {w : World} {g p n o : Nat} {s : ByteArray} (h : Lx (psR m v) w g s p n o) (x : Int) : Lx (psR { m with la := x } v) (w.setCell ⟨g, 7, none⟩ (.int .i64 x)) g s p n o := h.put 3 (.int .i64 x) (by simp [psR])
theorem ps_rs {m : Ms} {v : Value} {w : World} {g p n o : Nat} {s : ByteArray} (h : Lx (psR m v) w g s p n o) (u : Value) (rs : List Rr) : Lx (psR { m with rs := rs } u) (w.setCell ⟨g, 8, none⟩ u) g s p n o := h.put 4 u (by simp [psR])
def laF (m : Ms) (t : Option Nat) : Ms := { m with la := (match t with | some n => (n : Int) | none => m.la) }
set_option maxRecDepth 100000 in
set_option maxHeartbeats 800000 in
theorem timeOf_any (m : Ms) (v : Value) (t c : Option Nat) (g p n o : Nat) (s : ByteArray) (w : World) (h : Lx (psR m v) w g s p n o) :
 Calls Tryz.prog 191 #[.pointer (some ⟨g, 0, none⟩), .agg #[.int .i64 (optI t), .int .i64 (optI c)]] w fun e w' => e = .returned (.int .i64 (timF m t)) ∧ Lx (psR (laF m t) v) w' g s p n o ∧ w.grownBy w' (some g) := by
 have hA := h.grown (b := none) (w' := w.alloc (.cells #[.int .i64 (optI t), .int .i64 (optI c)] 230)) ⟨rfl, rfl, rfl, by simp, fun k hk _ => heap_alloc_old _ _ hk⟩ (by simp); have g0 : w.grownBy (w.alloc (.cells #[.int .i64 (optI t), .int .i64 (optI c)] 230)) (some g) := gr_alloc _; obtain ⟨c4, c5, c6, c7, c8, hf⟩ := ps_cells hA; have k0 := blk_new w #[.int .i64 (optI t), .int .i64 (optI c)] 230; have hgl := h.lt
 cases t with
 | some q =>
   have d1 : (optI (some q) == -1) = false := by rw [beq_eq_false_iff_ne]; exact optI_ne rfl
   have hE : Lx (psR (laF m (some q)) v) ((w.setCell ⟨g, 7, none⟩ (.int .i64 (optI (some q)))).alloc (.cells #[.int .i64 (optI (some q)), .int .i64 (optI c)] 230)) g s p n o := (ps_la h (optI (some q))).grown (b := none) ⟨rfl, rfl, rfl, by simp, fun k hk _ => heap_alloc_old _ _ hk⟩ (by simp); have g1 : w.grownBy ((w.setCell ⟨g, 7, none⟩ (.int .i64 (optI (some q)))).alloc (.cells #[.int .i64 (optI (some q)), .int .i64 (optI c)] 230)) (some g) := gr_trans (gr_set _ g 7 (.int .i64 (optI (some q)))) (gr_alloc _); have e0 := (blk_cell k0 0).trans rfl; have e1 := (blk_cell (blk_far (b := w.heap.size) (c := g) (i := 7) (v := .int .i64 (optI (some q))) k0 (by omega)) 0).trans rfl; have HT : Hid (optI (some q) = timF m (some q)) := rfl; generalize optI (some q) = T at *; generalize optI c = C at *; go_enter Tryz.func191, Tryz.ntmps191; go_wp2; go_ret; rw [← HT.out]
   exact ⟨rfl, hE, g1⟩
 | none =>
   have d1 : (optI none == -1) = true := rfl
   by_cases hu : m.us = -1
   · have HT : Hid (timF m none = m.la) := by show _ = _; rw [timF, if_neg (by simpa using hu)]
     have d2 : (m.us == -1) = true := by rw [beq_iff_eq]; exact hu
     go_enter Tryz.func191, Tryz.ntmps191; go_wp2; go_ret; rw [HT.out]; exact ⟨rfl, hA, g0⟩
   · have HT : Hid (timF m none = m.us) := by show _ = _; rw [timF, if_pos hu]
     have d2 : (m.us == -1) = false := by rw [beq_eq_false_iff_ne]; exact hu
     go_enter Tryz.func191, Tryz.ntmps191; go_wp2; go_ret; rw [HT.out]; exact ⟨rfl, hA, g0⟩
/-- What newOwner answers. -/
def nwF (m : Ms) (x : Wrd) : Sum Int Ms := if x.2 = true then .inl 15 else if (readS x.1 m.org).2 ≠ 0 then .inl (readS x.1 m.org).2 else .inr { m with own := (readS x.1 m.org).1 }
/-- An error, or none and the parser as it is then. -/
def PsP (g : Nat) (s : ByteArray) (p n o : Nat) (v : Value) (w : World) (r : Sum Int Ms) (e : Ending) (w' : World) : Prop :=
 w.grownBy w' (some g) ∧ match r with
 | .inl c => e = .returned (codI c)
 | .inr m => e = .returned .nilIface ∧ Lx (psR m v) w' g s p n o
set_option maxRecDepth 100000 in
set_option maxHeartbeats 1600000 in
theorem newOwner_any (m : Ms) (v : Value) (x : Wrd) (g p n o : Nat) (s : ByteArray) (w : World) (h : Lx (psR m v) w g s p n o) (ho : m.org.size ≤ 1048576) :
 Calls Tryz.prog 188 #[.pointer (some ⟨g, 0, none⟩), .agg #[.string x.1, .bool x.2]] w (PsP g s p n o v w (nwF m x)) := by
 have hgl := h.lt; have g0 : w.grownBy (w.alloc (.cells #[.string x.1, .bool x.2] 40)) (some g) := gr_alloc _; have hA := h.grown (b := none) (w' := w.alloc (.cells #[.string x.1, .bool x.2] 40)) ⟨rfl, rfl, rfl, by simp, fun k hk _ => heap_alloc_old _ _ hk⟩ (by simp); have hRN := fun W => implReadName_any x.1 m.org W (by unfold maxLen; omega)
 obtain ⟨x1, x2⟩ := x; simp only at hRN hA g0
 cases x2 with
 | true =>
   have hr : nwF m (x1, true) = .inl 15 := by rw [nwF, if_pos rfl]
   rw [hr]; clear hRN; go_enter Tryz.func188, Tryz.ntmps188; go_wp2; go_ret
   exact ⟨g0, rfl⟩
 | false =>
   obtain ⟨N, hN⟩ : ∃ N, N = readS x1 m.org := ⟨_, rfl⟩; have hr : nwF m (x1, false) = if N.2 ≠ 0 then .inl N.2 else .inr { m with own := N.1 } := by rw [hN]; rfl
   rw [← hN] at hRN; obtain ⟨R, HR⟩ : ∃ R, Hid (R = nwF m (x1, false)) := ⟨_, rfl⟩; rw [← HR.out]; have HE : Hid (R = if N.2 ≠ 0 then .inl N.2 else .inr { m with own := N.1 }) := by show _ = _; rw [HR.out, hr]
   clear hr hN HR; obtain ⟨c4, c5, c6, c7, c8, hf⟩ := ps_cells hA; have k0 := blk_new w #[.string x1, .bool false] 40; have hEr := fun W => errorOf_any N.2 W
   go_enter Tryz.func188, Tryz.ntmps188; go_wp2_with fail
   refine wp_region_last (S := fun W => W.cell? ⟨w.heap.size, 0, none⟩ = some (.string x1) ∧ W.cell? ⟨g, 4, none⟩ = some (.string m.org)) (L := 1000) (by kernel_rfl) ⟨(blk_cell k0 0).trans rfl, c4⟩ (fun hH => ?_); refine tkB 0 rfl ?_; refine tkB 1 rfl ?_; refine tkB 2 rfl ?_; refine tkB 3 rfl ?_; refine tkB 4 rfl ?_; refine tkB 5 rfl ?_; refine tkB 6 rfl ?_; refine wpAnyL_one (i := 7) (by kernel_rfl) rfl (fun KQ hK' => ?_); go_simp; refine (hRN _).mono ?_; rintro e w2 ⟨rfl, hb2⟩; have hL2 : Lx (psR m v) w2 g s p n o := Lx.below (w := (w.alloc (.cells #[.string x1, .bool false] 40)).drew) hA hb2; have g2 : w.grownBy w2 (some g) := gr_belL (gr_trans g0 (gr_drew _ g)) hb2; have kk : Blk w2 w.heap.size #[.string x1, .bool false] 40 := blk_below (w := (w.alloc (.cells #[.string x1, .bool false] 40)).drew) k0 hb2; obtain ⟨q4, q5, q6, q7, q8, qf⟩ := ps_cells hL2; have s0 := (blk_cell kk 0).trans rfl; have q5f := qf 5; have hL3 := ps_own hL2 N.1; have g3 := gr_trans g2 (gr_set w2 g 5 (.string N.1)); have s0' := (blk_cell (blk_far (c := g) (i := 5) (v := .string N.1) kk (by omega)) 0).trans rfl; obtain ⟨r4, _⟩ := ps_cells hL3; clear hb2 hRN c4 c5 c6 c7 c8 hf k0 hA hL2 g2 g0 kk; go_wp2_with fail
   refine hK'.out _ _ ⟨s0, q4⟩ (fun hH => ?_); clear hK' KQ; refine tkB 8 rfl ?_; refine tkB 9 rfl ?_; refine tkB 10 rfl ?_; refine tkB 11 rfl ?_; refine tkB 12 rfl ?_; refine wpAnyL_one (i := 13) (by kernel_rfl) rfl (fun KQ hK' => ?_); go_simp; refine hK'.out _ _ ⟨s0', r4⟩ (fun hH => ?_); clear hK' KQ; refine tkB 14 rfl ?_; refine wpAnyL_done (by kernel_rfl) ?_; clear hH
   by_cases h0 : N.2 = 0
   · have HN : Hid (R = .inr { m with own := N.1 }) := by show _ = _; rw [HE.out, if_neg (by simpa using h0)]
     rw [if_pos h0] at hEr; clear HE h0; go_wp2_with (go_at_call 187; refine (hEr _).mono ?_; rintro e w4 ⟨rfl, hw⟩; obtain rfl := hw.symm; clear hw)
     go_ret; rw [HN.out]; exact ⟨g3, rfl, hL3⟩
   · have HN : Hid (R = .inl N.2) := by show _ = _; rw [HE.out, if_pos h0]
     rw [if_neg h0] at hEr; clear HE h0; go_wp2_with (go_at_call 187; refine (hEr _).mono ?_; rintro e w4 ⟨rfl, hw⟩; obtain rfl := hw.symm; clear hw)
     go_ret; rw [HN.out]; exact ⟨g3, rfl⟩
theorem dir_other {m : Ms} {ws : List Wrd} (h1 : ((Nm.small (word1 ws 0).1).toList == [36, 111, 114, 105, 103, 105, 110]) = false) (h2 : ((Nm.small (word1 ws 0).1).toList == [36, 116, 116, 108]) = false) : dirF m ws = .inl 16 := by rw [dirF, if_pos ⟨h1, h2⟩]
theorem dir_word {m : Ms} {ws : List Wrd} (h1 : ¬ (((Nm.small (word1 ws 0).1).toList == [36, 111, 114, 105, 103, 105, 110]) = false ∧ ((Nm.small (word1 ws 0).1).toList == [36, 116, 116, 108]) = false)) (h2 : ws.length ≠ 2 ∨ (word1 ws 1).2 = true) : dirF m ws = .inl 15 := by rw [dirF, if_neg h1, if_pos h2]
set_option maxRecDepth 100000 in
set_option maxHeartbeats 3200000 in
theorem directive_any (m : Ms) (v u : Value) (ws : List Wrd) (g p n o : Nat) (s : ByteArray) (w : World) (h : Lx (psR m v) w g s p n o) (ho : m.org.size ≤ 1048576) (hu : CRow w u ws.length 2 (wdVs ws)) (h0 : 0 < ws.length) (hz : wsz ws ≤ 1000000) (hbg : ∀ b off k c, u = .slice (some ⟨b, off, none⟩) k c → b ≠ g) :
 Calls Tryz.prog 143 #[.pointer (some ⟨g, 0, none⟩), u] w (PsP g s p n o v w (dirF m ws)) := by
 obtain ⟨R, HR⟩ : ∃ R, Hid (R = dirF m ws) := ⟨_, rfl⟩; rw [← HR.out]; obtain ⟨_, a, cap, rfl, hcap, hmx, hc⟩ := hu; obtain ⟨b, off, rfl, hcell⟩ := hc h0; have hne := hbg b off _ _ rfl; obtain ⟨x, hx⟩ : ∃ x, ws[0]? = some x := ⟨_, List.getElem?_eq_getElem h0⟩; have hx0 : word1 ws 0 = x := by rw [word1, List.getD_eq_getElem?_getD, hx]; rfl
 have c0 : w.cell? ⟨b, off, none⟩ = some (.string x.1) := hcell _ _ (wdVs_at ws 0 0 x hx (by decide)); have hxz := wsz_mem (List.mem_of_getElem? hx); have hfo := foldText_any x.1 w (by omega); have hEr := fun c W => errorOf_any c W
 have n0 : (0 : Int) < (ws.length : Int) := by omega
 have HW := Nm.hide hcell; have HZ := Nm.hide hz; have HX := Nm.hide hx0; obtain ⟨k, hk⟩ : ∃ k, k = Nm.small x.1 := ⟨_, rfl⟩; rw [← hk] at hfo; have HK : Hid (Nm.small (word1 ws 0).1 = k) := by show _ = _; rw [hx0, hk]
 clear hcell hc hx hx0 hk hz hxz hmx
 cases hA : (k.toList == [36, 111, 114, 105, 103, 105, 110]) with
 | false =>
   cases hB : (k.toList == [36, 116, 116, 108]) with
   | false =>
     have HN : Hid (R = .inl 16) := by show _ = _; rw [HR.out, dir_other (by rw [HK.out]; exact hA) (by rw [HK.out]; exact hB)]
     have hE := hEr 16; rw [if_neg (by decide)] at hE; clear HR hEr HK HW; go_enter Tryz.func143, Tryz.ntmps143; go_wp2_with (first | (go_at_call 186; refine hfo.mono ?_; rintro e w1 ⟨rfl, hb1⟩) | (go_at_call 187; refine (hE _).mono ?_; rintro e w2 ⟨rfl, hw⟩; obtain rfl := hw.symm; clear hw))
     go_ret; rw [HN.out]
     exact ⟨gr_belL (gr_refl _ _) hb1, rfl⟩
   | true =>
     have HNB : Hid (¬ (((Nm.small (word1 ws 0).1).toList == [36, 111, 114, 105, 103, 105, 110]) = false ∧ ((Nm.small (word1 ws 0).1).toList == [36, 116, 116, 108]) = false)) := by
      rintro ⟨_, h2⟩; rw [HK.out, hB] at h2; cases h2
     by_cases hl : ws.length = 2
     · obtain ⟨y, hy⟩ : ∃ y, ws[1]? = some y := ⟨_, List.getElem?_eq_getElem (by omega)⟩; have hy1 : word1 ws 1 = y := by rw [word1, List.getD_eq_getElem?_getD, hy]; rfl
       have e2 : w.cell? ⟨b, off + 2, none⟩ = some (.string y.1) := HW.out _ _ (wdVs_at ws 1 0 y hy (by decide)); have e3 : w.cell? ⟨b, off + 3, none⟩ = some (.bool y.2) := HW.out _ _ (wdVs_at ws 1 1 y hy (by decide)); have hyz := wsz_mem (List.mem_of_getElem? hy); have hzz := HZ.out
       cases hq : y.2 with
       | true =>
         have HN : Hid (R = .inl 15) := by show _ = _; rw [HR.out, dir_word HNB.out (.inr (by rw [hy1]; exact hq))]
         rw [hq] at e3; clear HNB hy hy1; rw [hl] at *; have hE := hEr 15; rw [if_neg (by decide)] at hE; clear HR hEr HK HW; go_enter Tryz.func143, Tryz.ntmps143; go_wp2_with (first | (go_at_call 186; refine hfo.mono ?_; rintro e w1 ⟨rfl, hb1⟩; try (have e2' := (hb1.cell (World.block_lt_of_cell? w _ e3)).trans e3)) | (go_at_call 187; refine (hE _).mono ?_; rintro e w2 ⟨rfl, hw⟩; obtain rfl := hw.symm; clear hw))
         go_ret; rw [HN.out]
         exact ⟨gr_belL (gr_refl _ _) hb1, rfl⟩
       | false =>
         rw [hq] at e3
         have HE : Hid (R = if (ttlS y.1).2 ≠ 0 then .inl (ttlS y.1).2 else .inr { m with us := (ttlS y.1).1 }) := by
          show _ = _
          rw [HR.out, dirF, if_neg HNB.out, if_neg (by rw [hy1, hq, hl]; simp), if_neg (by rw [HK.out, hA]; decide), hy1]
         have hTT := fun W => implReadTTL_any y.1 W
         generalize ttlS y.1 = T at *; unfold ttlV at hTT; clear HR HNB hy hy1 HK HW; rw [hl] at *
         by_cases hT0 : T.2 = 0
         · have HN : Hid (R = .inr { m with us := T.1 }) := by show _ = _; rw [HE.out, if_neg (by simpa using hT0)]
           have hE := hEr T.2; rw [if_pos hT0] at hE; clear HE hEr hT0; go_enter Tryz.func143, Tryz.ntmps143; go_wp2_with (first | (go_at_call 186; refine hfo.mono ?_; rintro e w1 ⟨rfl, hb1⟩; have e2' := (hb1.cell (World.block_lt_of_cell? w _ e2)).trans e2; have e3' := (hb1.cell (World.block_lt_of_cell? w _ e3)).trans e3; have hL1 := h.below hb1; obtain ⟨q4, q5, q6, q7, q8, qf⟩ := ps_cells hL1) | (go_at_call 109; refine (hTT _).mono ?_; rintro e w2 ⟨rfl, hw⟩; obtain rfl := hw.symm; clear hw) | (go_at_call 187; refine (hE _).mono ?_; rintro e w2 ⟨rfl, hw⟩; obtain rfl := hw.symm; clear hw))
           go_ret; rw [HN.out]; exact ⟨gr_trans (gr_belL (gr_refl _ _) hb1) (gr_set _ g 6 (.int .i64 T.1)), rfl, ps_us hL1 T.1⟩
         · have HN : Hid (R = .inl T.2) := by show _ = _; rw [HE.out, if_pos hT0]
           have hE := hEr T.2; rw [if_neg hT0] at hE; clear HE hEr hT0; go_enter Tryz.func143, Tryz.ntmps143; go_wp2_with (first | (go_at_call 186; refine hfo.mono ?_; rintro e w1 ⟨rfl, hb1⟩; have e2' := (hb1.cell (World.block_lt_of_cell? w _ e2)).trans e2; have e3' := (hb1.cell (World.block_lt_of_cell? w _ e3)).trans e3; have hL1 := h.below hb1; obtain ⟨q4, q5, q6, q7, q8, qf⟩ := ps_cells hL1) | (go_at_call 109; refine (hTT _).mono ?_; rintro e w2 ⟨rfl, hw⟩; obtain rfl := hw.symm; clear hw) | (go_at_call 187; refine (hE _).mono ?_; rintro e w2 ⟨rfl, hw⟩; obtain rfl := hw.symm; clear hw))
           go_ret; rw [HN.out]; exact ⟨gr_trans (gr_belL (gr_refl _ _) hb1) (gr_set _ g 6 (.int .i64 T.1)), rfl⟩
     · have HN : Hid (R = .inl 15) := by show _ = _; rw [HR.out, dir_word HNB.out (.inl hl)]
       have d2 : ((ws.length : Int) == 2) = false := by rw [beq_eq_false_iff_ne]; omega
       have d3 : ((ws.length : Int) != 2) = true := by simp; omega
       have e3 : True := trivial; clear HNB; have hE := hEr 15; rw [if_neg (by decide)] at hE; clear HR hEr HK HW; go_enter Tryz.func143, Tryz.ntmps143; go_wp2_with (first | (go_at_call 186; refine hfo.mono ?_; rintro e w1 ⟨rfl, hb1⟩; try (have e2' := (hb1.cell (World.block_lt_of_cell? w _ e3)).trans e3)) | (go_at_call 187; refine (hE _).mono ?_; rintro e w2 ⟨rfl, hw⟩; obtain rfl := hw.symm; clear hw))
       go_ret; rw [HN.out]
       exact ⟨gr_belL (gr_refl _ _) hb1, rfl⟩
 | true =>
   have HNB : Hid (¬ (((Nm.small (word1 ws 0).1).toList == [36, 111, 114, 105, 103, 105, 110]) = false ∧ ((Nm.small (word1 ws 0).1).toList == [36, 116, 116, 108]) = false)) := by
    rintro ⟨h2, _⟩; rw [HK.out, hA] at h2; cases h2
   by_cases hl : ws.length = 2
   · obtain ⟨y, hy⟩ : ∃ y, ws[1]? = some y := ⟨_, List.getElem?_eq_getElem (by omega)⟩; have hy1 : word1 ws 1 = y := by rw [word1, List.getD_eq_getElem?_getD, hy]; rfl
     have e2 : w.cell? ⟨b, off + 2, none⟩ = some (.string y.1) := HW.out _ _ (wdVs_at ws 1 0 y hy (by decide)); have e3 : w.cell? ⟨b, off + 3, none⟩ = some (.bool y.2) := HW.out _ _ (wdVs_at ws 1 1 y hy (by decide))
     cases hq : y.2 with
     | true =>
       have HN : Hid (R = .inl 15) := by show _ = _; rw [HR.out, dir_word HNB.out (.inr (by rw [hy1]; exact hq))]
       rw [hq] at e3; clear HNB hy hy1; rw [hl] at *; have hE := hEr 15; rw [if_neg (by decide)] at hE; clear HR hEr HK HW; go_enter Tryz.func143, Tryz.ntmps143; go_wp2_with (first | (go_at_call 186; refine hfo.mono ?_; rintro e w1 ⟨rfl, hb1⟩; try (have e2' := (hb1.cell (World.block_lt_of_cell? w _ e3)).trans e3)) | (go_at_call 187; refine (hE _).mono ?_; rintro e w2 ⟨rfl, hw⟩; obtain rfl := hw.symm; clear hw))
       go_ret; rw [HN.out]
       exact ⟨gr_belL (gr_refl _ _) hb1, rfl⟩
     | false =>
       rw [hq] at e3; obtain ⟨N, hN⟩ : ∃ N, N = readS y.1 m.org := ⟨_, rfl⟩
       have HE : Hid (R = if N.2 ≠ 0 then .inl N.2 else .inr { m with org := N.1 }) := by
        show _ = _
        rw [HR.out, dirF, if_neg HNB.out, if_neg (by rw [hy1, hq, hl]; simp), if_pos (by rw [HK.out, hA]), hy1, ← hN]
       have hRN := fun W => implReadName_any y.1 m.org W (by unfold maxLen; omega)
       rw [← hN] at hRN; have hE := hEr N.2; clear HR HNB hy hy1 HK HW hN hEr; rw [hl] at *; go_enter Tryz.func143, Tryz.ntmps143; go_upto_region 9 with (go_at_call 186; refine hfo.mono ?_; rintro e w1 ⟨rfl, hb1⟩; have e2' := (hb1.cell (World.block_lt_of_cell? w _ e2)).trans e2; have e3' := (hb1.cell (World.block_lt_of_cell? w _ e3)).trans e3)
       have hL1 := h.below hb1; have g1 : w.grownBy w1 (some g) := gr_belL (gr_refl _ _) hb1; obtain ⟨q4, q5, q6, q7, q8, qf⟩ := ps_cells hL1; have q4' : w1.drew.cell? ⟨g, 4, none⟩ = some (.string m.org) := q4; refine wp_region_last (S := fun W => W.cell? ⟨b, off + 2, none⟩ = some (.string y.1) ∧ True) (L := 1000) (by kernel_rfl) ⟨e2', trivial⟩ (fun hH => ?_); refine tkB 0 rfl ?_; refine tkB 1 rfl ?_; refine tkB 2 rfl ?_; refine tkB 3 rfl ?_; refine tkB 4 rfl ?_; refine tkB 5 rfl ?_; refine tkB 6 rfl ?_; refine tkB 7 rfl ?_; refine wpAnyL_one (i := 8) (by kernel_rfl) rfl (fun KQ hK' => ?_); go_simp; refine hK'.out _ _ ⟨e2', trivial⟩ (fun hH => ?_); clear hK' KQ; refine wpAnyL_one (i := 9) (by kernel_rfl) rfl (fun KQ hK' => ?_); go_simp; refine (hRN _).mono ?_; rintro e w2 ⟨rfl, hb2⟩; have hL2 : Lx (psR m v) w2 g s p n o := Lx.below (w := w1.drew) hL1 hb2; have g2 : w.grownBy w2 (some g) := gr_belL (gr_trans g1 (gr_drew _ g)) hb2; have s2 : w2.cell? ⟨b, off + 2, none⟩ = some (.string y.1) := (hb2.cell (World.block_lt_of_cell? w1 _ e2')).trans e2'; obtain ⟨t4, t5, t6, t7, t8, tf⟩ := ps_cells hL2; have t4f := tf 4; have hL3 := ps_org hL2 N.1; have g3 := gr_trans g2 (gr_set w2 g 4 (.string N.1))
       have s3 : (w2.setCell ⟨g, 4, none⟩ (.string N.1)).cell? ⟨b, off + 2, none⟩ = some (.string y.1) := by
        rw [World.cell?_setCell_other _ _ _ _ (by first | (simp; done) | (simp; omega))]; exact s2
       clear hb2 hRN q4 q4' q5 q6 q7 q8 qf hL1 g1 hL2 g2; go_wp2_with fail
       refine hK'.out _ _ ⟨s2, trivial⟩ (fun hH => ?_); clear hK' KQ; refine tkB 10 rfl ?_; refine tkB 11 rfl ?_; refine tkB 12 rfl ?_; refine tkB 13 rfl ?_; refine tkB 14 rfl ?_; refine wpAnyL_one (i := 15) (by kernel_rfl) rfl (fun KQ hK' => ?_); go_simp; refine hK'.out _ _ ⟨s3, trivial⟩ (fun hH => ?_); clear hK' KQ; refine tkB 16 rfl ?_; refine wpAnyL_done (by kernel_rfl) ?_; clear hH
       by_cases hN0 : N.2 = 0
       · have HN : Hid (R = .inr { m with org := N.1 }) := by show _ = _; rw [HE.out, if_neg (by simpa using hN0)]
         rw [if_pos hN0] at hE; clear HE hN0; go_wp2_with (go_at_call 187; refine (hE _).mono ?_; rintro e w4 ⟨rfl, hw⟩; obtain rfl := hw.symm; clear hw)
         go_ret; rw [HN.out]; exact ⟨g3, rfl, hL3⟩
       · have HN : Hid (R = .inl N.2) := by show _ = _; rw [HE.out, if_pos hN0]
         rw [if_neg hN0] at hE; clear HE hN0; go_wp2_with (go_at_call 187; refine (hE _).mono ?_; rintro e w4 ⟨rfl, hw⟩; obtain rfl := hw.symm; clear hw)
         go_ret; rw [HN.out]; exact ⟨g3, rfl⟩
   · have HN : Hid (R = .inl 15) := by show _ = _; rw [HR.out, dir_word HNB.out (.inl hl)]
     have d2 : ((ws.length : Int) == 2) = false := by rw [beq_eq_false_iff_ne]; omega
     have d3 : ((ws.length : Int) != 2) = true := by simp; omega
     have e3 : True := trivial; clear HNB; have hE := hEr 15; rw [if_neg (by decide)] at hE; clear HR hEr HK HW; go_enter Tryz.func143, Tryz.ntmps143; go_wp2_with (first | (go_at_call 186; refine hfo.mono ?_; rintro e w1 ⟨rfl, hb1⟩; try (have e2' := (hb1.cell (World.block_lt_of_cell? w _ e3)).trans e3)) | (go_at_call 187; refine (hE _).mono ?_; rintro e w2 ⟨rfl, hw⟩; obtain rfl := hw.symm; clear hw))
     go_ret; rw [HN.out]; exact ⟨gr_belL (gr_refl _ _) hb1, rfl⟩
end Go.Proofs.YtddabafaejahbaaGreatDoor
/- A step of a drawn region: append onto a row of one's own. -/
namespace Go.Proofs.YtddabafaejahbaaGreatDoor
open Go
set_option linter.unusedVariables false
theorem step_append_own {P : Program} {ops : Array Oper} {o : Oper} {a : Act} {w : World} {K : Act → World → Prop} {Q : Exit → Act → World → Prop} {E : Prop} (hgd : o.guard = none) (s x : Operand) (t : TypeId)
 (ho : o.op = .call { callee := .builtin .append, args := #[s, x], argTypes := #[t, t] })
 (base : Nat) (e : TypeId) (i : TypeInfo) (z : Value) (size bytes : Nat) (ht : P.underlying t = some (.slice e)) (hi : P.info? e = some i) (hz : i.zero = some z)
 (hsize : i.size = size) (hby : i.bytes = bytes) (hzs : z.cells.size = size) (hsz : 0 < size)
 (v : Value) (n : Nat) (xs : List Value) (hs : a.eval s = v) (hown : w.ownsRow base e size v n xs)
 (ad : Addr) (m c : Nat) (news : List Value) (hx : a.eval x = .slice (some ad) m c) (hl : news.length = m * size) (hnews : ∀ j u, news[j]? = some u → w.cell? (ad.add j) = some u) (h1 : ∀ u ∈ news, u.oneCell' = true)
 (h63 : n + m ≤ maxLen) (hbytes : (n + m) * bytes ≤ 140737488355328) (hbase : base ≤ w.heap.size)
 (h : ∀ v' w', w'.ownsRow base e size v' (n + m) (xs ++ news) → w.grownBy w' v.ownBlock → (v' = .slice none 0 0 ↔ v = .slice none 0 0 ∧ m = 0) → K (a.put o.dst v') w') :
 if Region.wanted o (yielded ops a.tmps) = true then Oper.wp P o a w K Q else E := by
 have hw : Region.wanted o (yielded ops a.tmps) = true := by simp [Region.wanted, hgd]
 rw [if_pos hw]; exact wp_append_own w s x t ho base e i z size bytes ht hi hz hsize hby hzs hsz v n xs hs hown ad m c news hx hl hnews h1 h63 hbytes hbase h
end Go.Proofs.YtddabafaejahbaaGreatDoor
