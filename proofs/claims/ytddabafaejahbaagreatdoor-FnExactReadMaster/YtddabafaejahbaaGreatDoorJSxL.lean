import Derived.Test.YtddabafaejahbaaGreatDoorSxF
import Derived.Test.YtddabafaejahbaaGreatDoorJLxAv
import Derived.Test.YtddabafaejahbaaGreatDoorJSmD
import Derived.Test.YtddabafaejahbaaGreatDoorJRmK
/- spec.Lex by its contract. -/
namespace Go.Proofs.YtddabafaejahbaaGreatDoor
open Go.RowKit
set_option linter.unusedVariables false
def mzK (N g : Nat) (w : World) : Nat := match w.cell? ⟨g, 9, none⟩ with | some (.int _ c) => (if c = 0 then mzL N g w + 1 else 0) | _ => 0
theorem mzK_at {w : World} {g N : Nat} {s : ByteArray} {x : XB} {ws : List Wrd} {ps : List Lp} (h : XS w g s x ws ps) : mzK N g w = if x.co = 0 then N - x.p + 1 else 0 := by
 rw [mzK, h.cells.2.2.2.2.2.2.2.2.2.1, mzX_at h]; simp only
 by_cases h0 : x.co = 0
 · rw [if_pos h0, if_pos (by omega)]
 · rw [if_neg h0, if_neg (by omega)]
def lxOf : LsR → LX
 | .inl (c, q) => ⟨[], c, q⟩
 | .inr ls => ⟨ls, 0, 0⟩
theorem lnF_last {s : ByteArray} {num p n o : Nat} {ws : List Wrd} (h : ¬ p < s.size) : lnF s num p n o ws = if o = 0 then finL num p n ws else .inl (14, o) := by rw [lnF, dif_neg h]
set_option maxRecDepth 100000 in
set_option maxHeartbeats 3200000 in
theorem specLex_any (s : ByteArray) (w : World) :
 Calls Tryz.prog 28 #[.string s] w (LexP s w) := by
 by_cases hs : 40000 < s.size
 · have hi : 40000 < (s.size : Int) := by omega
   have HR : Hid (lexR s = ⟨[], 11, 0⟩) := by show _ = _; rw [lexR, if_pos hs]
   go_enter Tryz.func28, Tryz.ntmps28; go_wp2; refine bodyPost_ret (v := .tuple #[.slice none 0 0, .int .i64 ((11 : Nat) : Int), .int .i64 ((0 : Nat) : Int)]) ?_ rfl ⟨_, [], ?_, ?_, LOwn.nil _ _, Below.refl _ _⟩
   · simp [results, Tryz.f28, go_sem]
   · rw [HR.out]
   · rw [HR.out]; rfl
 · have hi : (s.size : Int) ≤ 40000 := by omega
   obtain ⟨R, hR⟩ : ∃ R, Hid (lsF s 0 1 [] = R) := ⟨_, rfl⟩
   have HL : Hid (lexR s = lxOf R) := by
    show _ = _
    rw [lexR, if_neg hs, hR.out]
    rcases R with ⟨c, q⟩ | ls <;> rfl
   have hx0 : XS (w.alloc (.cells #[.string s, .int .i64 0, .int .i64 1, .int .i64 0, .int .i64 0, .bool false, .slice none 0 0, .bool true, .slice none 0 0, .int .i64 0, .int .i64 0] 121)) w.heap.size s ⟨0, 1, 0, 0, false, .slice none 0 0, true, .slice none 0 0, 0, 0⟩ [] [] :=
    ⟨blk_new w _ _, ⟨w.heap.size + 1, Nat.le_refl _, by simp, World.ownsRow_nil _ _ _ _, fun h => by cases h⟩, LOwn.nil _ _⟩
   have hb0 : Below w.heap.size w (w.alloc (.cells #[.string s, .int .i64 0, .int .i64 1, .int .i64 0, .int .i64 0, .bool false, .slice none 0 0, .bool true, .slice none 0 0, .int .i64 0, .int .i64 0] 121)) := (Below.refl _ _).alloc (Nat.le_refl _) _; go_enter Tryz.func28, Tryz.ntmps28; go_wp2; generalize w.alloc (.cells #[.string s, .int .i64 0, .int .i64 1, .int .i64 0, .int .i64 0, .bool false, .slice none 0 0, .bool true, .slice none 0 0, .int .i64 0, .int .i64 0] 121) = w1 at *
   go_loopw [] (fun wr => ∃ x ws ps, XS wr w.heap.size s x ws ps ∧ Below w.heap.size w wr ∧ Hid (totX s x ws (ps.map (·.1)) = R) ∧ GdX s x ws ps) (fun wr => mzK s.size w.heap.size wr)
   case atStart => exact ⟨_, _, _, hx0, hb0, hR, fun _ => ⟨by simp, by simp, fun _ => ⟨rfl, by simp⟩, fun h => by cases h⟩⟩
   case round =>
    obtain ⟨x, ws, ps, hx, hbr, HT, hG⟩ := hrel; clear hR hx0 hb0; obtain ⟨c0, c1, c2, c3, c4, c5, c6, c7, c8, c9, c10, hf⟩ := hx.cells; have hlt := hx.lt
    by_cases hco : x.co = 0
    · obtain ⟨G1, G2, G3, G4⟩ := hG hco
      by_cases hp : x.p < s.size
      · have i1 : (x.p : Int) < (s.size : Int) := by omega
        have hst := step_any w.heap.size s x ws ps wr hx hco hp (by omega) hG; rw [HT.out] at hst; have hmz := mzK_at (N := s.size) hx; rw [if_pos hco] at hmz; rw [hco] at c9; clear hG G3 G4; go_wp2_with (go_at_call 72; refine hst.mono ?_; rintro e w2 ⟨rfl, x2, ws2, ps2, hx2, hb2, hT2, hG2, hp2⟩)
        go_roundw
        case rel => exact ⟨x2, ws2, ps2, hx2, bel_two hbr hb2, hT2, hG2⟩
        case measure =>
         rw [hmz, mzK_at hx2]
         by_cases h2 : x2.co = 0
         · have := hp2 h2; have := (hG2 h2).1; rw [if_pos h2]; omega
         · rw [if_neg h2]; omega
      · have i1 : (s.size : Int) ≤ (x.p : Int) := by omega
        rw [hco] at c9; have hT := HT.out; obtain ⟨va, vc, hv⟩ := own_sl hx.out.outer
        cases hfr : x.fr with
        | true =>
          obtain ⟨ho, -⟩ := G3 hfr; rw [totX_new hco hfr, lsF_end hp] at hT; subst hT; rw [ho] at c3; rw [hfr] at c7; rw [hv] at c8; have hO := hx.out.base (B' := w.heap.size) (by omega); rw [hv] at hO; clear hG G3 G4 HT; go_wp2; refine bodyPost_ret (v := .tuple #[.slice va ps.length vc, .int .i64 0, .int .i64 0]) ?_ rfl ⟨_, ps, ?_, ?_, hO, hbr⟩
          · simp [results, Tryz.f28, go_sem]
          · rw [HL.out] <;> rfl
          · rw [HL.out] <;> rfl
        | false =>
          rw [totX_line hco hfr, lnF_last hp] at hT; rw [hfr] at c7
          by_cases ho : x.o = 0
          · rw [if_pos ho] at hT; rw [ho] at c3; obtain ⟨hw1, hw2⟩ := G4 hfr
            rcases Nat.eq_zero_or_pos ws.length with hw0 | hw0
            · have e0 : ws = [] := List.length_eq_zero_iff.1 hw0; subst e0; have hen := end_none w.heap.size s x ps wr hx; have hR2 : R = .inr (ps.map (·.1)) := by rw [← hT]; simp only [finL, contL]; exact lsF_end hp
              subst hR2; clear hG G3 G4 HT hT; go_wp2_with (go_at_call 74; refine hen.mono ?_; rintro e w2 ⟨rfl, hx2, hb2⟩; have r29 := hx2.cells.2.2.2.2.2.2.2.2.2.1; have r28 := hx2.cells.2.2.2.2.2.2.2.2.1; simp only at r29 r28; rw [hco] at r29; rw [hv] at r28)
              have hO := hx2.out.base (B' := w.heap.size) (by omega); simp only [hv] at hO; refine bodyPost_ret (v := .tuple #[.slice va ps.length vc, .int .i64 0, .int .i64 0]) ?_ rfl ⟨_, ps, ?_, ?_, hO, bel_two hbr hb2⟩
              · simp [results, Tryz.f28, go_sem]
              · rw [HL.out] <;> rfl
              · rw [HL.out] <;> rfl
            · by_cases hw3 : ws.length ≤ 300
              · have hen := end_some w.heap.size s x ws ps wr hx hfr hw0 hw3 (by omega)
                have hR2 : R = .inr ((ps ++ [((⟨x.num, x.bl, ws⟩ : Ln), x.u)]).map (·.1)) := by
                 rw [← hT, finL, if_neg (by omega)]; simp only [contL, if_neg (show ¬ ws.length = 0 by omega), List.map_append]; exact lsF_end hp
                subst hR2; clear hG G3 G4 HT hT; go_wp2_with (go_at_call 74; refine hen.mono ?_; rintro e w2 ⟨rfl, ⟨v2, hx2⟩, hb2⟩; obtain ⟨va2, vc2, hv2⟩ := own_sl hx2.out.outer; simp only at hv2; have r29 := hx2.cells.2.2.2.2.2.2.2.2.2.1; have r28 := hx2.cells.2.2.2.2.2.2.2.2.1; simp only at r29 r28; rw [hco] at r29; rw [hv2] at r28)
                have hO := hx2.out.base (B' := w.heap.size) (by omega); simp only [hv2] at hO; refine bodyPost_ret (v := .tuple #[.slice va2 (ps ++ [((⟨x.num, x.bl, ws⟩ : Ln), x.u)]).length vc2, .int .i64 0, .int .i64 0]) ?_ rfl ⟨_, _, ?_, ?_, hO, bel_two hbr hb2⟩
                · simp [results, Tryz.f28, go_sem]
                · rw [HL.out] <;> rfl
                · rw [HL.out] <;> rfl
              · have hen := end_many w.heap.size s x ws ps wr hx hfr hco (by omega) (by omega); have hR2 : R = .inl (15, x.num) := by rw [← hT, finL, if_pos (by omega)]; rfl
                subst hR2; clear hG G3 G4 HT hT; go_wp2_with (go_at_call 74; refine hen.mono ?_; rintro e w2 ⟨rfl, ⟨v2, ps2, hx2⟩, hb2⟩; have r29 := hx2.cells.2.2.2.2.2.2.2.2.2.1; have r210 := hx2.cells.2.2.2.2.2.2.2.2.2.2.1; simp only at r29 r210)
                go_quiet (fail)
                go_wp2; refine bodyPost_ret (v := .tuple #[.slice none 0 0, .int .i64 ((15 : Nat) : Int), .int .i64 (x.num : Int)]) ?_ rfl ⟨_, [], ?_, ?_, LOwn.nil _ _, bel_two (bel_two hbr hb2) (bel_gr (g := w.heap.size) (gr_drewN w2 _ _) (Nat.le_refl _) (by have := hx2.lt; omega))⟩
                · simp [results, Tryz.f28, go_sem]
                · rw [HL.out] <;> rfl
                · rw [HL.out] <;> rfl
          · rw [if_neg ho] at hT; have hR2 : R = .inl (14, x.o) := hT.symm; subst hR2; have do1 : 0 < (x.o : Int) := by omega
            have hfa := l05Fail_any w.heap.size s x ws ps 14 x.o wr hx hco; clear hG G3 G4 HT hT; go_wp2_with (go_at_call 73; refine hfa.mono ?_; rintro e w2 ⟨rfl, hx2, hg2⟩; have r29 := hx2.cells.2.2.2.2.2.2.2.2.2.1; have r210 := hx2.cells.2.2.2.2.2.2.2.2.2.2.1; simp only at r29 r210)
            go_quiet (fail)
            go_wp2; have hb2 := bel_gr hg2 (Nat.le_refl _) (by omega); refine bodyPost_ret (v := .tuple #[.slice none 0 0, .int .i64 ((14 : Nat) : Int), .int .i64 (x.o : Int)]) ?_ rfl ⟨_, [], ?_, ?_, LOwn.nil _ _, bel_two (bel_two hbr hb2) (bel_gr (g := w.heap.size) (gr_drewN w2 _ _) (Nat.le_refl _) (by have := hx2.lt; omega))⟩
            · simp [results, Tryz.f28, go_sem]
            · rw [HL.out] <;> rfl
            · rw [HL.out] <;> rfl
    · have dc : ((x.co : Int) == 0) = false := by simp; omega
      have hT := HT.out; rw [totX_bad hco] at hT; subst hT; clear hG HT
      by_cases hp : x.p < s.size
      · have i1 : (x.p : Int) < (s.size : Int) := by omega
        go_wp2; go_quiet (fail)
        go_wp2; refine bodyPost_ret (v := .tuple #[.slice none 0 0, .int .i64 (x.co : Int), .int .i64 (x.pl : Int)]) ?_ rfl ⟨_, [], ?_, ?_, LOwn.nil _ _, bel_two hbr (bel_gr (g := w.heap.size) (gr_drewN wr _ _) (Nat.le_refl _) (by omega))⟩
        · simp [results, Tryz.f28, go_sem]
        · rw [HL.out] <;> rfl
        · rw [HL.out] <;> rfl
      · have i1 : (s.size : Int) ≤ (x.p : Int) := by omega
        go_wp2; go_quiet (fail)
        go_wp2; refine bodyPost_ret (v := .tuple #[.slice none 0 0, .int .i64 (x.co : Int), .int .i64 (x.pl : Int)]) ?_ rfl ⟨_, [], ?_, ?_, LOwn.nil _ _, bel_two hbr (bel_gr (g := w.heap.size) (gr_drewN wr _ _) (Nat.le_refl _) (by omega))⟩
        · simp [results, Tryz.f28, go_sem]
        · rw [HL.out] <;> rfl
        · rw [HL.out] <;> rfl
theorem head_at {x : ByteArray} (h : 0 < x.size) : x.data.toList.head? = some x[0] := by
 have := Nm.get_data (x := x) (j := 0) h; rw [List.head?_eq_getElem?]; exact this
theorem dir_bl {l : Ln} (h : l.bl = true) : isDir l = false := by unfold isDir; rw [h]; rfl
theorem dir_qu {l : Ln} {x : Wrd} (hx : l.ws[0]? = some x) (h : x.2 = true) : isDir l = false := by
 have hx0 : word1 l.ws 0 = x := by rw [word1, List.getD_eq_getElem?_getD, hx]; rfl
 unfold isDir; rw [hx0, h]; simp
theorem dir_at {l : Ln} {x : Wrd} (hx : l.ws[0]? = some x) (hb : l.bl = false) (h : x.2 = false) (h0 : 0 < x.1.size) : isDir l = ((x.1[0].toNat : Int) == 36) := by
 have hx0 : word1 l.ws 0 = x := by rw [word1, List.getD_eq_getElem?_getD, hx]; rfl
 unfold isDir; rw [hx0, h, hb, head_at h0]; simp only [Bool.not_false, Bool.true_and, Option.some.injEq]; rw [Bool.eq_iff_iff, decide_eq_true_eq, beq_iff_eq]; constructor
 · intro e; rw [e]; rfl
 · intro e; apply UInt8.toNat_inj.1; have h9 : (36 : UInt8).toNat = 36 := rfl; omega
set_option maxRecDepth 100000 in
set_option maxHeartbeats 4000000 in
theorem specReadMaster_any (s o : ByteArray) (w : World) (ho : o.size ≤ 1048576) :
 Calls Tryz.prog 10 #[.string s, .string o] w (MasP (masR s o) w) := by
 obtain ⟨R, HR⟩ : ∃ R, Hid (R = masR s o) := ⟨_, rfl⟩; rw [← HR.out]; obtain ⟨bo, HB⟩ : ∃ bo, Hid (bo = (decide (o.size ≠ 0) && !(Nm.split o).isSome)) := ⟨_, rfl⟩; have hNO := fun W => specNameOK_any o W (by unfold maxLen; omega)
 go_enter Tryz.func10, Tryz.ntmps10; go_upto_region 1 with fail
 go_cut [19] from 13 to 19 (fun p wx => p = .bool bo ∧ Below w.heap.size w wx)
 case first =>
  by_cases h0 : o.size = 0
  · obtain ⟨q1, q2⟩ := beq_empty h0; have HE : Hid (bo = false) := by show _ = _; rw [HB.out]; simp [h0]
    clear h0 hNO; go_wp2; go_meet
    case rel => rw [HE.out]; exact ⟨rfl, Below.refl _ _⟩
  · obtain ⟨q1, q2⟩ := not_empty (s := o) (by omega); have HE : Hid (bo = !(Nm.split o).isSome) := by show _ = _; rw [HB.out]; simp [h0]
    clear h0; generalize (Nm.split o).isSome = sb at *; go_wp2_with (go_at_call 16; refine (hNO _).mono ?_; rintro e w1 ⟨rfl, hb1⟩)
    go_meet
    case rel => rw [HE.out]; exact ⟨rfl, hb1⟩
 case rest =>
  obtain ⟨rfl, hb1⟩ := hcut; clear hNO
  cases bo with
  | true =>
    have HN : Hid (R = ([], 32, 0)) := by show _ = _; rw [HR.out, mas_bad ((name_askS HB.out).1 rfl)]
    clear HR HB; go_wp2; go_ret3; rw [HN.out]
    exact ⟨_, rfl, World.ownsRow_nil _ _ _ _, hb1⟩
  | false =>
    have hnb : ¬ (o.size ≠ 0 ∧ (Nm.split o).isSome = false) := fun h => by have := (name_askS HB.out).2 h; cases this
    have H1 : Hid ((lexR s).co ≠ 0 → R = ([], ((lexR s).co : Int), ((lexR s).at_ : Int))) := fun hc => by rw [HR.out, mas_lex hnb hc]
    have H2 : Hid ((lexR s).co = 0 → R = masE (linsF ⟨o, ⟨#[]⟩, -1, -1, []⟩ (lexR s).ls)) := fun hc => by rw [HR.out, mas_lin hnb hc]
    have hlx := specLex_any s wc; have HLS := Nm.hide (lexR_lines s); have HFU := Nm.hide (lexR_full s); unfold LexP at hlx; clear HR HB hnb; generalize lexR s = X at *; obtain ⟨ls, co, at_⟩ := X; simp only at *
    by_cases hco : co = 0
    · have HM := Nm.hide (H2.out hco); subst hco; clear H1 H2; go_wp2_with fail
      go_at_call 28
      refine hlx.mono ?_; rintro e w2 ⟨v, ps, rfl, hps, hlo, hb2⟩; subst hps; have hb12 := Nm.below_two hb1 hb2; obtain ⟨va, vc, rfl⟩ := own_sl hlo.outer; have hlo3 := hlo.beside (b := none) (w' := w2.alloc (.cells #[.string o, .string ⟨#[]⟩, .int .i64 (-1), .int .i64 (-1), .slice none 0 0] 62)) ⟨rfl, rfl, rfl, by simp, fun k hk _ => heap_alloc_old _ _ hk⟩ (by simp); have hM3 : Mb ⟨o, ⟨#[]⟩, -1, -1, []⟩ (.slice none 0 0) (w2.alloc (.cells #[.string o, .string ⟨#[]⟩, .int .i64 (-1), .int .i64 (-1), .slice none 0 0] 62)) w2.heap.size := blk_new w2 #[.string o, .string ⟨#[]⟩, .int .i64 (-1), .int .i64 (-1), .slice none 0 0] 62; have hb3 := hb12.alloc hb12.size (.cells #[.string o, .string ⟨#[]⟩, .int .i64 (-1), .int .i64 (-1), .slice none 0 0] 62); have hB3 : (w2.alloc (.cells #[.string o, .string ⟨#[]⟩, .int .i64 (-1), .int .i64 (-1), .slice none 0 0] 62)).heap.size = w2.heap.size + 1 := by simp
      have HB3 := Nm.hide hB3; clear hB3
      have hmx : ps.length ≤ 9223372036854775807 := by
       obtain ⟨_, a9, cap9, e9, hc9, hm9, _⟩ := CRow.of_owns hlo.outer; unfold maxLen at *; omega
      go_wp2; generalize w2.alloc (.cells #[.string o, .string ⟨#[]⟩, .int .i64 (-1), .int .i64 (-1), .slice none 0 0] 62) = w3 at *; have hg0 : w.heap.size ≤ w2.heap.size := hb12.size; have HLT : Hid (∀ b, Value.ownBlock (.slice va ps.length vc) = some b → b < w2.heap.size) := fun b hb => (hlo.outer.lt b hb).2
      have HLU : Hid (∀ (i : Nat) (x : Lp), ps[i]? = some x → ∀ b, x.2.ownBlock = some b → b < w2.heap.size) := fun i x hx b hb => ((hlo.inner i x hx).lt b hb).2
      clear hlo hb12 hb1 hb2 hlx; generalize w2.heap.size = g at *
      go_loopw [11, 12] (fun i _ wr => ∃ (j : Nat) (m : Ms) (v' : Value), j ≤ ps.length ∧ i = .int .i64 (j : Int) ∧ Hid (R = masE (linsF m ((ps.map (·.1)).drop j))) ∧ Hid (m.org.size ≤ 1048576 ∧ m.rs.length ≤ 500 ∧ TmOk m) ∧ Mb m v' wr g ∧ wr.ownsRow w3.heap.size 80 5 v' m.rs.length (rvVs m.rs) ∧ Frm w3.heap.size g w3 wr) (fun i _ _ => ps.length - (intOf i).toNat)
      case atStart => exact ⟨0, _, _, Nat.zero_le _, rfl, by simpa using HM, ⟨ho, Nat.zero_le _, Int.le_refl _, Int.le_refl _⟩, hM3, World.ownsRow_nil _ _ _ _, Frm.refl _ _ _⟩
      case round =>
       obtain ⟨j, m, v', hj, rfl, HL, HBD, hl, hv, hF⟩ := hrel; have hsz := hF.size; have hg3 : g < w3.heap.size := by have := HB3.out; omega
       clear hM3 HM
       by_cases hlt : j < ps.length
       · obtain ⟨x, hx⟩ : ∃ x, ps[j]? = some x := ⟨_, List.getElem?_eq_getElem hlt⟩; have ex : x = ps[j] := Option.some.inj (hx.symm.trans (List.getElem?_eq_getElem hlt))
         have hd : (ps.map (·.1)).drop j = x.1 :: (ps.map (·.1)).drop (j + 1) := by
          rw [List.drop_eq_getElem_cons (by simpa using hlt), ex]; simp
         have hmem : x.1 ∈ ps.map (·.1) := List.mem_map.2 ⟨x, List.mem_of_getElem? hx, rfl⟩; obtain ⟨l0, l1, l2⟩ := HLS.out x.1 hmem; have hfu := HFU.out x.1 hmem
         obtain ⟨b, rfl⟩ : ∃ b, va = some ⟨b, 0, none⟩ := by
          rcases hlo3.outer.2 with ⟨e, h0⟩ | ⟨b, cap, cur, e, _⟩
          · omega
          · cases e; exact ⟨b, rfl⟩
         obtain ⟨b1, b2⟩ := hlo3.outer.lt b rfl; have b3 := HLT.out b rfl; have n1 := hlo3.inner j x hx; have n2 := HLU.out j x hx; obtain ⟨ua, uc, hu⟩ := own_sl n1; have c0 : wr.cell? ⟨b, j * 3, none⟩ = some (.int .i64 (x.1.num : Int)) := hF.cell b2 (by omega) ((hlo3.outer.cellAt (j * 3) (by omega)).trans (lp_at ps j 0 x hx (by decide))); have c1 : wr.cell? ⟨b, j * 3 + 1, none⟩ = some (.bool x.1.bl) := hF.cell b2 (by omega) ((hlo3.outer.cellAt (j * 3 + 1) (by omega)).trans (lp_at ps j 1 x hx (by decide))); have c2 : wr.cell? ⟨b, j * 3 + 2, none⟩ = some x.2 := hF.cell b2 (by omega) ((hlo3.outer.cellAt (j * 3 + 2) (by omega)).trans (lp_at ps j 2 x hx (by decide))); rw [hu] at n2 c2 n1
         have hub : ∀ b off k c, Value.slice ua x.1.ws.length uc = .slice (some ⟨b, off, none⟩) k c → b < w3.heap.size ∧ b ≠ g := by
          intro b off k c e; have := n2 b (by rw [e]; rfl); omega
         have hcr := hF.crow (CRow.of_owns n1) hub; obtain ⟨y, hy⟩ : ∃ y, x.1.ws[0]? = some y := ⟨_, List.getElem?_eq_getElem l0⟩; obtain ⟨_, a9, cap9, e9, _, _, hc9⟩ := id hcr; cases e9
         obtain ⟨ub, uo, rfl, hce⟩ := hc9 l0; have y0 : wr.cell? ⟨ub, uo, none⟩ = some (.string y.1) := hce _ _ (wdVs_at x.1.ws 0 0 y hy (by decide)); have y1 : wr.cell? ⟨ub, uo + 1, none⟩ = some (.bool y.2) := hce _ _ (wdVs_at x.1.ws 0 1 y hy (by decide)); have bA := (Below.refl _ wr).alloc (Nat.le_refl _) (.cells #[.string y.1, .bool y.2] 40); have hFA : Frm w3.heap.size g wr _ := Frm.bel (g := g) bA hsz; have hFB := hF.trans hFA; have hLR := HL.out; rw [hd] at hLR; have i1 : (0 : Int) ≤ (j : Int) := by omega
         have i2 : (j : Int) < (ps.length : Int) := by omega
         have z0 : (0 : Int) < (x.1.ws.length : Int) := by omega
         have hlA := hl.below bA; have hvA := own_below hv bA; have hcA := hcr.below bA; have e0 := fun O => (old_allocR (World.block_lt_of_cell? wr _ c0) O (j * 3)).1.trans c0
         have e1 := fun O => (old_allocR (World.block_lt_of_cell? wr _ c1) O (j * 3 + 1)).1.trans c1
         have e2 := fun O => (old_allocR (World.block_lt_of_cell? wr _ c2) O (j * 3 + 2)).1.trans c2
         have HX := Nm.hide hx; have HDI1 : Hid (x.1.bl = true → isDir x.1 = false) := dir_bl; have HDI2 : Hid (y.2 = true → isDir x.1 = false) := dir_qu hy; have HDI3 : Hid (x.1.bl = false → y.2 = false → (h0 : 0 < y.1.size) → isDir x.1 = ((y.1[0].toNat : Int) == 36)) := fun h1 h2 h3 => dir_at hy h1 h2 h3
         have HYF : Hid (y.2 = false → 0 < y.1.size) := hfu y (List.mem_of_getElem? hy); have hlF : linF m x.1 = if isDir x.1 = true then dirF m x.1.ws else recF m x.1.bl x.1.ws := rfl
         obtain ⟨di, HDI⟩ : ∃ di, Hid (di = isDir x.1) := ⟨_, rfl⟩; rw [← HDI.out] at HDI1 HDI2 HDI3 hlF; have HLF := Nm.hide hlF; have hco := fun c (h : linF m x.1 = .inl c) => lin_code h
         have hke := fun m' (h : linF m x.1 = .inr m') => lin_keep h HBD.out.1 HBD.out.2.1
         have htm := fun m' (h : linF m x.1 = .inr m') => lin_tm h HBD.out.2.2
         have HE1 : Hid (∀ c, linF m x.1 = .inl c → R = ([], c, (x.1.num : Int)) ∧ (c == 0) = false) := fun c h => ⟨by rw [hLR, lins_err h]; rfl, by simpa using hco c h⟩
         have HE2 : Hid (∀ m', linF m x.1 = .inr m' → R = masE (linsF m' ((ps.map (·.1)).drop (j + 1))) ∧ m'.org.size ≤ 1048576 ∧ m'.rs.length ≤ 500 ∧ TmOk m') := fun m' h => ⟨by rw [hLR, lins_ok h], (hke m' h).1, (hke m' h).2, htm m' h⟩
         have f0 := e0 (.cells #[.string y.1, .bool y.2] 40); have f1 := e1 (.cells #[.string y.1, .bool y.2] 40); have f2 := e2 (.cells #[.string y.1, .bool y.2] 40); have kA := blk_new wr #[.string y.1, .bool y.2] 40; have kA0 := (blk_cell kA 0).trans rfl; have kA1 := (blk_cell kA 1).trans rfl; have hsA := hFB.size; have hltA : b < (wr.alloc (.cells #[.string y.1, .bool y.2] 40)).heap.size := by omega
         clear hco hke htm hlF hLR HL hd hx ex hmem hfu hy hce hc9 n1 n2 hcr hl hv hF hlo3 e0 e1 e2 bA hFA kA; go_upto_region 11 with fail
         generalize wr.alloc (.cells #[.string y.1, .bool y.2] 40) = WA at *; go_cut [61] from 44 to 61 (fun p wx => p = .bool di ∧ wx = WA)
         case first =>
          cases hbl : x.1.bl with
          | true =>
            have HE := Nm.hide (HDI1.out hbl); rw [hbl] at f1; clear hbl; go_wp2; go_meet
            case rel => rw [HE.out]; exact ⟨rfl, rfl⟩
          | false =>
            cases hq : y.2 with
            | true =>
              have HE := Nm.hide (HDI2.out hq); rw [hbl] at f1; rw [hq] at kA1; clear hbl hq; go_wp2; go_meet
              case rel => rw [HE.out]; exact ⟨rfl, rfl⟩
            | false =>
              have h0 := HYF.out hq; have HE := Nm.hide (HDI3.out hbl hq h0); have z1 : (0 : Int) < (y.1.size : Int) := by omega
              rw [hbl] at f1; rw [hq] at kA1; clear hbl hq; go_wp2; go_meet
              case rel => rw [HE.out]; exact ⟨rfl, rfl⟩
         case rest =>
          obtain ⟨rfl, hw⟩ := hcut; obtain rfl := hw.symm; clear hw
          cases di with
          | true =>
            have hdi := l05Directive_any m v' _ x.1.ws g WA hlA HBD.out.1 hcA l0 (by omega); have hlf := HLF.out; rw [if_pos rfl] at hlf
            cases hr : dirF m x.1.ws with
            | inl c =>
              rw [hr] at hdi hlf; obtain ⟨hR, d0⟩ := HE1.out c hlf; have HN := Nm.hide hR; clear hR hlf hr HLF HE1 HE2 HDI1 HDI2 HDI3 HYF; go_wp2_with (go_at_call 29; refine hdi.mono ?_; rintro e w5 ⟨g5, rfl⟩; have f5 : w5.cell? ⟨b, j * 3, none⟩ = some (.int .i64 (x.1.num : Int)) := (World.cell?_of_block (w := WA) (w' := w5) (a := ⟨b, j * 3, none⟩) (g5.block b hltA (by simp; omega))).trans f0; have h05 := (hFB.trans (Frm.gr g5 hsA)).below hb3 hg0 hg3)
              go_region
              go_wp2; go_ret3; rw [HN.out]
              exact ⟨_, rfl, World.ownsRow_nil _ _ _ _, h05.drew⟩
            | inr m' =>
              rw [hr] at hdi hlf; have HN := Nm.hide (HE2.out m' hlf); have HRS := Nm.hide (dir_rs hr); clear hlf hr HLF HE1 HE2 HDI1 HDI2 HDI3 HYF; go_wp2_with (go_at_call 29; refine hdi.mono ?_; rintro e w5 ⟨g5, rfl, hM5⟩)
              go_roundw
              case rel => exact ⟨j + 1, m', v', by omega, by go_num, HN.out.1, HN.out.2, hM5, by rw [HRS.out]; exact own_grL hvA g5 hg3, hFB.trans (Frm.gr g5 hsA)⟩
              case measure => simp [intOf]; omega
          | false =>
            have hdi := l05Record_any m v' _ x.1.num x.1.bl x.1.ws w3.heap.size g WA hlA hvA hsA hg3 HBD.out.1 HBD.out.2.1 HBD.out.2.2 hcA hub l0 l1 (by omega); have hlf := HLF.out; rw [if_neg (by decide)] at hlf
            cases hr : recF m x.1.bl x.1.ws with
            | inl c =>
              rw [hr] at hdi hlf; obtain ⟨hR, d0⟩ := HE1.out c hlf; have HN := Nm.hide hR; clear hR hlf hr HLF HE1 HE2 HDI1 HDI2 HDI3 HYF; go_wp2_with (go_at_call 30; refine hdi.mono ?_; rintro e w5 ⟨g5, rfl⟩; have f5 : w5.cell? ⟨b, j * 3, none⟩ = some (.int .i64 (x.1.num : Int)) := g5.cell b2 (by omega) f0; have h05 := (hFB.trans g5).below hb3 hg0 hg3)
              go_region
              go_wp2; go_ret3; rw [HN.out]
              exact ⟨_, rfl, World.ownsRow_nil _ _ _ _, h05.drew⟩
            | inr m' =>
              rw [hr] at hdi hlf; have HN := Nm.hide (HE2.out m' hlf); clear hlf hr HLF HE1 HE2 HDI1 HDI2 HDI3 HYF; go_wp2_with (go_at_call 30; refine hdi.mono ?_; rintro e w5 ⟨g5, rfl, v5, hM5, hv5⟩)
              go_roundw
              case rel => exact ⟨j + 1, m', v5, by omega, by go_num, HN.out.1, HN.out.2, hM5, hv5, hFB.trans g5⟩
              case measure => simp [intOf]; omega
       · have hjn : j = ps.length := by omega
         subst hjn
         have HN : Hid (R = (m.rs, 0, 0)) := by
          show _ = _
          rw [HL.out, List.drop_of_length_le (by simp)]; rfl
         obtain ⟨c4, c5, c6, c7, c8, cf⟩ := mb_cells hl; have h03 := hF.below hb3 hg0 hg3; have hv2 := own_base hv (B' := w.heap.size) (by omega); obtain ⟨xa, xc, rfl⟩ := own_sl hv; clear HL hlo3 hF hl hv; go_wp2; go_ret3; rw [HN.out]; exact ⟨_, rfl, hv2, h03⟩
    · have HN := Nm.hide (H1.out hco); have dc : ((co : Int) == 0) = false := by simp; omega
      clear H1 H2 HLS HFU hco; go_wp2_with fail
      go_at_call 28
      refine hlx.mono ?_; rintro e w2 ⟨v, ps, rfl, hps, hlo, hb2⟩; obtain ⟨va, vc, rfl⟩ := own_sl hlo.outer; go_wp2; go_ret3; rw [HN.out]; exact ⟨_, rfl, World.ownsRow_nil _ _ _ _, Nm.below_two hb1 hb2⟩
end Go.Proofs.YtddabafaejahbaaGreatDoor
