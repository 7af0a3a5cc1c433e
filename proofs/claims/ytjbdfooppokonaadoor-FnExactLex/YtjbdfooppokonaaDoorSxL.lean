/- spec.Lex by its contract. -/
import Derived.Test.YtjbdfooppokonaaDoorSxF
import Derived.Test.YtjbdfooppokonaaDoorLxI
namespace Go.Proofs.YtjbdfooppokonaaDoor
open Go.RowKit
set_option linter.unusedVariables false

def mzK (N g : Nat) (w : World) : Nat := match w.cell? ⟨g, 9, none⟩ with | some (.int _ c) => (if c = 0 then mzL N g w + 1 else 0) | _ => 0
theorem mzK_at {w : World} {g N : Nat} {s : ByteArray} {x : XB} {ws : List Wd} {ps : List Lp} (h : XS w g s x ws ps) : mzK N g w = if x.co = 0 then N - x.p + 1 else 0 := by
  rw [mzK, h.cells.2.2.2.2.2.2.2.2.2.1, mzX_at h]
  simp only
  by_cases h0 : x.co = 0
  · rw [if_pos h0, if_pos (by omega)]
  · rw [if_neg h0, if_neg (by omega)]
def lxOf : LsR → LX
  | .inl (c, q) => ⟨[], c, q⟩
  | .inr ls => ⟨ls, 0, 0⟩
theorem lnF_last {s : ByteArray} {num p n o : Nat} {ws : List Wd} (h : ¬ p < s.size) : lnF s num p n o ws = if o = 0 then finL num p n ws else .inl (14, o) := by rw [lnF, dif_neg h]

set_option maxRecDepth 100000 in
set_option maxHeartbeats 3200000 in
theorem specLex_any (s : ByteArray) (w : World) :
    Calls Tryd.prog 4 #[.string s] w (LexP s w) := by
  by_cases hs : 40000 < s.size
  · have hi : 40000 < (s.size : Int) := by omega
    have HR : Hid (lexR s = ⟨[], 11, 0⟩) := by show _ = _; rw [lexR, if_pos hs]
    go_enter Tryd.func4, Tryd.ntmps4
    go_wp2
    refine bodyPost_ret (v := .tuple #[.slice none 0 0, .int .i64 ((11 : Nat) : Int), .int .i64 ((0 : Nat) : Int)]) ?_ rfl ⟨_, [], ?_, ?_, LOwn.nil _ _, Below.refl _ _⟩
    · simp [results, Tryd.f4, go_sem]
    · rw [HR.out]
    · rw [HR.out]; rfl
  · have hi : (s.size : Int) ≤ 40000 := by omega
    obtain ⟨R, hR⟩ : ∃ R, Hid (lsF s 0 1 [] = R) := ⟨_, rfl⟩
    have HL : Hid (lexR s = lxOf R) := by
      show _ = _
      rw [lexR, if_neg hs, hR.out]
      rcases R with ⟨c, q⟩ | ls <;> rfl
    have hx0 : XS (w.alloc (.cells #[.string s, .int .i64 0, .int .i64 1, .int .i64 0, .int .i64 0, .bool false, .slice none 0 0, .bool true, .slice none 0 0, .int .i64 0, .int .i64 0] 32)) w.heap.size s ⟨0, 1, 0, 0, false, .slice none 0 0, true, .slice none 0 0, 0, 0⟩ [] [] :=
      ⟨blk_new w _ _, ⟨w.heap.size + 1, Nat.le_refl _, by simp, World.ownsRow_nil _ _ _ _, fun h => by cases h⟩, LOwn.nil _ _⟩
    have hb0 : Below w.heap.size w (w.alloc (.cells #[.string s, .int .i64 0, .int .i64 1, .int .i64 0, .int .i64 0, .bool false, .slice none 0 0, .bool true, .slice none 0 0, .int .i64 0, .int .i64 0] 32)) := (Below.refl _ _).alloc (Nat.le_refl _) _
    go_enter Tryd.func4, Tryd.ntmps4
    go_wp2
    generalize w.alloc (.cells #[.string s, .int .i64 0, .int .i64 1, .int .i64 0, .int .i64 0, .bool false, .slice none 0 0, .bool true, .slice none 0 0, .int .i64 0, .int .i64 0] 32) = w1 at *
    go_loopw [] (fun wr => ∃ x ws ps, XS wr w.heap.size s x ws ps ∧ Below w.heap.size w wr ∧ Hid (totX s x ws (ps.map (·.1)) = R) ∧ GdX s x ws ps) (fun wr => mzK s.size w.heap.size wr)
    case atStart => exact ⟨_, _, _, hx0, hb0, hR, fun _ => ⟨by simp, by simp, fun _ => ⟨rfl, by simp⟩, fun h => by cases h⟩⟩
    case round =>
      obtain ⟨x, ws, ps, hx, hbr, HT, hG⟩ := hrel
      clear hR hx0 hb0
      obtain ⟨c0, c1, c2, c3, c4, c5, c6, c7, c8, c9, c10, hf⟩ := hx.cells
      have hlt := hx.lt
      by_cases hco : x.co = 0
      · obtain ⟨G1, G2, G3, G4⟩ := hG hco
        by_cases hp : x.p < s.size
        · have i1 : (x.p : Int) < (s.size : Int) := by omega
          have hst := step_any w.heap.size s x ws ps wr hx hco hp (by omega) hG
          rw [HT.out] at hst
          have hmz := mzK_at (N := s.size) hx
          rw [if_pos hco] at hmz
          rw [hco] at c9
          clear hG G3 G4
          go_wp2_with (go_at_call 9; refine hst.mono ?_; rintro e w2 ⟨rfl, x2, ws2, ps2, hx2, hb2, hT2, hG2, hp2⟩)
          go_roundw
          case rel => exact ⟨x2, ws2, ps2, hx2, bel_two hbr hb2, hT2, hG2⟩
          case measure =>
            rw [hmz, mzK_at hx2]
            by_cases h2 : x2.co = 0
            · have := hp2 h2
              have := (hG2 h2).1
              rw [if_pos h2]
              omega
            · rw [if_neg h2]
              omega
        · have i1 : (s.size : Int) ≤ (x.p : Int) := by omega
          rw [hco] at c9
          have hT := HT.out
          obtain ⟨va, vc, hv⟩ := own_sl hx.out.outer
          cases hfr : x.fr with
          | true =>
            obtain ⟨ho, -⟩ := G3 hfr
            rw [totX_new hco hfr, lsF_end hp] at hT
            subst hT
            rw [ho] at c3
            rw [hfr] at c7
            rw [hv] at c8
            have hO := hx.out.base (B' := w.heap.size) (by omega)
            rw [hv] at hO
            clear hG G3 G4 HT
            go_wp2
            refine bodyPost_ret (v := .tuple #[.slice va ps.length vc, .int .i64 0, .int .i64 0]) ?_ rfl ⟨_, ps, ?_, ?_, hO, hbr⟩
            · simp [results, Tryd.f4, go_sem]
            · rw [HL.out] <;> rfl
            · rw [HL.out] <;> rfl
          | false =>
            rw [totX_line hco hfr, lnF_last hp] at hT
            rw [hfr] at c7
            by_cases ho : x.o = 0
            · rw [if_pos ho] at hT
              rw [ho] at c3
              obtain ⟨hw1, hw2⟩ := G4 hfr
              rcases Nat.eq_zero_or_pos ws.length with hw0 | hw0
              · have e0 : ws = [] := List.length_eq_zero_iff.1 hw0
                subst e0
                have hen := end_none w.heap.size s x ps wr hx
                have hR2 : R = .inr (ps.map (·.1)) := by rw [← hT]; simp only [finL, contL]; exact lsF_end hp
                subst hR2
                clear hG G3 G4 HT hT
                go_wp2_with (go_at_call 11; refine hen.mono ?_; rintro e w2 ⟨rfl, hx2, hb2⟩; have r29 := hx2.cells.2.2.2.2.2.2.2.2.2.1; have r28 := hx2.cells.2.2.2.2.2.2.2.2.1; simp only at r29 r28; rw [hco] at r29; rw [hv] at r28)
                have hO := hx2.out.base (B' := w.heap.size) (by omega)
                simp only [hv] at hO
                refine bodyPost_ret (v := .tuple #[.slice va ps.length vc, .int .i64 0, .int .i64 0]) ?_ rfl ⟨_, ps, ?_, ?_, hO, bel_two hbr hb2⟩
                · simp [results, Tryd.f4, go_sem]
                · rw [HL.out] <;> rfl
                · rw [HL.out] <;> rfl
              · by_cases hw3 : ws.length ≤ 300
                · have hen := end_some w.heap.size s x ws ps wr hx hfr hw0 hw3 (by omega)
                  have hR2 : R = .inr ((ps ++ [((⟨x.num, x.bl, ws⟩ : Ln), x.u)]).map (·.1)) := by
                    rw [← hT, finL, if_neg (by omega)]
                    simp only [contL, if_neg (show ¬ ws.length = 0 by omega), List.map_append]
                    exact lsF_end hp
                  subst hR2
                  clear hG G3 G4 HT hT
                  go_wp2_with (go_at_call 11; refine hen.mono ?_; rintro e w2 ⟨rfl, ⟨v2, hx2⟩, hb2⟩; obtain ⟨va2, vc2, hv2⟩ := own_sl hx2.out.outer; simp only at hv2; have r29 := hx2.cells.2.2.2.2.2.2.2.2.2.1; have r28 := hx2.cells.2.2.2.2.2.2.2.2.1; simp only at r29 r28; rw [hco] at r29; rw [hv2] at r28)
                  have hO := hx2.out.base (B' := w.heap.size) (by omega)
                  simp only [hv2] at hO
                  refine bodyPost_ret (v := .tuple #[.slice va2 (ps ++ [((⟨x.num, x.bl, ws⟩ : Ln), x.u)]).length vc2, .int .i64 0, .int .i64 0]) ?_ rfl ⟨_, _, ?_, ?_, hO, bel_two hbr hb2⟩
                  · simp [results, Tryd.f4, go_sem]
                  · rw [HL.out] <;> rfl
                  · rw [HL.out] <;> rfl
                · have hen := end_many w.heap.size s x ws ps wr hx hfr hco (by omega) (by omega)
                  have hR2 : R = .inl (15, x.num) := by rw [← hT, finL, if_pos (by omega)]; rfl
                  subst hR2
                  clear hG G3 G4 HT hT
                  go_wp2_with (go_at_call 11; refine hen.mono ?_; rintro e w2 ⟨rfl, ⟨v2, ps2, hx2⟩, hb2⟩; have r29 := hx2.cells.2.2.2.2.2.2.2.2.2.1; have r210 := hx2.cells.2.2.2.2.2.2.2.2.2.2.1; simp only at r29 r210)
                  go_quiet (fail)
                  go_wp2
                  refine bodyPost_ret (v := .tuple #[.slice none 0 0, .int .i64 ((15 : Nat) : Int), .int .i64 (x.num : Int)]) ?_ rfl ⟨_, [], ?_, ?_, LOwn.nil _ _, bel_two (bel_two hbr hb2) (bel_gr (g := w.heap.size) (gr_drewN w2 _ _) (Nat.le_refl _) (by have := hx2.lt; omega))⟩
                  · simp [results, Tryd.f4, go_sem]
                  · rw [HL.out] <;> rfl
                  · rw [HL.out] <;> rfl
            · rw [if_neg ho] at hT
              have hR2 : R = .inl (14, x.o) := hT.symm
              subst hR2
              have do1 : 0 < (x.o : Int) := by omega
              have hfa := l05Fail_any w.heap.size s x ws ps 14 x.o wr hx hco
              clear hG G3 G4 HT hT
              go_wp2_with (go_at_call 10; refine hfa.mono ?_; rintro e w2 ⟨rfl, hx2, hg2⟩; have r29 := hx2.cells.2.2.2.2.2.2.2.2.2.1; have r210 := hx2.cells.2.2.2.2.2.2.2.2.2.2.1; simp only at r29 r210)
              go_quiet (fail)
              go_wp2
              have hb2 := bel_gr hg2 (Nat.le_refl _) (by omega)
              refine bodyPost_ret (v := .tuple #[.slice none 0 0, .int .i64 ((14 : Nat) : Int), .int .i64 (x.o : Int)]) ?_ rfl ⟨_, [], ?_, ?_, LOwn.nil _ _, bel_two (bel_two hbr hb2) (bel_gr (g := w.heap.size) (gr_drewN w2 _ _) (Nat.le_refl _) (by have := hx2.lt; omega))⟩
              · simp [results, Tryd.f4, go_sem]
              · rw [HL.out] <;> rfl
              · rw [HL.out] <;> rfl
      · have dc : ((x.co : Int) == 0) = false := by simp; omega
        have hT := HT.out
        rw [totX_bad hco] at hT
        subst hT
        clear hG HT
        by_cases hp : x.p < s.size
        · have i1 : (x.p : Int) < (s.size : Int) := by omega
          go_wp2
          go_quiet (fail)
          go_wp2
          refine bodyPost_ret (v := .tuple #[.slice none 0 0, .int .i64 (x.co : Int), .int .i64 (x.pl : Int)]) ?_ rfl ⟨_, [], ?_, ?_, LOwn.nil _ _, bel_two hbr (bel_gr (g := w.heap.size) (gr_drewN wr _ _) (Nat.le_refl _) (by omega))⟩
          · simp [results, Tryd.f4, go_sem]
          · rw [HL.out] <;> rfl
          · rw [HL.out] <;> rfl
        · have i1 : (s.size : Int) ≤ (x.p : Int) := by omega
          go_wp2
          go_quiet (fail)
          go_wp2
          refine bodyPost_ret (v := .tuple #[.slice none 0 0, .int .i64 (x.co : Int), .int .i64 (x.pl : Int)]) ?_ rfl ⟨_, [], ?_, ?_, LOwn.nil _ _, bel_two hbr (bel_gr (g := w.heap.size) (gr_drewN wr _ _) (Nat.le_refl _) (by omega))⟩
          · simp [results, Tryd.f4, go_sem]
          · rw [HL.out] <;> rfl
          · rw [HL.out] <;> rfl
end Go.Proofs.YtjbdfooppokonaaDoor
