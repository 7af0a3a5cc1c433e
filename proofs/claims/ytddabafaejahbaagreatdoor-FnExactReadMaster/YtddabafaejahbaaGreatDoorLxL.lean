import Derived.Test.YtddabafaejahbaaGreatDoorLxH
import Derived.Test.YtddabafaejahbaaGreatDoorJLxN
/- The program's lexer: all lines. -/
namespace Go.Proofs.YtddabafaejahbaaGreatDoor
open Go.RowKit
set_option linter.unusedVariables false
variable {RT : Array Value × Nat}
def LsP (RT : Array Value × Nat) (g : Nat) (s : ByteArray) (w : World) (r : LsR) (e : Ending) (w' : World) : Prop :=
 w.grownBy w' (some g) ∧ match r with
 | .inl (c, q) => e = .returned (.tuple #[.slice none 0 0, linE q c])
 | .inr ls => ∃ v ps, e = .returned (.tuple #[v, .nilIface]) ∧ ps.map (·.1) = ls ∧ LOwn w' w.heap.size v ps ∧ ∃ p n, Lx RT w' g s p n 0
set_option maxRecDepth 100000 in
set_option maxHeartbeats 800000 in
theorem lines_size (g p n o : Nat) (s : ByteArray) (w : World) (h : Lx RT w g s p n o) (hs : 40000 < s.size) :
 Calls Tryz.prog 76 #[.pointer (some ⟨g, 0, none⟩)] w fun e w' => e = .returned (.tuple #[.slice none 0 0, codE 11]) ∧ w' = w := by
 obtain ⟨c0, c1, c2, c3, hf⟩ := h.cells; have hi : 40000 < (s.size : Int) := by omega
 go_enter Tryz.func76, Tryz.ntmps76; go_wp2; refine bodyPost_ret (v := .tuple #[.slice none 0 0, codE 11]) ?_ rfl ⟨rfl, rfl⟩; simp [results, Tryz.f76, go_sem]
set_option maxRecDepth 100000 in
set_option maxHeartbeats 3200000 in
theorem lines_any (g : Nat) (s : ByteArray) (w : World) (h : Lx RT w g s 0 1 0) (hs : s.size ≤ 40000) :
 Calls Tryz.prog 76 #[.pointer (some ⟨g, 0, none⟩)] w (LsP RT g s w (lsF s 0 1 [])) := by
 obtain ⟨c0, c1, c2, c3, hf⟩ := h.cells; have hi : (s.size : Int) ≤ 40000 := by omega
 have hgl := h.lt; obtain ⟨i0, hi0, hz0, hz1, hz2⟩ := info_parts Tryz.infoLine; generalize hR : lsF s 0 1 [] = R at *; have HR := Nm.hide hR; clear hR; go_enter Tryz.func76, Tryz.ntmps76; go_wp2; clear c0 c1 c2 c3 hf
 go_loopw [4] (fun v wr => ∃ p n ps, p ≤ s.size ∧ n ≤ p + 1 ∧ ps.length ≤ p ∧ Hid (lsF s p n (ps.map (·.1)) = R) ∧ Lx RT wr g s p n 0 ∧ LOwn wr w.heap.size v ps ∧ w.grownBy wr (some g)) (fun _ wr => mzL s.size g wr)
 case atStart => exact ⟨0, 1, [], by omega, by omega, by simp, HR, h, LOwn.nil _ _, gr_refl _ _⟩
 case round =>
  obtain ⟨p, n, ps, hp, hn, hpl, HR2, hl, hlo, hgr⟩ := hrel; clear HR h; have hen := ended_any g p n 0 s wr hl; have hbs := hgr.size; obtain ⟨va, vc, rfl⟩ := own_sl hlo.outer
  by_cases hlt : p < s.size
  · have d1 : decide (p = s.size) = false := by simp; omega
    rw [d1] at hen; have hln := line_any g p n s wr.drew hl hlt hs hn
    cases hE : lnF s n p n 0 [] with
    | inl cq =>
      obtain ⟨c, q⟩ := cq; rw [hE] at hln; have hR := HR2.out; rw [lsF_err hlt hE] at hR; subst hR; clear HR2 hE; go_wp2_with fail
      go_at_call 140
      refine hen.mono ?_; rintro e w' ⟨rfl, rfl⟩; go_wp2_with fail
      go_at_call 141
      refine hln.mono ?_; rintro e w3 ⟨hg3, k3, b3, a3, l3, m3, rfl⟩; go_wp2; refine bodyPost_ret (v := .tuple #[.slice none 0 0, linE q c]) ?_ rfl ⟨?_, rfl⟩
      · simp [results, Tryz.f76, go_sem]
      · exact gr_trans hgr (gr_trans (gr_drew wr g) (gr_trans hg3 (gr_alloc _)))
    | inr r0 =>
      obtain ⟨p', n', ws⟩ := r0; rw [hE] at hln; have hR := HR2.out; rw [lsF_ok hlt hE] at hR; obtain ⟨hq1, hq2, hq3, hq4⟩ := lnF_ok s n _ p n 0 [] (Nat.le_refl _) hp _ _ _ hE; have hq5 := hq3 hlt; have hq6 := hq4 hn; clear HR2 hE hq3 hq4; go_wp2_with fail
      go_at_call 140
      refine hen.mono ?_; rintro e w' ⟨rfl, rfl⟩; go_wp2_with fail
      go_at_call 141
      refine hln.mono ?_; rintro e w3 ⟨hg3, u, rfl, hl3, hu3⟩; obtain ⟨ua, uc, rfl⟩ := own_sl hu3; have hgw : wr.grownBy w3 (some g) := gr_trans (gr_drew wr g) hg3; have lo3 := hlo.beside hgw (fun k e => by simp at e; omega); have hs3 := hgw.size
      have ap3 : ∀ q ∈ ps, ∀ k, q.2.ownBlock = some k → (Value.slice ua ws.length uc).ownBlock ≠ some k := by
       intro q hq k e1 e2; obtain ⟨i, hi⟩ := List.getElem?_of_mem hq; have h1 := ((hlo.inner i q hi).lt k e1).2; have h2 : wr.heap.size ≤ k := (hu3.lt k e2).1; omega
      have hu3' := own_base hu3 (B' := w.heap.size) hbs; have gA := gr_alloc (w := w3) (g := g) (.cells #[.int .i64 (n : Int), .bool (isBl s[p]), .slice ua ws.length uc] 64); have hl4 : Lx RT (w3.alloc (.cells #[.int .i64 (n : Int), .bool (isBl s[p]), .slice ua ws.length uc] 64)) g s p' n' 0 := Lx.grown (b := none) hl3 ⟨rfl, rfl, rfl, by simp, fun k hk _ => heap_alloc_old _ _ hk⟩ (by simp); have lo4 := lo3.beside gA (fun k e => by simp at e; omega); have gr4 := gr_trans hgr (gr_trans hgw gA); have hmz := mzL_at (N := s.size) hl
      by_cases hw0 : ws.length = 0
      · rw [if_pos hw0] at hR; have HRn := Nm.hide hR; have hle0 : (ws.length : Int) ≤ 0 := by omega
        have H4 := Nm.hide (And.intro hl4 (And.intro lo4 gr4)); clear hR hw0 hlo lo3 lo4 gr4 hl4 hgr hgw hu3 hu3' ap3 gA hl3 hg3 hln hen; generalize isBl s[p] = bl at *; go_wp2; go_roundw
        case rel => exact ⟨p', n', ps, hq2, hq6, by omega, HRn, H4.out.1, H4.out.2.1, H4.out.2.2⟩
        case measure => rw [hmz, mzL_at H4.out.1]; omega
      · rw [if_neg hw0] at hR; have hgt0 : 0 < (ws.length : Int) := by omega
        have HRn : Hid (lsF s p' n' (((ps ++ [(⟨n, isBl s[p], ws⟩, .slice ua ws.length uc)] : List Lp)).map (·.1)) = R) := by
         show _ = R
         rw [List.map_append]; exact hR
        have g45 := gr_alloc (w := w3.alloc (.cells #[.int .i64 (n : Int), .bool (isBl s[p]), .slice ua ws.length uc] 64)) (g := g) (.cells #[.int .i64 (n : Int), .bool (isBl s[p]), .slice ua ws.length uc] 64); have hl5 := Lx.grown (w' := (w3.alloc (.cells #[.int .i64 (n : Int), .bool (isBl s[p]), .slice ua ws.length uc] 64)).alloc (.cells #[.int .i64 (n : Int), .bool (isBl s[p]), .slice ua ws.length uc] 64)) (b := none) hl4 ⟨rfl, rfl, rfl, by simp, fun k hk _ => heap_alloc_old _ _ hk⟩ (by simp); have lo5 := lo4.beside g45 (fun k e => by simp at e; omega); have gr5 := gr_trans gr4 g45; have hu5 := own_grL (own_grL hu3' gA hgl) g45 hgl; have hs5 : w.heap.size ≤ ((w3.alloc (.cells #[.int .i64 (n : Int), .bool (isBl s[p]), .slice ua ws.length uc] 64)).alloc (.cells #[.int .i64 (n : Int), .bool (isBl s[p]), .slice ua ws.length uc] 64)).heap.size := by simp; omega
        have H5 := Nm.hide (And.intro hl5 (And.intro lo5 (And.intro gr5 (And.intro hu5 (And.intro ap3 hs5))))); clear hR hw0 hlo lo3 lo4 lo5 gr4 gr5 hl4 hl5 hgr hgw hu3 hu3' hu5 ap3 gA g45 hl3 hg3 hln hen hs5; generalize isBl s[p] = bl at *; go_wp2_with (at_builtin; refine wpList_append_own _ rfl (.tmp 29) (.tmp 31) 58 rfl w.heap.size 64 i0 (.agg #[.int .i64 0, .bool false, .slice none 0 0]) 3 40 Tryz.underlying58 hi0 hz0 hz1 hz2 rfl (by decide) _ _ _ rfl H5.out.2.1.outer ⟨w3.heap.size + 1, 0, none⟩ 1 1 [.int .i64 (n : Int), .bool bl, .slice ua ws.length uc] rfl rfl (cellL3 _ _ _ _ _ _ (by simp)) (threeL _ _ _ rfl rfl rfl) (by unfold maxLen; omega) (by omega) H5.out.2.2.2.2.2 ?_; intro v6 w6 ho6 hg6 hnl6; clear hnl6)
        obtain ⟨a6, c6, rfl⟩ := own_sl ho6; have lo6 := LOwn.snoc (l := ⟨n, bl, ws⟩) H5.out.2.1 H5.out.2.2.2.1 H5.out.2.2.2.2.1 ho6 hg6; have hl6 := H5.out.1.row H5.out.2.1.outer hg6 hgl; have gr6 := gr_row H5.out.2.2.1 H5.out.2.1.outer (Nat.le_refl _) hg6; go_roundw
        case rel => exact ⟨p', n', ps ++ [(⟨n, bl, ws⟩, .slice ua ws.length uc)], hq2, hq6, by simp; omega, HRn, hl6, lo6, gr6⟩
        case measure => rw [hmz, mzL_at hl6]; omega
  · have d1 : decide (p = s.size) = true := by simp; omega
    rw [d1] at hen; have hR := HR2.out; rw [lsF_end hlt] at hR; subst hR; clear HR2; go_wp2_with fail
    go_at_call 140
    refine hen.mono ?_; rintro e w' ⟨rfl, rfl⟩; go_wp2; refine bodyPost_ret (v := .tuple #[.slice va ps.length vc, .nilIface]) ?_ rfl ⟨gr_trans hgr (gr_drew _ g), _, ps, rfl, rfl, hlo.beside (gr_drew wr g) (fun k e => by simp at e; omega), _, _, (show Lx RT wr.drew g s p n 0 from hl)⟩; simp [results, Tryz.f76, go_sem]
end Go.Proofs.YtddabafaejahbaaGreatDoor
