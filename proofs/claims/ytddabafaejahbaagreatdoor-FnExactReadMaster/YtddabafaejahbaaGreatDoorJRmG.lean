import Derived.Test.YtddabafaejahbaaGreatDoorRmF
/- (*parser).read by its contract. -/
namespace Go.Proofs.YtddabafaejahbaaGreatDoor
open Go.RowKit
set_option linter.unusedVariables false
theorem head_dollar (x : ByteArray) : ((x.extract 0 1).toList == [36]) = decide (x.data.toList.head? = some 36) := by
 rw [Bool.eq_iff_iff, beq_iff_eq, decide_eq_true_eq]
 have e : (x.extract 0 1).toList = x.data.toList.take 1 := by
  rw [ByteArray.toList_eq]; simp [ByteArray.data_extract, List.extract_eq_take_drop]
 rw [e]
 cases x.data.toList with
 | nil => simp
 | cons a r => simp
/-- What dirF makes of a parser's list. -/
theorem dir_rs {m m' : Ms} {ws : List Wrd} (h : dirF m ws = .inr m') : m'.rs = m.rs := by
 unfold dirF at h
 split at h
 · cases h
 · split at h
   · cases h
   · split at h
     · split at h
       · cases h
       · cases h; rfl
     · split at h
       · cases h
       · cases h; rfl
set_option maxRecDepth 100000 in
set_option maxHeartbeats 800000 in
theorem liteDollar_any (x : ByteArray) (w : World) :
 Calls Tryz.prog 185 #[.string x, .string ⟨#[36]⟩] w fun e w' => e = .returned (.bool (decide (x.data.toList.head? = some 36))) ∧ w' = w := by
 rw [← head_dollar]
 by_cases h : 1 ≤ x.size
 · have h1 : (1 : Int) ≤ (x.size : Int) := by omega
   go_enter Tryz.func185, Tryz.ntmps185; go_wp2; go_ret; exact ⟨rfl, rfl⟩
 · have h1 : ¬ (1 : Int) ≤ (x.size : Int) := by omega
   have HE : Hid (((x.extract 0 1).toList == [36]) = false) := by
    show _ = _
    rw [head_dollar, decide_eq_false_iff_not]
    have : x.data.toList.length = 0 := by
     have : x.size = x.data.toList.length := by simp
     omega
    rw [List.length_eq_zero_iff.1 this]; simp
   rw [HE.out]; go_enter Tryz.func185, Tryz.ntmps185; go_wp2; go_ret; exact ⟨rfl, rfl⟩
set_option maxRecDepth 100000 in
set_option maxHeartbeats 800000 in
theorem dollar_any (x : ByteArray) (w : World) :
 Calls Tryz.prog 142 #[.string x, .string ⟨#[36]⟩] w fun e w' => e = .returned (.bool (decide (x.data.toList.head? = some 36))) ∧ w' = w := by
 have h1 := liteDollar_any x w; generalize decide (x.data.toList.head? = some 36) = B at *; go_enter Tryz.func142, Tryz.ntmps142; go_wp2_with (go_at_call 185; refine h1.mono ?_; rintro e w1 ⟨rfl, hw⟩; obtain rfl := hw.symm; clear hw)
 go_ret; exact ⟨rfl, rfl⟩
theorem psq_lift {B g : Nat} {s : ByteArray} {p n o : Nat} {w w1 : World} {r : Sum Int Ms} {e : Ending} {w' : World} (hF : Frm B g w w1) (h : PsQ B g s p n o w1 r e w') : PsQ B g s p n o w r e w' := ⟨hF.trans h.1, h.2⟩
/-- What is answered, in both ways: an error value. -/
theorem psq_val {B g : Nat} {s : ByteArray} {p n o : Nat} {w : World} {r : Sum Int Ms} {e : Ending} {w' : World} (h : PsQ B g s p n o w r e w') : ∃ z, e = .returned z ∧ ((∃ c, z = codI c) ∨ z = .nilIface) := by
 obtain ⟨_, h⟩ := h
 cases r with
 | inl c => exact ⟨_, h, .inl ⟨c, rfl⟩⟩
 | inr m => exact ⟨_, h.1, .inr rfl⟩
theorem psp_psq {B g : Nat} {s : ByteArray} {p n o : Nat} {v : Value} {w : World} {m : Ms} {ws : List Wrd} {e : Ending} {w' : World} (hB : B ≤ w.heap.size) (hg : g < B) (hv : w.ownsRow B 80 5 v m.rs.length (rvVs m.rs)) (h : PsP g s p n o v w (dirF m ws) e w') : PsQ B g s p n o w (dirF m ws) e w' := by
 obtain ⟨h1, h2⟩ := h; refine ⟨Frm.gr h1 hB, ?_⟩
 cases hd : dirF m ws with
 | inl c => rw [hd] at h2; exact h2
 | inr m' =>
   rw [hd] at h2; exact ⟨h2.1, v, h2.2, by rw [dir_rs hd]; exact own_grL hv h1 hg⟩
set_option maxRecDepth 100000 in
set_option maxHeartbeats 4000000 in
theorem read_any (w0 : World) (m : Ms) (v u : Value) (num : Nat) (bl : Bool) (ws : List Wrd) (B g p n o : Nat) (s : ByteArray) (w : World) (h : Lx (psR m v) w g s p n o) (hv : w.ownsRow B 80 5 v m.rs.length (rvVs m.rs)) (hB : B ≤ w.heap.size) (hg : g < B) (hg0 : w0.heap.size ≤ g) (hb0 : Below w0.heap.size w0 w) (ho : m.org.size ≤ 1048576) (hrs : m.rs.length ≤ 500) (hu : CRow w u ws.length 2 (wdVs ws)) (hub : ∀ b off k c, u = .slice (some ⟨b, off, none⟩) k c → b < B ∧ b ≠ g) (h0 : 0 < ws.length) (hn : ws.length ≤ 300) (hz : wsz ws ≤ 1000000) (hM : ∀ W, Below w0.heap.size w0 W → MnemAt W) (hR : ∀ W, Below w0.heap.size w0 W → Reads W) :
 Calls Tryz.prog 77 #[.pointer (some ⟨g, 0, none⟩), .agg #[.int .i64 (num : Int), .bool bl, u]] w (PsQ B g s p n o w (linF m ⟨num, bl, ws⟩)) := by
 obtain ⟨R, HR⟩ : ∃ R, Hid (R = linF m ⟨num, bl, ws⟩) := ⟨_, rfl⟩; rw [← HR.out]; have HU := Nm.hide hu; obtain ⟨_, a, cap, rfl, hcap, hmx, hc⟩ := hu; obtain ⟨b, off, rfl, hcell⟩ := hc h0; obtain ⟨x, hx⟩ : ∃ x, ws[0]? = some x := ⟨_, List.getElem?_eq_getElem h0⟩; have hx0 : word1 ws 0 = x := by rw [word1, List.getD_eq_getElem?_getD, hx]; rfl
 have c0 : w.cell? ⟨b, off, none⟩ = some (.string x.1) := hcell _ _ (wdVs_at ws 0 0 x hx (by decide)); have c1 : w.cell? ⟨b, off + 1, none⟩ = some (.bool x.2) := hcell _ _ (wdVs_at ws 0 1 x hx (by decide)); have d0 := fun O => (old_allocR (World.block_lt_of_cell? w _ c0) O off).1.trans c0
 have d1 := fun O => (old_allocR (World.block_lt_of_cell? w _ c1) O (off + 1)).1.trans c1
 have b1 := (Below.refl w.heap.size w).alloc (Nat.le_refl _) (.cells #[.int .i64 (num : Int), .bool bl, .slice (some ⟨b, off, none⟩) ws.length cap] 64); have b2 := b1.alloc (by simp) (.cells #[.string x.1, .bool x.2] 40); have hL2 := h.below b2; have hV2 := own_below hv b2; have hB2 : B ≤ ((w.alloc (.cells #[.int .i64 (num : Int), .bool bl, .slice (some ⟨b, off, none⟩) ws.length cap] 64)).alloc (.cells #[.string x.1, .bool x.2] 40)).heap.size := by simp; omega
 have h02 := (Frm.bel (g := g) b2 hB).below hb0 hg0 hg; have hrec := record_any w0 m v _ (num : Int) bl ws B g p n o s _ hL2 hV2 hB2 hg hg0 h02 ho hrs (HU.out.below b2) hub h0 hn hz hM hR; have hdir := directive_any m v _ ws g p n o s _ hL2 ho (HU.out.below b2) h0 hz (fun b off k c e => (hub b off k c e).2); have hdo := fun W => dollar_any x.1 W
 have n0 : (0 : Int) < (ws.length : Int) := by omega
 have HI : Hid (R = if (!bl && !x.2 && decide (x.1.data.toList.head? = some 36)) = true then dirF m ws else recF m bl ws) := by show _ = _; rw [HR.out, linF, isDir, hx0]
 have hF2 : Frm B g w _ := Frm.bel (g := g) b2 hB; have hVB := hV2; have hdir2 : Calls Tryz.prog 143 #[.pointer (some ⟨g, 0, none⟩), .slice (some ⟨b, off, none⟩) ws.length cap] _ (PsQ B g s p n o _ (dirF m ws)) := hdir.mono (fun e W' hP => psp_psq hB2 hg hV2 hP); clear HR HU hcell hc hx hx0 hM hR h hmx hdir; obtain ⟨x1, x2⟩ := x; simp only at *
 cases bl with
 | true =>
   have HN : Hid (R = recF m true ws) := by show _ = _; rw [HI.out]; rfl
   clear HI hdir2 hdo; go_enter Tryz.func77, Tryz.ntmps77; go_wp2_with (first | (go_at_call 142; refine (hdo _).mono ?_; rintro e w3 ⟨rfl, hw⟩; obtain rfl := hw.symm; clear hw) | (go_at_call 144; refine (hrec).mono ?_; intro e w4 hP; have HP := Nm.hide (psq_lift hF2 hP); obtain ⟨zz, rfl, hzz⟩ := psq_val hP; clear hP; rcases hzz with ⟨cc, rfl⟩ | rfl))
   all_goals (
    go_wp2; go_ret; rw [HN.out]
    exact HP.out)
 | false =>
   cases x2 with
   | true =>
     have HN : Hid (R = recF m false ws) := by show _ = _; rw [HI.out]; rfl
     clear HI hdir2 hdo; go_enter Tryz.func77, Tryz.ntmps77; go_wp2_with (first | (go_at_call 142; refine (hdo _).mono ?_; rintro e w3 ⟨rfl, hw⟩; obtain rfl := hw.symm; clear hw) | (go_at_call 144; refine (hrec).mono ?_; intro e w4 hP; have HP := Nm.hide (psq_lift hF2 hP); obtain ⟨zz, rfl, hzz⟩ := psq_val hP; clear hP; rcases hzz with ⟨cc, rfl⟩ | rfl))
     all_goals (
      go_wp2; go_ret; rw [HN.out]
      exact HP.out)
   | false =>
     cases hd : decide (x1.data.toList.head? = some 36) with
     | true =>
       have HN : Hid (R = dirF m ws) := by show _ = _; rw [HI.out, hd]; rfl
       rw [hd] at hdo; clear HI hrec hd; go_enter Tryz.func77, Tryz.ntmps77; go_wp2_with (first | (go_at_call 142; refine (hdo _).mono ?_; rintro e w3 ⟨rfl, hw⟩; obtain rfl := hw.symm; clear hw) | (go_at_call 143; refine (hdir2).mono ?_; intro e w4 hP; have HP := Nm.hide (psq_lift hF2 hP); obtain ⟨zz, rfl, hzz⟩ := psq_val hP; clear hP; rcases hzz with ⟨cc, rfl⟩ | rfl))
       all_goals (
        go_wp2; go_ret; rw [HN.out]
        exact HP.out)
     | false =>
       have HN : Hid (R = recF m false ws) := by show _ = _; rw [HI.out, hd]; rfl
       rw [hd] at hdo; clear HI hdir2 hd; go_enter Tryz.func77, Tryz.ntmps77; go_wp2_with (first | (go_at_call 142; refine (hdo _).mono ?_; rintro e w3 ⟨rfl, hw⟩; obtain rfl := hw.symm; clear hw) | (go_at_call 144; refine (hrec).mono ?_; intro e w4 hP; have HP := Nm.hide (psq_lift hF2 hP); obtain ⟨zz, rfl, hzz⟩ := psq_val hP; clear hP; rcases hzz with ⟨cc, rfl⟩ | rfl))
       all_goals (
        go_wp2; go_ret; rw [HN.out]
        exact HP.out)
theorem readS_max (t o : ByteArray) (N : Nat) (ho : o.size ≤ N) (hN : 255 ≤ N) : (readS t o).1.size ≤ N := by
 unfold readS; split
 · exact Nat.zero_le _
 · split
   · exact Nat.zero_le _
   · split
     · exact Nat.zero_le _
     · split
       · split
         · exact Nat.zero_le _
         · simpa using ho
       · split
         · show 1 ≤ N; omega
         · split
           · exact Nat.zero_le _
           · split
             · exact Nat.le_trans (make_size _) hN
             · split
               · exact Nat.zero_le _
               · exact Nat.le_trans (make_size _) hN
theorem dir_org {m m' : Ms} {ws : List Wrd} (h : dirF m ws = .inr m') (ho : m.org.size ≤ 1048576) : m'.org.size ≤ 1048576 := by
 unfold dirF at h
 split at h
 · cases h
 · split at h
   · cases h
   · split at h
     · split at h
       · cases h
       · cases h; exact readS_max _ _ _ ho (by decide)
     · split at h
       · cases h
       · cases h; exact ho
theorem bod_keep {m m' : Ms} {ws : List Wrd} (h : bodF m ws = .inr m') : m'.org = m.org ∧ m'.rs.length ≤ 500 := by
 unfold bodF at h
 split at h
 · cases h
 · cases hf : frF ws none none with
   | inl c => rw [hf] at h; cases h
   | inr tcr =>
     obtain ⟨t, c, r⟩ := tcr; rw [hf] at h; simp only at h
     cases ht : tyF r with
     | inl e => rw [ht] at h; cases h
     | inr ty =>
       rw [ht] at h; simp only at h
       split at h
       · cases h
       · split at h
         · cases h
         · split at h
           · cases h
           · split at h
             · cases h
             · rename_i h5; cases h
               exact ⟨rfl, by simp; omega⟩
theorem rec_keep {m m' : Ms} {bl : Bool} {ws : List Wrd} (h : recF m bl ws = .inr m') : m'.org = m.org ∧ m'.rs.length ≤ 500 := by
 unfold recF at h
 split at h
 · exact bod_keep h
 · split at h
   · cases h
   · split at h
     · cases h
     · have := bod_keep h; exact this
theorem lin_keep {m m' : Ms} {l : Ln} (h : linF m l = .inr m') (ho : m.org.size ≤ 1048576) (hr : m.rs.length ≤ 500) : m'.org.size ≤ 1048576 ∧ m'.rs.length ≤ 500 := by
 unfold linF at h
 split at h
 · exact ⟨dir_org h ho, by rw [dir_rs h]; exact hr⟩
 · have := rec_keep h; exact ⟨by rw [this.1]; exact ho, this.2⟩
theorem ext_size (s : ByteArray) (a b : Nat) : (s.extract a b).size ≤ b - a := by
 rw [ByteArray.size_extract]; omega
theorem wsz_one (ws : List Wrd) (x : Wrd) : wsz (ws ++ [x]) = wsz ws + x.1.size := by
 rw [wsz_app, wsz_cons]; simp [wsz]
theorem lnF_wsz (s : ByteArray) (num : Nat) : ∀ (k p n o : Nat) (ws : List Wrd), s.size - p ≤ k → p ≤ s.size → ∀ p' n' ws', lnF s num p n o ws = .inr (p', n', ws') → wsz ws' + p ≤ wsz ws + p' ∧ ws'.length ≤ 300 := by
 have fin : ∀ {p n : Nat} {ws : List Wrd} {p' n' : Nat} {ws' : List Wrd}, finL num p n ws = .inr (p', n', ws') → p = p' ∧ ws = ws' ∧ ws'.length ≤ 300 := by
  intro p n ws p' n' ws' h; unfold finL at h
  split at h
  · cases h
  · cases h; exact ⟨rfl, rfl, by omega⟩
 intro k
 induction k with
 | zero =>
   intro p n o ws hk hp p' n' ws' h; have : ¬ p < s.size := by omega
   rw [lnF, dif_neg this] at h
   split at h
   · obtain ⟨rfl, rfl, hl⟩ := fin h; exact ⟨by omega, hl⟩
   · cases h
 | succ k ih =>
   intro p n o ws hk hp p' n' ws' h
   by_cases hlt : p < s.size
   · have go : ∀ q m o' ws2, p < q → q ≤ s.size → wsz ws2 + p ≤ wsz ws + q → lnF s num q m o' ws2 = .inr (p', n', ws') → wsz ws' + p ≤ wsz ws + p' ∧ ws'.length ≤ 300 := by
      intro q m o' ws2 h1 h2 h3 h4; obtain ⟨a, b⟩ := ih q m o' ws2 (by omega) h2 p' n' ws' h4; exact ⟨by omega, b⟩
     rw [lnF, dif_pos hlt] at h
     by_cases h10 : s[p] = 10
     · rw [dif_pos h10] at h
       split at h
       · obtain ⟨rfl, rfl, hl⟩ := fin h; exact ⟨by omega, hl⟩
       · exact go _ _ _ _ (by omega) (by omega) (by omega) h
     · rw [dif_neg h10] at h
       split at h
       · exact go _ _ _ _ (by omega) (by omega) (by omega) h
       · split at h
         · exact go _ _ _ _ (comE_gt hlt h10) (comE_le s p hp) (by have := comE_gt hlt h10; omega) h
         · split at h
           · split at h
             · exact go _ _ _ _ (by omega) (by omega) (by omega) h
             · cases h
           · split at h
             · split at h
               · cases h
               · exact go _ _ _ _ (by omega) (by omega) (by omega) h
             · split at h
               · split at h
                 · rename_i h0; have h1 := qutF_ge s (p + 1); obtain ⟨h2, -⟩ := qutF_lt s (p + 1) h0; have h3 := ext_size s (p + 1) (qutF s (p + 1)).2; exact go _ _ _ _ (by omega) (by omega) (by rw [wsz_one]; simp only; omega) h
                 · cases h
               · split at h
                 · rename_i h0; have h1 := barF_gt hlt h0.1 h0.2; have h2 := barF_le s p hp; have h3 := ext_size s p (barF s p).2; exact go _ _ _ _ (by omega) (by omega) (by rw [wsz_one]; simp only; omega) h
                 · cases h
   · rw [lnF, dif_neg hlt] at h
     split at h
     · obtain ⟨rfl, rfl, hl⟩ := fin h; exact ⟨by omega, hl⟩
     · cases h
/-- A line that a text of n bytes may have. -/
def LnOk (n : Nat) (l : Ln) : Prop := 0 < l.ws.length ∧ l.ws.length ≤ 300 ∧ wsz l.ws ≤ n
theorem lsF_lines (s : ByteArray) : ∀ (k p n : Nat) (acc : List Ln), s.size - p ≤ k → p ≤ s.size → (∀ l ∈ acc, LnOk s.size l) → ∀ ls, lsF s p n acc = .inr ls → ∀ l ∈ ls, LnOk s.size l := by
 intro k
 induction k with
 | zero =>
   intro p n acc hk hp ha ls h; rw [lsF_end (by omega)] at h; cases h
   exact ha
 | succ k ih =>
   intro p n acc hk hp ha ls h
   by_cases hlt : p < s.size
   · cases e : lnF s n p n 0 [] with
     | inl x =>
       obtain ⟨c, q⟩ := x; rw [lsF_err hlt e] at h
       cases h
     | inr x =>
       obtain ⟨p', n', ws⟩ := x; rw [lsF_ok hlt e] at h; obtain ⟨-, h2, h3, -⟩ := lnF_ok s n _ p n 0 [] (Nat.le_refl _) (by omega) _ _ _ e; obtain ⟨h4, h5⟩ := lnF_wsz s n _ p n 0 [] (Nat.le_refl _) (by omega) _ _ _ e; have h6 : wsz ([] : List Wrd) = 0 := rfl; refine ih p' n' _ (by have := h3 hlt; omega) h2 ?_ ls h; split
       · exact ha
       · rename_i h0; intro l hl
         rcases List.mem_append.1 hl with hl | hl
         · exact ha l hl
         · rw [List.mem_singleton] at hl; subst hl; exact ⟨Nat.pos_of_ne_zero h0, h5, by show wsz ws ≤ _; omega⟩
   · rw [lsF_end hlt] at h; cases h
     exact ha
theorem lexR_lines (s : ByteArray) : ∀ l ∈ (lexR s).ls, LnOk 40000 l := by
 unfold lexR; split
 · intro l hl; cases hl
 · rename_i h0
   cases e : lsF s 0 1 [] with
   | inl x => intro l hl; cases hl
   | inr ls =>
     intro l hl; obtain ⟨a, b, c⟩ := lsF_lines s _ 0 1 [] (Nat.le_refl _) (Nat.zero_le _) (by intro l hl; cases hl) ls e l hl; exact ⟨a, b, by omega⟩
end Go.Proofs.YtddabafaejahbaaGreatDoor
