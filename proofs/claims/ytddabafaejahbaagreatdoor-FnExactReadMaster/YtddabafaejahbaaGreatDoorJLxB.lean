import Derived.Test.YtddabafaejahbaaGreatDoorJShelfM
import Derived.Test.YtddabafaejahbaaGreatDoorJRead
import Derived.Test.YtddabafaejahbaaGreatDoorJTxt8
import Derived.Test.YtddabafaejahbaaGreatDoorJRdA
/- The program's lexer: bytes. -/
namespace Go.Proofs.YtddabafaejahbaaGreatDoor
open Go.RowKit
set_option linter.unusedVariables false
variable {RT : Array Value × Nat}
theorem u8_eq (c d : UInt8) : ((c.toNat : Int) == (d.toNat : Int)) = (c == d) := by
 rw [Bool.eq_iff_iff]; simp only [beq_iff_eq]; constructor
 · intro h; exact UInt8.toNat_inj.1 (by omega)
 · rintro rfl; rfl
set_option maxRecDepth 100000 in
set_option maxHeartbeats 400000 in
theorem isBlank_any (c : UInt8) (w : World) :
 Calls Tryz.prog 180 #[.int .u8 (c.toNat : Int)] w fun e w' => e = .returned (.bool (isBl c)) ∧ w' = w := by
 have e1 : ((c.toNat : Int) == 32) = (c == 32) := u8_eq c 32; have e2 : ((c.toNat : Int) == 9) = (c == 9) := u8_eq c 9; have e3 : ((c.toNat : Int) == 13) = (c == 13) := u8_eq c 13; have hb : isBl c = (c == 32 || c == 9 || c == 13) := rfl; rw [hb]; clear hb; cases h1 : (c == 32) <;> cases h2 : (c == 9) <;> cases h3 : (c == 13) <;> rw [h1] at e1 <;> rw [h2] at e2 <;> rw [h3] at e3 <;> clear h1 h2 h3 <;>
 · go_enter Tryz.func180, Tryz.ntmps180; go_wp2; go_ret; exact ⟨rfl, rfl⟩
set_option maxRecDepth 100000 in
set_option maxHeartbeats 800000 in
theorem endsWord_any (c : UInt8) (w : World) :
 Calls Tryz.prog 214 #[.int .u8 (c.toNat : Int)] w fun e w' => e = .returned (.bool (isSp c)) ∧ w' = w := by
 have e1 : ((c.toNat : Int) == 10) = (c == 10) := u8_eq c 10; have e2 : ((c.toNat : Int) == 59) = (c == 59) := u8_eq c 59; have e3 : ((c.toNat : Int) == 40) = (c == 40) := u8_eq c 40; have e4 : ((c.toNat : Int) == 41) = (c == 41) := u8_eq c 41; have e5 : ((c.toNat : Int) == 34) = (c == 34) := u8_eq c 34; have hib := fun W => isBlank_any c W
 have hb : isSp c = (isBl c || c == 10 || c == 59 || c == 40 || c == 41 || c == 34) := rfl; rw [hb]; clear hb; generalize isBl c = b at *; generalize (c == 10) = b1 at *; generalize (c == 59) = b2 at *; generalize (c == 40) = b3 at *; generalize (c == 41) = b4 at *; generalize (c == 34) = b5 at *; cases b
 · cases b1
   · cases b2
     · cases b3
       · cases b4
         · cases b5 <;>
           · go_enter Tryz.func214, Tryz.ntmps214; go_wp2_with (go_at_call 180; refine (hib _).mono ?_; rintro e w' ⟨rfl, rfl⟩)
             go_ret; exact ⟨rfl, rfl⟩
         · go_enter Tryz.func214, Tryz.ntmps214; go_wp2_with (go_at_call 180; refine (hib _).mono ?_; rintro e w' ⟨rfl, rfl⟩)
           go_ret; exact ⟨rfl, rfl⟩
       · go_enter Tryz.func214, Tryz.ntmps214; go_wp2_with (go_at_call 180; refine (hib _).mono ?_; rintro e w' ⟨rfl, rfl⟩)
         go_ret; exact ⟨rfl, rfl⟩
     · go_enter Tryz.func214, Tryz.ntmps214; go_wp2_with (go_at_call 180; refine (hib _).mono ?_; rintro e w' ⟨rfl, rfl⟩)
       go_ret; exact ⟨rfl, rfl⟩
   · go_enter Tryz.func214, Tryz.ntmps214; go_wp2_with (go_at_call 180; refine (hib _).mono ?_; rintro e w' ⟨rfl, rfl⟩)
     go_ret; exact ⟨rfl, rfl⟩
 · go_enter Tryz.func214, Tryz.ntmps214; go_wp2_with (go_at_call 180; refine (hib _).mono ?_; rintro e w' ⟨rfl, rfl⟩)
   go_ret; exact ⟨rfl, rfl⟩
theorem gr_drew (w : World) (g : Nat) : w.grownBy w.drew (some g) := ⟨rfl, rfl, rfl, Nat.le_refl _, fun k _ _ => rfl⟩
theorem gr_drewN (w : World) (g k : Nat) : w.grownBy (w.drewN k) (some g) := ⟨rfl, rfl, rfl, Nat.le_refl _, fun k _ _ => rfl⟩
theorem u8_lit {c : UInt8} {k : Nat} (h : (UInt8.ofNat k) ≠ c) (hk : k < 256) : ((c.toNat : Int) == (k : Int)) = false := by
 rw [← Bool.not_eq_true, beq_iff_eq]; intro e; apply h; apply UInt8.toNat_inj.1; rw [UInt8.toNat_ofNat']; omega
set_option maxRecDepth 100000 in
set_option maxHeartbeats 800000 in
theorem paren_open (g p n : Nat) (s : ByteArray) (w : World) (h : Lx RT w g s p n 0) (hp : p < s.size) (hs : s.size ≤ 1000000) (hc : s[p] = 40) :
 Calls Tryz.prog 183 #[.pointer (some ⟨g, 0, none⟩)] w fun e w' => e = .returned .nilIface ∧ Lx RT w' g s (p + 1) n n ∧ w.grownBy w' (some g) := by
 obtain ⟨c0, c1, c2, c3, hf⟩ := h.cells; have hdr : Lx RT w.drew g s p n 0 := h; have d4 : (s[p].toNat : Int) = 40 := by rw [hc]; rfl
 have HL := Nm.hide (((hdr.opn (q := 0)).opn (q := n)).at (q := p + 1)); have HG := Nm.hide (gr_trans (gr_trans (gr_trans (gr_drew w g) (gr_set w.drew g 3 (.int .i64 ((0 : Nat) : Int)))) (gr_set _ g 3 (.int .i64 (n : Int)))) (gr_set _ g 1 (.int .i64 ((p + 1 : Nat) : Int)))); go_enter Tryz.func183, Tryz.ntmps183; go_wp2; go_region
 go_wp2; go_ret; exact ⟨rfl, HL.out, HG.out⟩
set_option maxRecDepth 100000 in
set_option maxHeartbeats 800000 in
theorem paren_close (g p n o : Nat) (s : ByteArray) (w : World) (h : Lx RT w g s p n o) (hp : p < s.size) (hs : s.size ≤ 1000000) (hc : s[p] = 41) (ho : o ≠ 0) :
 Calls Tryz.prog 183 #[.pointer (some ⟨g, 0, none⟩)] w fun e w' => e = .returned .nilIface ∧ Lx RT w' g s (p + 1) n 0 ∧ w.grownBy w' (some g) := by
 obtain ⟨c0, c1, c2, c3, hf⟩ := h.cells; have hdr : Lx RT w.drew g s p n o := h; have d4 : (s[p].toNat : Int) = 41 := by rw [hc]; rfl
 have d5 : ((o : Int) == 0) = false := by simp; omega
 have HL := Nm.hide ((hdr.opn (q := 0)).at (q := p + 1)); have HG := Nm.hide (gr_trans (gr_trans (gr_drew w g) (gr_set w.drew g 3 (.int .i64 ((0 : Nat) : Int)))) (gr_set _ g 1 (.int .i64 ((p + 1 : Nat) : Int)))); go_enter Tryz.func183, Tryz.ntmps183; go_wp2; go_region
 go_wp2; go_ret; exact ⟨rfl, HL.out, HG.out⟩
set_option maxRecDepth 100000 in
set_option maxHeartbeats 800000 in
theorem paren_bad (g p n o : Nat) (s : ByteArray) (w : World) (h : Lx RT w g s p n o) (hp : p < s.size) (hs : s.size ≤ 1000000) (hc : (s[p] = 40 ∧ o ≠ 0) ∨ (s[p] = 41 ∧ o = 0)) :
 Calls Tryz.prog 183 #[.pointer (some ⟨g, 0, none⟩)] w fun e w' => e = .returned (linE n 14) ∧ w.grownBy w' (some g) := by
 obtain ⟨c0, c1, c2, c3, hf⟩ := h.cells; have hfa := fault_any g p n o 14 s w.drew h
 rcases hc with ⟨hc, ho⟩ | ⟨hc, rfl⟩
 · have d4 : (s[p].toNat : Int) = 40 := by rw [hc]; rfl
   have d5 : ((o : Int) == 0) = false := by simp; omega
   go_enter Tryz.func183, Tryz.ntmps183; go_wp2; go_region
   go_wp2_with (go_at_call 212; refine hfa.mono ?_; rintro e w' ⟨rfl, rfl⟩)
   go_ret; exact ⟨rfl, gr_drew w g⟩
 · have d4 : (s[p].toNat : Int) = 41 := by rw [hc]; rfl
   go_enter Tryz.func183, Tryz.ntmps183; go_wp2; go_region
   go_wp2_with (go_at_call 212; refine hfa.mono ?_; rintro e w' ⟨rfl, rfl⟩)
   go_ret; exact ⟨rfl, gr_drew w g⟩
set_option maxRecDepth 100000 in
set_option maxHeartbeats 800000 in
theorem letter_one (g p n o : Nat) (s : ByteArray) (w : World) (h : Lx RT w g s p n o) (hp : p < s.size) (hs : s.size ≤ 1000000) (hc : s[p] ≠ 92) :
 Calls Tryz.prog 215 #[.pointer (some ⟨g, 0, none⟩)] w fun e w' => e = .returned .nilIface ∧ Lx RT w' g s (p + 1) n o ∧ w.grownBy w' (some g) := by
 obtain ⟨c0, c1, c2, c3, hf⟩ := h.cells; have hdr : Lx RT w.drew g s p n o := h; have d4 : ((s[p].toNat : Int) == 92) = false := u8_lit (k := 92) (fun e => hc e.symm) (by decide); have HL := Nm.hide (hdr.at (q := p + 1)); have HG := Nm.hide (gr_trans (gr_drew w g) (gr_set w.drew g 1 (.int .i64 ((p + 1 : Nat) : Int)))); go_enter Tryz.func215, Tryz.ntmps215; go_wp2; go_region
 go_wp2; go_ret; exact ⟨rfl, HL.out, HG.out⟩
set_option maxRecDepth 100000 in
set_option maxHeartbeats 800000 in
theorem letter_two (g p n o : Nat) (s : ByteArray) (w : World) (h : Lx RT w g s p n o) (hp : p + 1 < s.size) (hs : s.size ≤ 1000000) (hc : s[p] = 92) (hc2 : s[p + 1] ≠ 10) :
 Calls Tryz.prog 215 #[.pointer (some ⟨g, 0, none⟩)] w fun e w' => e = .returned .nilIface ∧ Lx RT w' g s (p + 2) n o ∧ w.grownBy w' (some g) := by
 obtain ⟨c0, c1, c2, c3, hf⟩ := h.cells; have hdr : Lx RT w.drew.drew g s p n o := h; have hp0 : p < s.size := by omega
 have d4 : (s[p].toNat : Int) = 92 := by rw [hc]; rfl
 have d5 : ((s[p + 1].toNat : Int) == 10) = false := u8_lit (k := 10) (fun e => hc2 e.symm) (by decide); have d6 : ((p : Int) + 1 == (s.size : Int)) = false := by simp; omega
 have i1 : 0 ≤ (p : Int) + 1 := by omega
 have i2 : (p : Int) + 1 < (s.size : Int) := by omega
 have HL := Nm.hide (hdr.at (q := p + 2)); go_enter Tryz.func215, Tryz.ntmps215; go_wp2; go_region
 go_wp2; go_quiet (fail)
 go_wp2; go_ret; exact ⟨rfl, HL.out, gr_trans (gr_drewN w g _) (gr_set _ g 1 (.int .i64 ((p + 2 : Nat) : Int)))⟩
set_option maxRecDepth 100000 in
set_option maxHeartbeats 800000 in
theorem letter_bad (g p n o : Nat) (s : ByteArray) (w : World) (h : Lx RT w g s p n o) (hp : p < s.size) (hs : s.size ≤ 1000000) (hc : s[p] = 92) (hc2 : ∀ h : p + 1 < s.size, s[p + 1] = 10) :
 Calls Tryz.prog 215 #[.pointer (some ⟨g, 0, none⟩)] w fun e w' => e = .returned (linE n 4) ∧ (∃ q, Lx RT w' g s q n o) ∧ w.grownBy w' (some g) := by
 obtain ⟨c0, c1, c2, c3, hf⟩ := h.cells; have d4 : (s[p].toNat : Int) = 92 := by rw [hc]; rfl
 have hfa := fun k => fault_any g p n o 4 s (w.drewN k) h
 by_cases hp1 : p + 1 < s.size
 · have d5 : (s[p + 1].toNat : Int) = 10 := by rw [hc2 hp1]; rfl
   have d6 : ((p : Int) + 1 == (s.size : Int)) = false := by simp; omega
   have i1 : 0 ≤ (p : Int) + 1 := by omega
   have i2 : (p : Int) + 1 < (s.size : Int) := by omega
   clear hc2; go_enter Tryz.func215, Tryz.ntmps215; go_wp2; go_region
   go_wp2; go_quiet (fail)
   go_wp2_with (go_at_call 212; refine (hfa _).mono ?_; rintro e w' ⟨rfl, rfl⟩)
   go_ret; exact ⟨rfl, ⟨p, h⟩, gr_drewN w g _⟩
 · have d6 : ((p : Int) + 1 == (s.size : Int)) = true := by simp; omega
   clear hc2; go_enter Tryz.func215, Tryz.ntmps215; go_wp2; go_region
   go_wp2; go_quiet (fail)
   go_wp2_with (go_at_call 212; refine (hfa _).mono ?_; rintro e w' ⟨rfl, rfl⟩)
   go_ret; exact ⟨rfl, ⟨p, h⟩, gr_drewN w g _⟩
variable {RT : Array Value × Nat}
/-- How much of a text is left at the place in block g. -/
def mzL (N g : Nat) (w : World) : Nat := match w.cell? ⟨g, 1, none⟩ with | some (.int _ k) => N - k.toNat | _ => 0
theorem mzL_at {w : World} {g p n o N : Nat} {s : ByteArray} (h : Lx RT w g s p n o) : mzL N g w = N - p := by
 rw [mzL, h.cells.2.1]; simp
theorem ended_q {g p n o : Nat} {s : ByteArray} {w : World} (h : Lx RT w g s p n o) (b : Bool) (hb : decide (p = s.size) = b) (k : Nat) :
 Calls Tryz.prog 140 #[.pointer (some ⟨g, 0, none⟩)] (w.drewN k) fun e w' => e = .returned (.bool b) ∧ ∃ m, w' = w.drewN m := by
 subst hb; exact Calls.quiet_of ((ended_any g p n o s (w.drewN k) h).mono fun e w' he => ⟨he.1, 1, he.2⟩)
set_option maxRecDepth 100000 in
set_option maxHeartbeats 800000 in
theorem comment_any (g p n o : Nat) (s : ByteArray) (w : World) (h : Lx RT w g s p n o) (hp : p ≤ s.size) (hs : s.size ≤ 1000000) :
 Calls Tryz.prog 182 #[.pointer (some ⟨g, 0, none⟩)] w fun e w' => e = .returned (.tuple #[]) ∧ Lx RT w' g s (comE s p) n o ∧ w.grownBy w' (some g) := by
 obtain ⟨R, hR⟩ : ∃ R, Hid (comE s p = R) := ⟨_, rfl⟩; rw [hR.out]; go_enter Tryz.func182, Tryz.ntmps182; go_wp2
 go_loopw [] (fun wr => ∃ q, q ≤ s.size ∧ Hid (comE s q = R) ∧ Lx RT wr g s q n o ∧ w.grownBy wr (some g)) (fun wr => mzL s.size g wr)
 case atStart => exact ⟨p, hp, hR, h, gr_refl _ _⟩
 case round =>
  obtain ⟨q, hq, hR2, hl, hgr⟩ := hrel; clear h hR; obtain ⟨c0, c1, c2, c3, hf⟩ := hl.cells
  by_cases hlt : q < s.size
  · have d1 : decide (q = s.size) = false := by simp; omega
    have hen := fun k => ended_q hl _ d1 k
    by_cases hc : s[q] = 10
    · have d4 : (s[q].toNat : Int) = 10 := by rw [hc]; rfl
      have hE : comE s q = q := by rw [comE, dif_pos hlt, if_pos hc]
      have HE : Hid (q = R) := by show q = R; rw [← hE]; exact hR2.out
      clear hE hR2 hc; go_wp2; go_quiet ((go_at_call 140; exact hen _))
      go_wp2; refine bodyPost_end (v := .tuple #[]) (by simp [results, go_sem]) rfl ⟨rfl, ?_, gr_trans hgr (gr_drewN _ _ _)⟩; rw [← HE.out]; exact hl
    · have d4 : ((s[q].toNat : Int) == 10) = false := u8_lit (k := 10) (fun e => hc e.symm) (by decide)
      have HE : Hid (comE s (q + 1) = R) := by
       show _ = R
       rw [← hR2.out]
       conv => rhs; rw [comE, dif_pos hlt, if_neg hc]
      clear hR2 hc; go_wp2; go_quiet ((go_at_call 140; exact hen _))
      go_wp2; go_roundw
      case rel => exact ⟨q + 1, by omega, HE, hl.at, gr_trans hgr (gr_trans (gr_drewN _ _ _) (gr_set _ g 1 (.int .i64 ((q + 1 : Nat) : Int))))⟩
      case measure => rw [mzL_at hl]; exact Nat.lt_of_le_of_lt (Nat.le_of_eq (mzL_at (Lx.at (q := q + 1) (w := wr.drewN nq) hl))) (by omega)
  · have d1 : decide (q = s.size) = true := by simp; omega
    have hen := fun k => ended_q hl _ d1 k
    have HE : Hid (q = R) := by show q = R; rw [← hR2.out, comE, dif_neg hlt]
    clear hR2; go_wp2; go_quiet ((go_at_call 140; exact hen _))
    go_wp2; refine bodyPost_end (v := .tuple #[]) (by simp [results, go_sem]) rfl ⟨rfl, ?_, gr_trans hgr (gr_drewN _ _ _)⟩; rw [← HE.out]; exact hl
variable {RT : Array Value × Nat}
theorem endsWord_q {c : UInt8} {w : World} (b : Bool) (hb : isSp c = b) (k : Nat) :
 Calls Tryz.prog 214 #[.int .u8 (c.toNat : Int)] (w.drewN k) fun e w' => e = .returned (.bool b) ∧ ∃ m, w' = w.drewN m := by
 subst hb; exact Calls.quiet_of_same (endsWord_any c _)
theorem Lx.grown {w w' : World} {g p n o : Nat} {s : ByteArray} {b : Option Nat} (h : Lx RT w g s p n o) (hg : w.grownBy w' b) (hb : b ≠ some g) : Lx RT w' g s p n o := by
 have hlt := (Array.getElem?_eq_some_iff.1 h).1; unfold Lx; rw [hg.block g hlt (fun e => hb e.symm)]; exact h
theorem Lx.lt {w : World} {g p n o : Nat} {s : ByteArray} (h : Lx RT w g s p n o) : g < w.heap.size := (Array.getElem?_eq_some_iff.1 h).1
theorem Lx.below {w w' : World} {g p n o : Nat} {s : ByteArray} (h : Lx RT w g s p n o) (hb : Below w.heap.size w w') : Lx RT w' g s p n o := by
 unfold Lx; rw [hb.block g h.lt]; exact h
theorem Lx.far {w : World} {g p n o k i : Nat} {y : Value} {s : ByteArray} (h : Lx RT w g s p n o) (hk : k ≠ g) : Lx RT (w.setCell ⟨k, i, none⟩ y) g s p n o := by
 unfold Lx; rw [heap_setCell_other w ⟨k, i, none⟩ g _ (fun e => hk e.symm)]; exact h
theorem gr_belL {w w1 w2 : World} {row : Option Nat} (h : w.grownBy w1 row) (h2 : Below w1.heap.size w1 w2) : w.grownBy w2 row :=
 ⟨h2.os.trans h.os, h2.tape.trans h.tape, h2.output.trans h.output, Nat.le_trans h.size h2.size, fun k hk hne => (h2.block k (Nat.lt_of_lt_of_le hk h.size)).trans (h.block k hk hne)⟩
/-- A cell of a block that is new is written. -/
theorem gr_new {w w1 : World} {row : Option Nat} {k i : Nat} {y : Value} (h : w.grownBy w1 row) (hk : w.heap.size ≤ k) : w.grownBy (w1.setCell ⟨k, i, none⟩ y) row :=
 ⟨h.os, h.tape, h.output, Nat.le_trans h.size (by simp), fun j hj hne => (heap_setCell_other w1 ⟨k, i, none⟩ j _ (fun e => by simp at e; omega)).trans (h.block j hj hne)⟩
theorem gr_alloc {w : World} {g : Nat} (x : Obj) : w.grownBy (w.alloc x) (some g) := ⟨rfl, rfl, rfl, by simp, fun k hk _ => heap_alloc_old w x hk⟩
set_option maxRecDepth 100000 in
set_option maxHeartbeats 1600000 in
theorem word_ok (g p n o : Nat) (s : ByteArray) (w : World) (h : Lx RT w g s p n o) (hp : p < s.size) (hs : s.size ≤ 1000000) (hc : isSp s[p] = false) (h0 : (barF s p).1 = 0) :
 Calls Tryz.prog 184 #[.pointer (some ⟨g, 0, none⟩)] w fun e w' => e = .returned (.tuple #[.agg #[.string (s.extract p (barF s p).2), .bool false], .nilIface]) ∧ Lx RT w' g s (barF s p).2 n o ∧ w.grownBy w' (some g) := by
 obtain ⟨R, hR⟩ : ∃ R, Hid (barF s p = (0, R)) := ⟨(barF s p).2, by show _ = _; rw [← h0]⟩; have hR2 : (barF s p).2 = R := by rw [hR.out]
 have hge := barF_ge s p; have hle := barF_le s p (by omega); rw [hR2] at hge hle ⊢; clear h0 hR2
 have d34 : ((s[p].toNat : Int) == 34) = false := by
  refine u8_lit (k := 34) (fun e => ?_) (by decide); rw [← e] at hc; exact absurd hc (by decide)
 have hl1 : Lx RT (w.alloc (.cells #[.string ⟨#[]⟩, .bool false] 40)) g s p n o := h.grown (b := none) ⟨rfl, rfl, rfl, by simp, fun k hk _ => heap_alloc_old _ _ hk⟩ (by simp); obtain ⟨c0, c1, c2, c3, hf⟩ := hl1.cells; have bW := blk_new w #[.string ⟨#[]⟩, .bool false] 40; have hgl := h.lt; have HG0 := Nm.hide (gr_alloc (w := w) (g := g) (.cells #[.string ⟨#[]⟩, .bool false] 40)); generalize hw1 : w.alloc (.cells #[.string ⟨#[]⟩, .bool false] 40) = w1 at *; go_enter Tryz.func184, Tryz.ntmps184; go_wp2; go_quiet (fail)
 go_wp2; have hcl := fun W => clone_any (s.extract p R) W (by rw [ByteArray.size_extract]; omega)
 clear hw1 h c0 c1 c2 c3 hf d34 hc
 go_loopw [] (fun wr => ∃ q, p ≤ q ∧ q ≤ s.size ∧ Hid (barF s q = (0, R)) ∧ Lx RT wr g s q n o ∧ w1.grownBy wr (some g)) (fun wr => mzL s.size g wr)
 case atStart => exact ⟨p, Nat.le_refl _, by omega, hR, hl1, gr_drewN _ _ _⟩
 case round =>
  obtain ⟨q, hpq, hq, hR2, hl, hgr⟩ := hrel; clear hR hl1; have i1 : (0 : Int) ≤ (p : Int) := by omega
  have i2 : (p : Int) ≤ (q : Int) := by omega
  have i3 : (q : Int) ≤ (s.size : Int) := by omega
  obtain ⟨c0, c1, c2, c3, hf⟩ := hl.cells; have bR := blk_grown bW hgr (fun e => by simp at e; omega)
  by_cases hlt : q < s.size
  · have d1 : decide (q = s.size) = false := by simp; omega
    have hen := fun k => ended_q hl _ d1 k
    cases hsp : isSp s[q] with
    | false =>
      have hew := fun k => endsWord_q (w := wr) _ hsp k
      by_cases hc : s[q] = 92
      · have hr3 := hR2.out; rw [barF, dif_pos hlt, if_neg (by simp [hsp]), if_pos hc] at hr3
        have hlt2 : q + 1 < s.size := by
         rcases Nat.lt_or_ge (q + 1) s.size with h | h
         · exact h
         · rw [dif_neg (by omega)] at hr3; simp at hr3
        rw [dif_pos hlt2] at hr3
        have hc2 : s[q + 1] ≠ 10 := by
         intro e; rw [if_pos e] at hr3; simp at hr3
        rw [if_neg hc2] at hr3; have HR3 := Nm.hide hr3; have hle2 := fun k => letter_two g q n o s (wr.drewN k) hl hlt2 hs hc hc2
        clear hr3 hR2 hc hc2; go_wp2; go_quiet ((first | (go_at_call 140; exact hen _) | (go_at_call 214; exact hew _)))
        go_wp2_with (go_at_call 215; refine (hle2 _).mono ?_; rintro e w3 ⟨rfl, hl3, hg3⟩)
        go_roundw
        case rel => exact ⟨q + 2, by omega, by omega, HR3, hl3, gr_trans hgr (gr_trans (gr_drewN _ _ _) hg3)⟩
        case measure => rw [mzL_at hl, mzL_at hl3]; omega
      · have hr3 := hR2.out; rw [barF, dif_pos hlt, if_neg (by simp [hsp]), if_neg hc] at hr3; have HR3 := Nm.hide hr3; have hle2 := fun k => letter_one g q n o s (wr.drewN k) hl hlt hs hc
        clear hr3 hR2 hc; go_wp2; go_quiet ((first | (go_at_call 140; exact hen _) | (go_at_call 214; exact hew _)))
        go_wp2_with (go_at_call 215; refine (hle2 _).mono ?_; rintro e w3 ⟨rfl, hl3, hg3⟩)
        go_roundw
        case rel => exact ⟨q + 1, by omega, by omega, HR3, hl3, gr_trans hgr (gr_trans (gr_drewN _ _ _) hg3)⟩
        case measure => rw [mzL_at hl, mzL_at hl3]; omega
    | true =>
      have hew := fun k => endsWord_q (w := wr) _ hsp k
      have hqR : q = R := by have e := hR2.out; rw [barF, dif_pos hlt, if_pos hsp] at e; simpa using e
      subst hqR; clear hR2; go_wp2; go_quiet ((first | (go_at_call 140; exact hen _) | (go_at_call 214; exact hew _)))
      go_wp2; refine wp_region_last (fun W => W.cell? ⟨g, 0, none⟩ = some (.string s) ∧ W.cell? ⟨g, 1, none⟩ = some (.int .i64 (q : Int))) 13 (by kernel_rfl) ⟨c0, c1⟩ (fun hHeld => ?_); refine tkA 0 rfl ?_; refine tkA 1 rfl ?_; refine tkA 2 rfl ?_; refine tkA 3 rfl ?_; refine tkA 4 rfl ?_; refine tkA 5 rfl ?_; refine tkA 6 rfl ?_; refine tkA 7 rfl ?_; refine tkA 8 rfl ?_; refine tkA 9 rfl ?_; refine wpAnyL_one (i := 10) (by kernel_rfl) rfl (fun K hK => ?_); go_simp; refine (hcl _).mono ?_; rintro e w3 ⟨rfl, hb3⟩; go_wp2_with fail
      have hl3 := Lx.below (w := wr.drewN _) hl hb3; have bR3 := blk_below (w := wr.drewN _) bR hb3; refine hK.out _ _ ⟨hl3.cells.1, hl3.cells.2.1⟩ (fun hH3 => ?_); clear hK K; refine tkA 11 rfl ?_; have fR3 := fun i => blk_frozen bR3 i
      have rR3 := fun i => blk_cell bR3 i
      refine wpAnyL_one (i := 12) (by kernel_rfl) rfl (fun K hK => ?_); go_simp; have kW := blk_set (blk_set bR3 0 (.string (s.extract p q))) 1 (.bool false); have hl4 : Lx RT ((w3.setCell ⟨w.heap.size, 0, none⟩ (.string (s.extract p q))).setCell ⟨w.heap.size, 1, none⟩ (.bool false)) g s q n o := (hl3.far (by omega)).far (by omega); have HG4 := Nm.hide (gr_trans HG0.out (gr_trans hgr (gr_belL (gr_drewN wr g (nq + 1)) hb3))); have HG5 := Nm.hide (gr_new (gr_new HG4.out (i := 0) (y := .string (s.extract p q)) (Nat.le_refl _)) (i := 1) (y := .bool false) (Nat.le_refl _)); refine hK.out _ _ ⟨hl4.cells.1, hl4.cells.2.1⟩ (fun hH4 => ?_); clear hK K; refine wpAnyL_end (by kernel_rfl) rfl (by kernel_rfl) (fun K hK => ?_); go_simp; refine hK.out _ _ ?_; clear hK K; go_wp2; have rk := fun i => blk_cell kW i
      refine bodyPost_ret (v := .tuple #[.agg #[.string (s.extract p q), .bool false], .nilIface]) ?_ rfl ⟨rfl, hl4, HG5.out⟩; simp [results, Tryz.f184, go_sem, rk]
  · have d1 : decide (q = s.size) = true := by simp; omega
    have hen := fun k => ended_q hl _ d1 k
    have hqR : q = R := by have e := hR2.out; rw [barF, dif_neg hlt] at e; simpa using e
    subst hqR; clear hR2; go_wp2; go_quiet ((first | (go_at_call 140; exact hen _) | (go_at_call 214; exact hew _)))
    go_wp2; refine wp_region_last (fun W => W.cell? ⟨g, 0, none⟩ = some (.string s) ∧ W.cell? ⟨g, 1, none⟩ = some (.int .i64 (q : Int))) 13 (by kernel_rfl) ⟨c0, c1⟩ (fun hHeld => ?_); refine tkA 0 rfl ?_; refine tkA 1 rfl ?_; refine tkA 2 rfl ?_; refine tkA 3 rfl ?_; refine tkA 4 rfl ?_; refine tkA 5 rfl ?_; refine tkA 6 rfl ?_; refine tkA 7 rfl ?_; refine tkA 8 rfl ?_; refine tkA 9 rfl ?_; refine wpAnyL_one (i := 10) (by kernel_rfl) rfl (fun K hK => ?_); go_simp; refine (hcl _).mono ?_; rintro e w3 ⟨rfl, hb3⟩; go_wp2_with fail
    have hl3 := Lx.below (w := wr.drewN _) hl hb3; have bR3 := blk_below (w := wr.drewN _) bR hb3; refine hK.out _ _ ⟨hl3.cells.1, hl3.cells.2.1⟩ (fun hH3 => ?_); clear hK K; refine tkA 11 rfl ?_; have fR3 := fun i => blk_frozen bR3 i
    have rR3 := fun i => blk_cell bR3 i
    refine wpAnyL_one (i := 12) (by kernel_rfl) rfl (fun K hK => ?_); go_simp; have kW := blk_set (blk_set bR3 0 (.string (s.extract p q))) 1 (.bool false); have hl4 : Lx RT ((w3.setCell ⟨w.heap.size, 0, none⟩ (.string (s.extract p q))).setCell ⟨w.heap.size, 1, none⟩ (.bool false)) g s q n o := (hl3.far (by omega)).far (by omega); have HG4 := Nm.hide (gr_trans HG0.out (gr_trans hgr (gr_belL (gr_drewN wr g (nq + 1)) hb3))); have HG5 := Nm.hide (gr_new (gr_new HG4.out (i := 0) (y := .string (s.extract p q)) (Nat.le_refl _)) (i := 1) (y := .bool false) (Nat.le_refl _)); refine hK.out _ _ ⟨hl4.cells.1, hl4.cells.2.1⟩ (fun hH4 => ?_); clear hK K; refine wpAnyL_end (by kernel_rfl) rfl (by kernel_rfl) (fun K hK => ?_); go_simp; refine hK.out _ _ ?_; clear hK K; go_wp2; have rk := fun i => blk_cell kW i
    refine bodyPost_ret (v := .tuple #[.agg #[.string (s.extract p q), .bool false], .nilIface]) ?_ rfl ⟨rfl, hl4, HG5.out⟩; simp [results, Tryz.f184, go_sem, rk]
end Go.Proofs.YtddabafaejahbaaGreatDoor
