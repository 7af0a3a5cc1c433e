/- The program's lexer: a comment, a word. -/
import Derived.Test.YtjbdfooppokonaaDoorLxB
import Derived.Test.YtjbdfooppokonaaDoorClone
namespace Go.Proofs.YtjbdfooppokonaaDoor
open Go.RowKit
set_option linter.unusedVariables false

/-- How much of a text is left at the place in block g. -/
def mzL (N g : Nat) (w : World) : Nat := match w.cell? ⟨g, 1, none⟩ with | some (.int _ k) => N - k.toNat | _ => 0
theorem mzL_at {w : World} {g p n o N : Nat} {s : ByteArray} (h : Lx w g s p n o) : mzL N g w = N - p := by
  rw [mzL, h.cells.2.1]
  simp

theorem ended_q {g p n o : Nat} {s : ByteArray} {w : World} (h : Lx w g s p n o) (b : Bool) (hb : decide (p = s.size) = b) (k : Nat) :
    Calls Tryd.prog 22 #[.pointer (some ⟨g, 0, none⟩)] (w.drewN k) fun e w' => e = .returned (.bool b) ∧ ∃ m, w' = w.drewN m := by
  subst hb
  exact Calls.quiet_of ((ended_any g p n o s (w.drewN k) h).mono fun e w' he => ⟨he.1, 1, he.2⟩)

set_option maxRecDepth 100000 in
set_option maxHeartbeats 800000 in
theorem comment_any (g p n o : Nat) (s : ByteArray) (w : World) (h : Lx w g s p n o) (hp : p ≤ s.size) (hs : s.size ≤ 1000000) :
    Calls Tryd.prog 30 #[.pointer (some ⟨g, 0, none⟩)] w fun e w' => e = .returned (.tuple #[]) ∧ Lx w' g s (comE s p) n o ∧ w.grownBy w' (some g) := by
  obtain ⟨R, hR⟩ : ∃ R, Hid (comE s p = R) := ⟨_, rfl⟩
  rw [hR.out]
  go_enter Tryd.func30, Tryd.ntmps30
  go_wp2
  go_loopw [] (fun wr => ∃ q, q ≤ s.size ∧ Hid (comE s q = R) ∧ Lx wr g s q n o ∧ w.grownBy wr (some g)) (fun wr => mzL s.size g wr)
  case atStart => exact ⟨p, hp, hR, h, gr_refl _ _⟩
  case round =>
    obtain ⟨q, hq, hR2, hl, hgr⟩ := hrel
    clear h hR
    obtain ⟨c0, c1, c2, c3, hf⟩ := hl.cells
    by_cases hlt : q < s.size
    · have d1 : decide (q = s.size) = false := by simp; omega
      have hen := fun k => ended_q hl _ d1 k
      by_cases hc : s[q] = 10
      · have d4 : (s[q].toNat : Int) = 10 := by rw [hc]; rfl
        have hE : comE s q = q := by rw [comE, dif_pos hlt, if_pos hc]
        have HE : Hid (q = R) := by show q = R; rw [← hE]; exact hR2.out
        clear hE hR2 hc
        go_wp2
        go_quiet ((go_at_call 22; exact hen _))
        go_wp2
        refine bodyPost_end (v := .tuple #[]) (by simp [results, go_sem]) rfl ⟨rfl, ?_, gr_trans hgr (gr_drewN _ _ _)⟩
        rw [← HE.out]
        exact hl
      · have d4 : ((s[q].toNat : Int) == 10) = false := u8_lit (k := 10) (fun e => hc e.symm) (by decide)
        have HE : Hid (comE s (q + 1) = R) := by
          show _ = R
          rw [← hR2.out]
          conv => rhs; rw [comE, dif_pos hlt, if_neg hc]
        clear hR2 hc
        go_wp2
        go_quiet ((go_at_call 22; exact hen _))
        go_wp2
        go_roundw
        case rel => exact ⟨q + 1, by omega, HE, hl.at, gr_trans hgr (gr_trans (gr_drewN _ _ _) (gr_set _ g 1 (.int .i64 ((q + 1 : Nat) : Int))))⟩
        case measure => rw [mzL_at hl]; exact Nat.lt_of_le_of_lt (Nat.le_of_eq (mzL_at (Lx.at (q := q + 1) (w := wr.drewN nq) hl))) (by omega)
    · have d1 : decide (q = s.size) = true := by simp; omega
      have hen := fun k => ended_q hl _ d1 k
      have HE : Hid (q = R) := by show q = R; rw [← hR2.out, comE, dif_neg hlt]
      clear hR2
      go_wp2
      go_quiet ((go_at_call 22; exact hen _))
      go_wp2
      refine bodyPost_end (v := .tuple #[]) (by simp [results, go_sem]) rfl ⟨rfl, ?_, gr_trans hgr (gr_drewN _ _ _)⟩
      rw [← HE.out]
      exact hl
end Go.Proofs.YtjbdfooppokonaaDoor
