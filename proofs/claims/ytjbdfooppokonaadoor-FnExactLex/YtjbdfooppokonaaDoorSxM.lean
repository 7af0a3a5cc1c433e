/- The model's lexer: what is left to come. -/
import Derived.Test.YtjbdfooppokonaaDoorSxA
namespace Go.Proofs.YtjbdfooppokonaaDoor
open Go.RowKit
set_option linter.unusedVariables false

/-- What comes behind a line. -/
def contL (s : ByteArray) (num : Nat) (bl : Bool) (r : LR) (ls : List Ln) : LsR :=
  match r with
  | .inl (c, q) => .inl (c, q)
  | .inr (p, n, ws) => lsF s p n (if ws.length = 0 then ls else ls ++ [⟨num, bl, ws⟩])
/-- What comes of all. -/
def totX (s : ByteArray) (x : XB) (ws : List Wd) (ls : List Ln) : LsR :=
  if x.co = 0 then (if x.fr = true then lsF s x.p x.n ls else contL s x.num x.bl (lnF s x.num x.p x.n x.o ws) ls) else .inl (x.co, x.pl)
theorem totX_bad {s : ByteArray} {x : XB} {ws : List Wd} {ls : List Ln} (h : x.co ≠ 0) : totX s x ws ls = .inl (x.co, x.pl) := if_neg h
theorem totX_line {s : ByteArray} {x : XB} {ws : List Wd} {ls : List Ln} (h : x.co = 0) (hf : x.fr = false) : totX s x ws ls = contL s x.num x.bl (lnF s x.num x.p x.n x.o ws) ls := by
  rw [totX, if_pos h, if_neg (by simp [hf])]
theorem totX_new {s : ByteArray} {x : XB} {ws : List Wd} {ls : List Ln} (h : x.co = 0) (hf : x.fr = true) : totX s x ws ls = lsF s x.p x.n ls := by
  rw [totX, if_pos h, if_pos hf]
theorem lsF_cont {s : ByteArray} {p n : Nat} {ls : List Ln} (h : p < s.size) : lsF s p n ls = contL s n (isBl s[p]) (lnF s n p n 0 []) ls := by
  cases e : lnF s n p n 0 [] with
  | inl cq =>
    obtain ⟨c, q⟩ := cq
    exact lsF_err h e
  | inr r0 =>
    obtain ⟨p', n', ws⟩ := r0
    exact lsF_ok h e
theorem lnF_dif {s : ByteArray} {num p n o : Nat} {ws : List Wd} (h : p < s.size) (hn : s[p] = 10) (ho : o ≠ 0) : lnF s num p n o ws = lnF s num (p + 1) (n + 1) o ws := by
  rw [lnF, dif_pos h, dif_pos hn, if_neg ho]
theorem lnF_fin {s : ByteArray} {num p n : Nat} {ws : List Wd} (h : p < s.size) (hn : s[p] = 10) : lnF s num p n 0 ws = finL num (p + 1) (n + 1) ws := by
  rw [lnF, dif_pos h, dif_pos hn, if_pos rfl]
theorem lnF_bl {s : ByteArray} {num p n o : Nat} {ws : List Wd} (h : p < s.size) (hn : s[p] ≠ 10) (hb : isBl s[p] = true) : lnF s num p n o ws = lnF s num (p + 1) n o ws := by
  rw [lnF, dif_pos h, dif_neg hn, if_pos hb]
theorem lnF_com {s : ByteArray} {num p n o : Nat} {ws : List Wd} (h : p < s.size) (hn : s[p] ≠ 10) (hb : isBl s[p] = false) (hc : s[p] = 59) : lnF s num p n o ws = lnF s num (comE s p) n o ws := by
  rw [lnF, dif_pos h, dif_neg hn, if_neg (by simp [hb]), if_pos hc]
theorem lnF_40 {s : ByteArray} {num p n o : Nat} {ws : List Wd} (h : p < s.size) (hc : s[p] = 40) : lnF s num p n o ws = if o = 0 then lnF s num (p + 1) n n ws else .inl (14, n) := by
  rw [lnF, dif_pos h, dif_neg (by rw [hc]; decide), if_neg (by rw [hc]; decide), if_neg (by rw [hc]; decide), if_pos hc]
theorem lnF_41 {s : ByteArray} {num p n o : Nat} {ws : List Wd} (h : p < s.size) (hc : s[p] = 41) : lnF s num p n o ws = if o = 0 then .inl (14, n) else lnF s num (p + 1) n 0 ws := by
  rw [lnF, dif_pos h, dif_neg (by rw [hc]; decide), if_neg (by rw [hc]; decide), if_neg (by rw [hc]; decide), if_neg (by rw [hc]; decide), if_pos hc]
theorem lnF_34 {s : ByteArray} {num p n o : Nat} {ws : List Wd} (h : p < s.size) (hc : s[p] = 34) : lnF s num p n o ws = if (qutF s (p + 1)).1 = 0 then lnF s num ((qutF s (p + 1)).2 + 1) n o (ws ++ [(s.extract (p + 1) (qutF s (p + 1)).2, true)]) else .inl ((qutF s (p + 1)).1, n) := by
  rw [lnF, dif_pos h, dif_neg (by rw [hc]; decide), if_neg (by rw [hc]; decide), if_neg (by rw [hc]; decide), if_neg (by rw [hc]; decide), if_neg (by rw [hc]; decide), if_pos hc]
theorem lnF_bar {s : ByteArray} {num p n o : Nat} {ws : List Wd} (h : p < s.size) (hc : isSp s[p] = false) : lnF s num p n o ws = if (barF s p).1 = 0 then lnF s num (barF s p).2 n o (ws ++ [(s.extract p (barF s p).2, false)]) else .inl ((barF s p).1, n) := by
  have hc0 := hc
  simp only [isSp, Bool.or_eq_false_iff, beq_eq_false_iff_ne, ne_eq] at hc
  obtain ⟨⟨⟨⟨⟨hb, h10⟩, h59⟩, h40⟩, h41⟩, h34⟩ := hc
  rw [lnF, dif_pos h, dif_neg h10, if_neg (by simp [hb]), if_neg h59, if_neg h40, if_neg h41, if_neg h34]
  by_cases h0 : (barF s p).1 = 0
  · rw [dif_pos ⟨hc0, h0⟩, if_pos h0]
  · rw [dif_neg (fun h => h0 h.2), if_neg h0]
/-- What holds between steps. -/
def GdX (s : ByteArray) (x : XB) (ws : List Wd) (ps : List Lp) : Prop :=
  x.co = 0 → x.p ≤ s.size ∧ x.n ≤ x.p + 1 ∧ (x.fr = true → x.o = 0 ∧ ps.length ≤ x.p) ∧ (x.fr = false → ws.length ≤ x.p ∧ ps.length + 1 ≤ x.p)
end Go.Proofs.YtjbdfooppokonaaDoor
