/- The lexer as mathematics: a line at a time, and the model's steps. -/
import Derived.Test.YtjbdfooppokonaaDoorMath
namespace Go.Proofs.YtjbdfooppokonaaDoor
open Go.RowKit
set_option linter.unusedVariables false

/-- A word: its text, whether it is quoted. -/
abbrev Wd := ByteArray × Bool
/-- A line: its number, whether it begins with a blank, its words. -/
structure Ln where
  num : Nat
  bl : Bool
  ws : List Wd

def isBl (c : UInt8) : Bool := c == 32 || c == 9 || c == 13
def isSp (c : UInt8) : Bool := isBl c || c == 10 || c == 59 || c == 40 || c == 41 || c == 34

/-- Where a comment ends. -/
def comE (s : ByteArray) (p : Nat) : Nat :=
  if h : p < s.size then if s[p] = 10 then p else comE s (p + 1) else p

/-- Where a word ends, and what is wrong with it. -/
def barF (s : ByteArray) (p : Nat) : Nat × Nat :=
  if h : p < s.size then
    if isSp s[p] then (0, p)
    else if s[p] = 92 then
      if h2 : p + 1 < s.size then if s[p + 1] = 10 then (4, p) else barF s (p + 2)
      else (4, p)
    else barF s (p + 1)
  else (0, p)

def qutF (s : ByteArray) (p : Nat) : Nat × Nat :=
  if h : p < s.size then
    if s[p] = 34 then (0, p)
    else if s[p] = 10 then (13, p)
    else if s[p] = 92 then
      if h2 : p + 1 < s.size then if s[p + 1] = 10 then (4, p) else qutF s (p + 2)
      else (4, p)
    else qutF s (p + 1)
  else (13, p)

theorem comE_ge (s : ByteArray) (p : Nat) : p ≤ comE s p := by
  induction p using comE.induct s with
  | case1 p h h2 => rw [comE, dif_pos h, if_pos h2]; exact Nat.le_refl _
  | case2 p h h2 ih => rw [comE, dif_pos h, if_neg h2]; omega
  | case3 p h => rw [comE, dif_neg h]; exact Nat.le_refl _
theorem comE_gt {s : ByteArray} {p : Nat} (h : p < s.size) (hc : s[p] ≠ 10) : p < comE s p := by
  rw [comE, dif_pos h, if_neg hc]
  have := comE_ge s (p + 1)
  omega
theorem comE_le (s : ByteArray) (p : Nat) (hp : p ≤ s.size) : comE s p ≤ s.size := by
  induction p using comE.induct s with
  | case1 p h h2 => rw [comE, dif_pos h, if_pos h2]; omega
  | case2 p h h2 ih => rw [comE, dif_pos h, if_neg h2]; exact ih (by omega)
  | case3 p h => rw [comE, dif_neg h]; omega
theorem barF_ge (s : ByteArray) (p : Nat) : p ≤ (barF s p).2 := by
  induction p using barF.induct s with
  | case1 p h h1 => rw [barF, dif_pos h, if_pos h1]; exact Nat.le_refl _
  | case2 p h h1 h2 h3 h4 => rw [barF, dif_pos h, if_neg h1, if_pos h2, dif_pos h3, if_pos h4]; exact Nat.le_refl _
  | case3 p h h1 h2 h3 h4 ih => rw [barF, dif_pos h, if_neg h1, if_pos h2, dif_pos h3, if_neg h4]; omega
  | case4 p h h1 h2 h3 => rw [barF, dif_pos h, if_neg h1, if_pos h2, dif_neg h3]; exact Nat.le_refl _
  | case5 p h h1 h2 ih => rw [barF, dif_pos h, if_neg h1, if_neg h2]; omega
  | case6 p h => rw [barF, dif_neg h]; exact Nat.le_refl _
theorem barF_le (s : ByteArray) (p : Nat) (hp : p ≤ s.size) : (barF s p).2 ≤ s.size := by
  induction p using barF.induct s with
  | case1 p h h1 => rw [barF, dif_pos h, if_pos h1]; exact hp
  | case2 p h h1 h2 h3 h4 => rw [barF, dif_pos h, if_neg h1, if_pos h2, dif_pos h3, if_pos h4]; exact hp
  | case3 p h h1 h2 h3 h4 ih => rw [barF, dif_pos h, if_neg h1, if_pos h2, dif_pos h3, if_neg h4]; exact ih (by omega)
  | case4 p h h1 h2 h3 => rw [barF, dif_pos h, if_neg h1, if_pos h2, dif_neg h3]; exact hp
  | case5 p h h1 h2 ih => rw [barF, dif_pos h, if_neg h1, if_neg h2]; exact ih (by omega)
  | case6 p h => rw [barF, dif_neg h]; exact hp
theorem barF_gt {s : ByteArray} {p : Nat} (h : p < s.size) (hc : isSp s[p] = false) (h0 : (barF s p).1 = 0) : p < (barF s p).2 := by
  rw [barF, dif_pos h, if_neg (by simp [hc])] at h0 ⊢
  by_cases h2 : s[p] = 92
  · rw [if_pos h2] at h0 ⊢
    by_cases h3 : p + 1 < s.size
    · rw [dif_pos h3] at h0 ⊢
      by_cases h4 : s[p + 1] = 10
      · rw [if_pos h4] at h0
        simp at h0
      · rw [if_neg h4]
        have := barF_ge s (p + 2)
        omega
    · rw [dif_neg h3] at h0
      simp at h0
  · rw [if_neg h2]
    have := barF_ge s (p + 1)
    omega
theorem qutF_ge (s : ByteArray) (p : Nat) : p ≤ (qutF s p).2 := by
  induction p using qutF.induct s with
  | case1 p h h1 => rw [qutF, dif_pos h, if_pos h1]; exact Nat.le_refl _
  | case2 p h h1 h5 => rw [qutF, dif_pos h, if_neg h1, if_pos h5]; exact Nat.le_refl _
  | case3 p h h1 h5 h2 h3 h4 => rw [qutF, dif_pos h, if_neg h1, if_neg h5, if_pos h2, dif_pos h3, if_pos h4]; exact Nat.le_refl _
  | case4 p h h1 h5 h2 h3 h4 ih => rw [qutF, dif_pos h, if_neg h1, if_neg h5, if_pos h2, dif_pos h3, if_neg h4]; omega
  | case5 p h h1 h5 h2 h3 => rw [qutF, dif_pos h, if_neg h1, if_neg h5, if_pos h2, dif_neg h3]; exact Nat.le_refl _
  | case6 p h h1 h5 h2 ih => rw [qutF, dif_pos h, if_neg h1, if_neg h5, if_neg h2]; omega
  | case7 p h => rw [qutF, dif_neg h]; exact Nat.le_refl _
theorem qutF_lt (s : ByteArray) (p : Nat) (h0 : (qutF s p).1 = 0) : ∃ h : (qutF s p).2 < s.size, s[(qutF s p).2] = 34 := by
  induction p using qutF.induct s with
  | case1 p h h1 =>
    have e : qutF s p = (0, p) := by rw [qutF, dif_pos h, if_pos h1]
    simp only [e]
    exact ⟨h, h1⟩
  | case2 p h h1 h5 => rw [qutF, dif_pos h, if_neg h1, if_pos h5] at h0; simp at h0
  | case3 p h h1 h5 h2 h3 h4 => rw [qutF, dif_pos h, if_neg h1, if_neg h5, if_pos h2, dif_pos h3, if_pos h4] at h0; simp at h0
  | case4 p h h1 h5 h2 h3 h4 ih =>
    have e : qutF s p = qutF s (p + 2) := by rw [qutF, dif_pos h, if_neg h1, if_neg h5, if_pos h2, dif_pos h3, if_neg h4]
    simp only [e] at h0 ⊢
    exact ih h0
  | case5 p h h1 h5 h2 h3 => rw [qutF, dif_pos h, if_neg h1, if_neg h5, if_pos h2, dif_neg h3] at h0; simp at h0
  | case6 p h h1 h5 h2 ih =>
    have e : qutF s p = qutF s (p + 1) := by rw [qutF, dif_pos h, if_neg h1, if_neg h5, if_neg h2]
    simp only [e] at h0 ⊢
    exact ih h0
  | case7 p h => rw [qutF, dif_neg h] at h0; simp at h0

/-- What becomes of a line: what is wrong, or where the next one begins and its number, and the words. -/
abbrev LR := Sum (Nat × Nat) (Nat × Nat × List Wd)

/-- The end of a line. -/
def finL (num p n : Nat) (ws : List Wd) : LR := if 300 < ws.length then .inl (15, num) else .inr (p, n, ws)

/-- A line from a place within it on. -/
def lnF (s : ByteArray) (num p n o : Nat) (ws : List Wd) : LR :=
  if h : p < s.size then
    if hn : s[p] = 10 then
      if o = 0 then finL num (p + 1) (n + 1) ws else lnF s num (p + 1) (n + 1) o ws
    else if isBl s[p] then lnF s num (p + 1) n o ws
    else if s[p] = 59 then
      have : s.size - comE s p < s.size - p := by have := comE_gt h hn; omega
      lnF s num (comE s p) n o ws
    else if s[p] = 40 then
      if o = 0 then lnF s num (p + 1) n n ws else .inl (14, n)
    else if s[p] = 41 then
      if o = 0 then .inl (14, n) else lnF s num (p + 1) n 0 ws
    else if s[p] = 34 then
      if (qutF s (p + 1)).1 = 0 then
        have : s.size - ((qutF s (p + 1)).2 + 1) < s.size - p := by have := qutF_ge s (p + 1); omega
        lnF s num ((qutF s (p + 1)).2 + 1) n o (ws ++ [(s.extract (p + 1) (qutF s (p + 1)).2, true)])
      else .inl ((qutF s (p + 1)).1, n)
    else
      if h0 : isSp s[p] = false ∧ (barF s p).1 = 0 then
        have : s.size - (barF s p).2 < s.size - p := by have := barF_gt h h0.1 h0.2; omega
        lnF s num (barF s p).2 n o (ws ++ [(s.extract p (barF s p).2, false)])
      else .inl ((barF s p).1, n)
  else if o = 0 then finL num p n ws else .inl (14, o)
end Go.Proofs.YtjbdfooppokonaaDoor
