/- Rows of lines of one's own, their words apart; the lines of a text. -/
import Derived.Test.YtjbdfooppokonaaDoorLxG
namespace Go.Proofs.YtjbdfooppokonaaDoor
open Go.RowKit
set_option linter.unusedVariables false

theorem lnF_ok (s : ByteArray) (num : Nat) : ∀ (k p n o : Nat) (ws : List Wd), s.size - p ≤ k → p ≤ s.size → ∀ p' n' ws', lnF s num p n o ws = .inr (p', n', ws') → p ≤ p' ∧ p' ≤ s.size ∧ (p < s.size → p < p') ∧ (n ≤ p + 1 → n' ≤ p' + 1) := by
  have fin : ∀ {p n : Nat} {ws : List Wd} {p' n' : Nat} {ws' : List Wd}, finL num p n ws = .inr (p', n', ws') → p = p' ∧ n = n' := by
    intro p n ws p' n' ws' h
    unfold finL at h
    split at h
    · cases h
    · cases h; exact ⟨rfl, rfl⟩
  intro k
  induction k with
  | zero =>
    intro p n o ws hk hp p' n' ws' h
    have : ¬ p < s.size := by omega
    rw [lnF, dif_neg this] at h
    split at h
    · obtain ⟨rfl, rfl⟩ := fin h
      exact ⟨Nat.le_refl _, hp, fun h => absurd h this, fun h => h⟩
    · cases h
  | succ k ih =>
    intro p n o ws hk hp p' n' ws' h
    by_cases hlt : p < s.size
    · have go : ∀ q m o' ws2, p < q → q ≤ s.size → (n ≤ p + 1 → m ≤ q + 1) → lnF s num q m o' ws2 = .inr (p', n', ws') → p ≤ p' ∧ p' ≤ s.size ∧ (p < s.size → p < p') ∧ (n ≤ p + 1 → n' ≤ p' + 1) := by
        intro q m o' ws2 h1 h2 h3 h4
        obtain ⟨a, b, c, d⟩ := ih q m o' ws2 (by omega) h2 p' n' ws' h4
        exact ⟨by omega, b, fun _ => by omega, fun h => d (h3 h)⟩
      rw [lnF, dif_pos hlt] at h
      by_cases h10 : s[p] = 10
      · rw [dif_pos h10] at h
        split at h
        · obtain ⟨rfl, rfl⟩ := fin h
          exact ⟨by omega, by omega, fun _ => by omega, fun _ => by omega⟩
        · exact go _ _ _ _ (by omega) (by omega) (by omega) h
      · rw [dif_neg h10] at h
        split at h
        · exact go _ _ _ _ (by omega) (by omega) (by omega) h
        · split at h
          · exact go _ _ _ _ (comE_gt hlt h10) (comE_le s p hp) (by have := comE_gt hlt h10; omega) h
          · split at h
            · split at h
              · exact go _ _ _ _ (by omega) (by omega) (by omega) h
              · cases h
            · split at h
              · split at h
                · cases h
                · exact go _ _ _ _ (by omega) (by omega) (by omega) h
              · split at h
                · split at h
                  · rename_i h0
                    have h1 := qutF_ge s (p + 1)
                    obtain ⟨h2, -⟩ := qutF_lt s (p + 1) h0
                    exact go _ _ _ _ (by omega) (by omega) (by omega) h
                  · cases h
                · split at h
                  · rename_i h0
                    have h1 := barF_gt hlt h0.1 h0.2
                    have h2 := barF_le s p hp
                    exact go _ _ _ _ (by omega) (by omega) (by omega) h
                  · cases h
    · rw [lnF, dif_neg hlt] at h
      split at h
      · obtain ⟨rfl, rfl⟩ := fin h
        exact ⟨Nat.le_refl _, hp, fun h => absurd h hlt, fun h => h⟩
      · cases h

/-- What becomes of the lines. -/
abbrev LsR := Sum (Nat × Nat) (List Ln)
/-- The lines from a place on at which one begins. -/
def lsF (s : ByteArray) (p n : Nat) (acc : List Ln) : LsR :=
  if h : p < s.size then
    match lnF s n p n 0 [] with
    | .inl (c, q) => .inl (c, q)
    | .inr (p', n', ws) => if h2 : p < p' then lsF s p' n' (if ws.length = 0 then acc else acc ++ [⟨n, isBl s[p], ws⟩]) else .inr []
  else .inr acc
theorem lsF_end {s : ByteArray} {p n : Nat} {acc : List Ln} (h : ¬ p < s.size) : lsF s p n acc = .inr acc := by rw [lsF, dif_neg h]
theorem lsF_err {s : ByteArray} {p n c q : Nat} {acc : List Ln} (h : p < s.size) (e : lnF s n p n 0 [] = .inl (c, q)) : lsF s p n acc = .inl (c, q) := by rw [lsF, dif_pos h, e]
theorem lsF_ok {s : ByteArray} {p n p' n' : Nat} {ws : List Wd} {acc : List Ln} (h : p < s.size) (e : lnF s n p n 0 [] = .inr (p', n', ws)) : lsF s p n acc = lsF s p' n' (if ws.length = 0 then acc else acc ++ [⟨n, isBl s[p], ws⟩]) := by
  rw [lsF, dif_pos h, e]
  exact dif_pos ((lnF_ok s n _ p n 0 [] (Nat.le_refl _) (by omega) _ _ _ e).2.2.1 h)
/-- What Lex answers: lines, code, place. -/
structure LX where
  ls : List Ln
  co : Nat
  at_ : Nat
def lexR (s : ByteArray) : LX := if 40000 < s.size then ⟨[], 11, 0⟩ else match lsF s 0 1 [] with
  | .inl (c, q) => ⟨[], c, q⟩
  | .inr ls => ⟨ls, 0, 0⟩

/-- A line as it lies, with the slice of its words. -/
abbrev Lp := Ln × Value
def lpV (p : Lp) : List Value := [.int .i64 p.1.num, .bool p.1.bl, p.2]
def lpVs (ps : List Lp) : List Value := ps.flatMap lpV
theorem lpVs_app (a b : List Lp) : lpVs (a ++ b) = lpVs a ++ lpVs b := by simp [lpVs]
theorem lpVs_len (ps : List Lp) : (lpVs ps).length = ps.length * 3 := by
  induction ps with
  | nil => rfl
  | cons x ps ih => simp only [lpVs, List.flatMap_cons, List.length_append, List.length_cons] at *; rw [ih]; simp [lpV]; omega

/-- Lines of one's own: the row, each line's words, no two in one block. -/
structure LOwn (w : World) (B : Nat) (v : Value) (ps : List Lp) : Prop where
  outer : w.ownsRow B 30 3 v ps.length (lpVs ps)
  inner : ∀ (i : Nat) (p : Lp), ps[i]? = some p → w.ownsRow B 62 2 p.2 p.1.ws.length (wdVs p.1.ws)
  apart : ∀ (i j : Nat) (p q : Lp), ps[i]? = some p → ps[j]? = some q → i ≠ j → ∀ g, p.2.ownBlock = some g → q.2.ownBlock ≠ some g

theorem own_besideL {W W1 : World} {B e s m : Nat} {v : Value} {b : Option Nat} {xs : List Value} (h : W.ownsRow B e s v m xs) (hg : W.grownBy W1 b) (ha : ∀ g, b = some g → v.ownBlock ≠ some g) : W1.ownsRow B e s v m xs := by
  refine h.kept hg ?_
  cases b with
  | none =>
    cases hv : v.ownBlock with
    | none => exact .inl rfl
    | some k => right; simp
  | some k => right; exact ha k rfl
theorem own_kindsL {W : World} {B e s m B' e' s' m' : Nat} {v u : Value} {xs ys : List Value} (h : W.ownsRow B e s v m xs) (h' : W.ownsRow B' e' s' u m' ys) (hne : e ≠ e') : ∀ g, u.ownBlock = some g → v.ownBlock ≠ some g := by
  intro g hu hv
  rcases h'.2 with ⟨rfl, _⟩ | ⟨g', cap', cur', rfl, _, hh', _⟩
  · cases hu
  · rcases h.2 with ⟨rfl, _⟩ | ⟨g2, cap2, cur2, rfl, _, hh, _⟩
    · cases hv
    · simp only [Value.ownBlock, Option.some.injEq] at hu hv
      subst hu
      subst hv
      rw [hh] at hh'
      simp only [Option.some.injEq, Obj.cells.injEq] at hh'
      exact hne hh'.2.1
theorem LOwn.nil (w : World) (B : Nat) : LOwn w B (.slice none 0 0) [] := ⟨World.ownsRow_nil _ _ _ _, by simp, by simp⟩
/-- What is written is none of its blocks. -/
theorem LOwn.beside {w w' : World} {B : Nat} {v : Value} {ps : List Lp} {b : Option Nat} (h : LOwn w B v ps) (hg : w.grownBy w' b) (hb : ∀ g, b = some g → g < B) : LOwn w' B v ps :=
  ⟨own_besideL h.outer hg (fun g e e2 => by have := (h.outer.lt g e2).1; have := hb g e; omega), fun i p hp => own_besideL (h.inner i p hp) hg (fun g e e2 => by have := ((h.inner i p hp).lt g e2).1; have := hb g e; omega), h.apart⟩
theorem LOwn.base {w : World} {B B' : Nat} {v : Value} {ps : List Lp} (h : LOwn w B v ps) (hb : B' ≤ B) : LOwn w B' v ps :=
  ⟨own_base h.outer hb, fun i p hp => own_base (h.inner i p hp) hb, h.apart⟩
theorem snoc_casesL {α : Type} {xs : List α} {y x : α} {i : Nat} (hx : (xs ++ [y])[i]? = some x) : (i < xs.length ∧ xs[i]? = some x) ∨ (i = xs.length ∧ x = y) := by
  by_cases hi : i < xs.length
  · rw [List.getElem?_append_left hi] at hx
    exact .inl ⟨hi, hx⟩
  · rw [List.getElem?_append_right (by omega)] at hx
    have h0 : i - xs.length = 0 := by
      rcases Nat.eq_zero_or_pos (i - xs.length) with h | h
      · exact h
      · rw [List.getElem?_eq_none (by simp; omega)] at hx
        cases hx
    rw [h0] at hx
    simp at hx
    exact .inr ⟨by omega, hx.symm⟩
/-- A line is put behind them; its words lie in a block that none of them has. -/
theorem LOwn.snoc {w w2 : World} {B : Nat} {v v' u : Value} {l : Ln} {ps : List Lp} (h : LOwn w B v ps)
    (hu : w.ownsRow B 62 2 u l.ws.length (wdVs l.ws)) (ha : ∀ p ∈ ps, ∀ g, p.2.ownBlock = some g → u.ownBlock ≠ some g)
    (ho : w2.ownsRow B 30 3 v' (ps.length + 1) (lpVs ps ++ lpV (l, u))) (hg : w.grownBy w2 v.ownBlock) : LOwn w2 B v' (ps ++ [(l, u)]) := by
  have e : lpVs (ps ++ [(l, u)]) = lpVs ps ++ lpV (l, u) := by simp [lpVs]
  refine ⟨by rw [e]; simpa using ho, fun i p hp => ?_, fun i j p q hp hq hne g hg1 => ?_⟩
  · rcases snoc_casesL hp with ⟨_, hp'⟩ | ⟨_, rfl⟩
    · have := h.inner i p hp'
      exact own_besideL this hg (own_kindsL this h.outer (by decide))
    · exact own_besideL hu hg (own_kindsL hu h.outer (by decide))
  · rcases snoc_casesL hp with ⟨hi, hp'⟩ | ⟨hi, rfl⟩ <;> rcases snoc_casesL hq with ⟨hj, hq'⟩ | ⟨hj, rfl⟩
    · exact h.apart i j p q hp' hq' hne g hg1
    · exact ha p (List.mem_of_getElem? hp') g hg1
    · intro e
      exact ha q (List.mem_of_getElem? hq') g e hg1
    · omega
theorem cellL3 (w : World) (x y z : Value) (e b : Nat) (hb : b = w.heap.size) : ∀ (j : Nat) (u : Value), [x, y, z][j]? = some u → (w.alloc (.cells #[x, y, z] e)).cell? ((⟨b, 0, none⟩ : Addr).add j) = some u := by
  subst hb
  intro j u hj
  match j, hj with
  | 0, hj => simp at hj; subst hj; simp [Addr.add]
  | 1, hj => simp at hj; subst hj; simp [Addr.add]
  | 2, hj => simp at hj; subst hj; simp [Addr.add]
theorem threeL (x y z : Value) (h : x.oneCell' = true) (h' : y.oneCell' = true) (h'' : z.oneCell' = true) : ∀ u : Value, u ∈ [x, y, z] → u.oneCell' = true := by
  intro u hu; simp at hu; rcases hu with rfl | rfl | rfl <;> assumption
theorem Tryd.infoLine : (Tryd.prog.info? 30).map (fun i => (i.zero, i.size, i.bytes)) = some (some (.agg #[.int .i64 0, .bool false, .slice none 0 0]), 3, 40) := by kernel_rfl
end Go.Proofs.YtjbdfooppokonaaDoor
