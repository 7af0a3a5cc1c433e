/- How many words and lines a text has at most. -/
import Derived.Test.YtjbdfooppokonaaDoorLkD
namespace Go.Proofs.YtjbdfooppokonaaDoor
open Go.RowKit
set_option linter.unusedVariables false

theorem lnF_ws (s : ByteArray) (num : Nat) : ∀ (k p n o : Nat) (ws : List Wd), s.size - p ≤ k → p ≤ s.size → ∀ p' n' ws', lnF s num p n o ws = .inr (p', n', ws') → ws'.length + p ≤ ws.length + p' := by
  have fin : ∀ {p n : Nat} {ws : List Wd} {p' n' : Nat} {ws' : List Wd}, finL num p n ws = .inr (p', n', ws') → p = p' ∧ ws = ws' := by
    intro p n ws p' n' ws' h
    unfold finL at h
    split at h
    · cases h
    · cases h; exact ⟨rfl, rfl⟩
  intro k
  induction k with
  | zero =>
    intro p n o ws hk hp p' n' ws' h
    have : ¬ p < s.size := by omega
    rw [lnF, dif_neg this] at h
    split at h
    · obtain ⟨rfl, rfl⟩ := fin h
      omega
    · cases h
  | succ k ih =>
    intro p n o ws hk hp p' n' ws' h
    by_cases hlt : p < s.size
    · have go : ∀ q m o' ws2, p < q → q ≤ s.size → ws2.length + p ≤ ws.length + q → lnF s num q m o' ws2 = .inr (p', n', ws') → ws'.length + p ≤ ws.length + p' := by
        intro q m o' ws2 h1 h2 h3 h4
        have := ih q m o' ws2 (by omega) h2 p' n' ws' h4
        omega
      rw [lnF, dif_pos hlt] at h
      by_cases h10 : s[p] = 10
      · rw [dif_pos h10] at h
        split at h
        · obtain ⟨rfl, rfl⟩ := fin h
          omega
        · exact go _ _ _ _ (by omega) (by omega) (by omega) h
      · rw [dif_neg h10] at h
        split at h
        · exact go _ _ _ _ (by omega) (by omega) (by omega) h
        · split at h
          · exact go _ _ _ _ (comE_gt hlt h10) (comE_le s p hp) (by have := comE_gt hlt h10; omega) h
          · split at h
            · split at h
              · exact go _ _ _ _ (by omega) (by omega) (by omega) h
              · cases h
            · split at h
              · split at h
                · cases h
                · exact go _ _ _ _ (by omega) (by omega) (by omega) h
              · split at h
                · split at h
                  · rename_i h0
                    have h1 := qutF_ge s (p + 1)
                    obtain ⟨h2, -⟩ := qutF_lt s (p + 1) h0
                    exact go _ _ _ _ (by omega) (by omega) (by simp; omega) h
                  · cases h
                · split at h
                  · rename_i h0
                    have h1 := barF_gt hlt h0.1 h0.2
                    have h2 := barF_le s p hp
                    exact go _ _ _ _ (by omega) (by omega) (by simp; omega) h
                  · cases h
    · rw [lnF, dif_neg hlt] at h
      split at h
      · obtain ⟨rfl, rfl⟩ := fin h
        omega
      · cases h
def lsum : List Ln → Nat
  | [] => 0
  | l :: ls => 2 * l.ws.length + 2 + lsum ls
theorem lsum_app : ∀ (a b : List Ln), lsum (a ++ b) = lsum a + lsum b := by
  intro a b
  induction a with
  | nil => simp [lsum]
  | cons l a ih => simp only [List.cons_append, lsum, ih]; omega
theorem ll_map : ∀ (ps : List Lp), ll ps = lsum (ps.map (·.1)) := by
  intro ps
  induction ps with
  | nil => rfl
  | cons p ps ih => simp [ll, lsum, ih]
theorem lsF_sum (s : ByteArray) : ∀ (k p n : Nat) (acc : List Ln), s.size - p ≤ k → p ≤ s.size → ∀ ls, lsF s p n acc = .inr ls → lsum ls + 4 * p ≤ lsum acc + 4 * s.size := by
  intro k
  induction k with
  | zero =>
    intro p n acc hk hp ls h
    rw [lsF_end (by omega)] at h
    cases h
    omega
  | succ k ih =>
    intro p n acc hk hp ls h
    by_cases hlt : p < s.size
    · cases e : lnF s n p n 0 [] with
      | inl cq =>
        obtain ⟨c, q⟩ := cq
        rw [lsF_err hlt e] at h
        cases h
      | inr r0 =>
        obtain ⟨p', n', ws⟩ := r0
        rw [lsF_ok hlt e] at h
        obtain ⟨h1, h2, h3, -⟩ := lnF_ok s n _ p n 0 [] (Nat.le_refl _) hp _ _ _ e
        have h4 := h3 hlt
        have h5 := lnF_ws s n _ p n 0 [] (Nat.le_refl _) hp _ _ _ e
        simp only [List.length_nil] at h5
        have h6 := ih p' n' _ (by omega) h2 ls h
        split at h6
        · omega
        · rw [lsum_app] at h6
          simp only [lsum] at h6
          omega
    · rw [lsF_end hlt] at h
      cases h
      omega
theorem lexR_sum (s : ByteArray) : lsum (lexR s).ls ≤ 160000 := by
  rw [lexR]
  split
  · simp [lsum]
  · rename_i hs
    cases e : lsF s 0 1 [] with
    | inl cq =>
      obtain ⟨c, q⟩ := cq
      simp [lsum]
    | inr ls =>
      have := lsF_sum s _ 0 1 [] (Nat.le_refl _) (by omega) ls e
      simp only [lsum] at this
      simp only
      omega
theorem lsum_mem : ∀ (ls : List Ln) (l : Ln), l ∈ ls → 2 * l.ws.length + 2 ≤ lsum ls := by
  intro ls
  induction ls with
  | nil => intro l h; cases h
  | cons x ls ih =>
    intro l h
    simp only [lsum]
    rcases List.mem_cons.1 h with rfl | h
    · omega
    · have := ih l h
      omega
end Go.Proofs.YtjbdfooppokonaaDoor
