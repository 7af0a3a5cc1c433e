/- Rows of one's own beside what is written. -/
import Derived.Test.YtjbdfooppokonaaDoorBlkT
namespace Go.Proofs.YtjbdfooppokonaaDoor
open Go.RowKit
set_option linter.unusedVariables false

theorem own_sl {w : World} {B e s n : Nat} {v : Value} {xs : List Value} (h : w.ownsRow B e s v n xs) : ∃ a cap, v = .slice a n cap := by
  rcases h.2 with ⟨rfl, rfl⟩ | ⟨g, cap, cur, rfl, _⟩
  · exact ⟨_, _, rfl⟩
  · exact ⟨_, _, rfl⟩

theorem own_far {W : World} {B e s n g i : Nat} {v y : Value} {xs : List Value} (h : W.ownsRow B e s v n xs) (hg : v.ownBlock ≠ some g) : (W.setCell ⟨g, i, none⟩ y).ownsRow B e s v n xs := by
  refine ⟨h.1, ?_⟩
  rcases h.2 with h0 | ⟨g', cap, cur, rfl, hb, hh, r⟩
  · exact .inl h0
  · refine .inr ⟨g', cap, cur, rfl, hb, ?_, r⟩
    rw [heap_setCell_other W ⟨g, i, none⟩ g' _ (fun e => hg (by simp [Value.ownBlock, e]))]
    exact hh

theorem own_far_lt {W : World} {B e s n g i : Nat} {v y : Value} {xs : List Value} (h : W.ownsRow B e s v n xs) (hg : g < B) : (W.setCell ⟨g, i, none⟩ y).ownsRow B e s v n xs := by
  refine own_far h (fun e => ?_)
  have := (h.lt g e).1
  omega

theorem own_ne {W : World} {B e s n B' e' s' m g cap : Nat} {v : Value} {xs ys : List Value} (h : W.ownsRow B e s v n xs) (h' : W.ownsRow B' e' s' (.slice (some ⟨g, 0, none⟩) m cap) m ys) (hne : e ≠ e') : v.ownBlock ≠ some g := by
  intro he
  rcases h'.2 with ⟨h0, _⟩ | ⟨g', cap', cur', e1, _, hh', _⟩
  · cases h0
  · cases e1
    rcases h.2 with ⟨rfl, _⟩ | ⟨g2, cap2, cur2, rfl, _, hh, _⟩
    · cases he
    · simp only [Value.ownBlock, Option.some.injEq] at he
      subst he
      rw [hh] at hh'
      simp only [Option.some.injEq, Obj.cells.injEq] at hh'
      exact hne hh'.2.1
end Go.Proofs.YtjbdfooppokonaaDoor
