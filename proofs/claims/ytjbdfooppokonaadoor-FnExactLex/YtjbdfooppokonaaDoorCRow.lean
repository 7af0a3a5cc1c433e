/- Rows of cells that are read; marks. -/
import Derived.Test.YtjbdfooppokonaaDoorOwnS
import Derived.Test.YtjbdfooppokonaaDoorLab
import Derived.Laws.OwnMore
namespace Go.Proofs.YtjbdfooppokonaaDoor
open Go.RowKit

/-- The cells 'cs' (n elements of s cells) lie where the slice 'v' leads. -/
def CRow (w : World) (v : Value) (n s : Nat) (cs : List Value) : Prop :=
  cs.length = n * s ∧ ∃ a cap, v = .slice a n cap ∧ n ≤ cap ∧ cap ≤ maxLen ∧
    (0 < n → ∃ b off, a = some ⟨b, off, none⟩ ∧ ∀ (i : Nat) (x : Value), cs[i]? = some x → w.cell? ⟨b, off + i, none⟩ = some x)

theorem CRow.of_owns {w : World} {B e s n : Nat} {v : Value} {cs : List Value} (h : w.ownsRow B e s v n cs) : CRow w v n s cs := by
  refine ⟨h.1, ?_⟩
  rcases h.2 with ⟨rfl, h0⟩ | ⟨g, cap, cur, rfl, hb, hg, hn, hm, hs, ht⟩
  · subst h0
    exact ⟨none, 0, rfl, Nat.le_refl _, by decide, fun h => by omega⟩
  · refine ⟨_, cap, rfl, hn, hm, fun _ => ⟨g, 0, rfl, ?_⟩⟩
    intro i x hx
    have hi : i < n * s := by rw [← h.1]; exact (List.getElem?_eq_some_iff.1 hx).1
    rw [Nat.zero_add, h.cellAt i hi]
    exact hx

theorem CRow.below {w w' : World} {v : Value} {n s : Nat} {cs : List Value} (h : CRow w v n s cs) (hb : Below w.heap.size w w') : CRow w' v n s cs := by
  obtain ⟨h0, a, cap, rfl, h1, h2, h3⟩ := h
  refine ⟨h0, a, cap, rfl, h1, h2, fun hp => ?_⟩
  obtain ⟨b, off, rfl, hc⟩ := h3 hp
  refine ⟨b, off, rfl, fun i x hx => ?_⟩
  have := hc i x hx
  rw [hb.cell (World.block_lt_of_cell? w _ this)]
  exact this

theorem own_apart {w w1 : World} {B B' e e' s s' n n' : Nat} {v u : Value} {xs ys : List Value} (h : w.ownsRow B e s v n xs) (h' : w.ownsRow B' e' s' u n' ys) (hne : e ≠ e') (hg : w.grownBy w1 u.ownBlock) : w1.ownsRow B e s v n xs := by
  refine h.kept hg ?_
  rcases h.2 with ⟨rfl, _⟩ | ⟨g, cap, cur, rfl, _, hh, _⟩
  · exact .inl rfl
  · right
    rcases h'.2 with ⟨rfl, _⟩ | ⟨g', cap', cur', rfl, _, hh', _⟩
    · simp [Value.ownBlock]
    · simp only [Value.ownBlock, ne_eq, Option.some.injEq]
      intro e2
      subst e2
      rw [hh] at hh'
      simp at hh'
      exact hne hh'.2

/-- The marks: k, k + 1, .. -/
def ints (k m : Nat) : List Value := (List.range m).map fun i => .int .i64 ((k + i : Nat) : Int)
theorem ints_len (k m : Nat) : (ints k m).length = m := by simp [ints]
theorem ints_get {k m i : Nat} (h : i < m) : (ints k m)[i]? = some (.int .i64 ((k + i : Nat) : Int)) := by simp [ints, h]
theorem ints_set {k m i : Nat} {xs : List Value} (hl : xs.length = m) (h : i < m) :
    ((ints k m).take i ++ xs.drop i).set i (.int .i64 ((k + i : Nat) : Int)) = (ints k m).take (i + 1) ++ xs.drop (i + 1) := by
  have h1 : ((ints k m).take i).length = i := by simp [ints_len]; omega
  have h2 : (ints k m).take (i + 1) = (ints k m).take i ++ [.int .i64 ((k + i : Nat) : Int)] := by
    obtain ⟨hi, e⟩ := List.getElem?_eq_some_iff.1 (ints_get (k := k) h)
    rw [List.take_succ_eq_append_getElem hi, e]
  rw [h2, List.set_append_right _ _ (by omega), h1, List.drop_eq_getElem_cons (by omega : i < xs.length), Nat.sub_self, List.set_cons_zero, List.append_assoc]
  rfl
theorem ints_cell {k m i j : Nat} {xs : List Value} (hl : xs.length = m) (h : j < m) : ∃ y, ((ints k m).take i ++ xs.drop i)[j]? = some y :=
  ⟨_, List.getElem?_eq_getElem (by simp [ints_len]; omega)⟩
theorem ints_done {k m : Nat} {xs : List Value} (hl : xs.length = m) : (ints k m).take m ++ xs.drop m = ints k m := by
  rw [List.take_of_length_le (by rw [ints_len]; omega), List.drop_of_length_le (by omega), List.append_nil]
end Go.Proofs.YtjbdfooppokonaaDoor
