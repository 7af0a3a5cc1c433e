/- Rows of rows of bytes, each of one's own and apart from the others. -/
import Derived.Test.YtlgeeidbclnhbaaByS
import Derived.Test.YtlgeeidbclnhbaaOwnT
namespace Go.Proofs.Ytlgeeidbclnhbaa
open Go.RowKit
set_option linter.unusedVariables false

theorem own_besideC {W W1 : World} {B e s m : Nat} {v : Value} {b : Option Nat} {xs : List Value} (h : W.ownsRow B e s v m xs) (hg : W.grownBy W1 b) (ha : ∀ g, b = some g → v.ownBlock ≠ some g) : W1.ownsRow B e s v m xs := by
  refine h.kept hg ?_
  cases b with
  | none =>
    cases hv : v.ownBlock with
    | none => exact .inl rfl
    | some k => right; simp
  | some k => right; exact ha k rfl

theorem own_kindsC {W : World} {B e s m B' e' s' m' : Nat} {v u : Value} {xs ys : List Value} (h : W.ownsRow B e s v m xs) (h' : W.ownsRow B' e' s' u m' ys) (hne : e ≠ e') : ∀ g, u.ownBlock = some g → v.ownBlock ≠ some g := by
  intro g hu hv
  rcases h'.2 with ⟨rfl, _⟩ | ⟨g', cap', cur', rfl, _, hh', _⟩
  · cases hu
  · rcases h.2 with ⟨rfl, _⟩ | ⟨g2, cap2, cur2, rfl, _, hh, _⟩
    · cases hv
    · simp only [Value.ownBlock, Option.some.injEq] at hu hv
      subst hu
      subst hv
      rw [hh] at hh'
      simp only [Option.some.injEq, Obj.cells.injEq] at hh'
      exact hne hh'.2.1

structure BsOwn (w : World) (B N : Nat) (v : Value) (us : List Value) (ls : List (List Value)) : Prop where
  outer : w.ownsRow B 22 1 v us.length us
  otop : ∀ g, v.ownBlock = some g → g < N
  len : us.length = ls.length
  inner : ∀ (i : Nat) (u : Value) (l : List Value), us[i]? = some u → ls[i]? = some l → w.ownsRow B 5 1 u l.length l
  itop : ∀ (i : Nat) (u : Value), us[i]? = some u → ∀ g, u.ownBlock = some g → B ≤ g ∧ g < N
  apart : ∀ (i j : Nat) (u u' : Value), us[i]? = some u → us[j]? = some u' → i ≠ j → ∀ g, u.ownBlock = some g → u'.ownBlock ≠ some g

theorem BsOwn.nil (w : World) (B N : Nat) : BsOwn w B N (.slice none 0 0) [] [] :=
  ⟨World.ownsRow_nil _ _ _ _, by simp [Value.ownBlock], rfl, by simp, by simp, by simp⟩

theorem BsOwn.below {w w' : World} {B N : Nat} {v : Value} {us : List Value} {ls : List (List Value)} (h : BsOwn w B N v us ls) (hb : Below w.heap.size w w') : BsOwn w' B N v us ls :=
  ⟨own_below h.outer hb, h.otop, h.len, fun i u l h1 h2 => own_below (h.inner i u l h1 h2) hb, h.itop, h.apart⟩

theorem BsOwn.base {w : World} {B B' N : Nat} {v : Value} {us : List Value} {ls : List (List Value)} (h : BsOwn w B N v us ls) (hn : B' ≤ B) : BsOwn w B' N v us ls :=
  ⟨own_base h.outer hn, h.otop, h.len, fun i u l h1 h2 => own_base (h.inner i u l h1 h2) hn, fun i u hu g hg => ⟨Nat.le_trans hn (h.itop i u hu g hg).1, (h.itop i u hu g hg).2⟩, h.apart⟩

theorem BsOwn.wide {w : World} {B N N' : Nat} {v : Value} {us : List Value} {ls : List (List Value)} (h : BsOwn w B N v us ls) (hn : N ≤ N') : BsOwn w B N' v us ls :=
  ⟨h.outer, fun g hg => Nat.lt_of_lt_of_le (h.otop g hg) hn, h.len, h.inner, fun i u hu g hg => ⟨(h.itop i u hu g hg).1, Nat.lt_of_lt_of_le (h.itop i u hu g hg).2 hn⟩, h.apart⟩

theorem BsOwn.beside {w w' : World} {B N : Nat} {v : Value} {us : List Value} {ls : List (List Value)} {b : Option Nat} (h : BsOwn w B N v us ls) (hg : w.grownBy w' b) (hb : ∀ g, b = some g → g < B ∨ N ≤ g) : BsOwn w' B N v us ls := by
  refine ⟨own_besideC h.outer hg (fun g e e' => ?_), h.otop, h.len, fun i u l h1 h2 => own_besideC (h.inner i u l h1 h2) hg (fun g e e' => ?_), h.itop, h.apart⟩
  · have h1 := (h.outer.lt g e').1
    have h2 := h.otop g e'
    have := hb g e
    omega
  · have h3 := h.itop i u h1 g e'
    have := hb g e
    omega

theorem BsOwn.snoc {w w1 w2 : World} {B N : Nat} {v v' u : Value} {us l : List Value} {ls : List (List Value)} (h : BsOwn w B N v us ls) (hN : N ≤ w.heap.size) (hB : B ≤ w.heap.size) (hb : Below w.heap.size w w1)
    (hu : w1.ownsRow w.heap.size 5 1 u l.length l) (ho : w2.ownsRow B 22 1 v' (us.length + 1) (us ++ [u])) (hg : w1.grownBy w2 v.ownBlock) : BsOwn w2 B w2.heap.size v' (us ++ [u]) (ls ++ [l]) := by
  have h1 := h.below hb
  have hs := hb.size
  have hs2 := hg.size
  have k1 : ∀ (i : Nat) (x : Value), us[i]? = some x → ∀ g, x.ownBlock = some g → B ≤ g ∧ g < w.heap.size := fun i x hx g e => ⟨(h.itop i x hx g e).1, Nat.lt_of_lt_of_le (h.itop i x hx g e).2 hN⟩
  have k2 : ∀ g, u.ownBlock = some g → w.heap.size ≤ g ∧ g < w1.heap.size := fun g e => hu.lt g e
  have hc : ∀ (i : Nat) (x : Value), (us ++ [u])[i]? = some x → (i < us.length ∧ us[i]? = some x) ∨ (i = us.length ∧ x = u) := by
    intro i x hx
    by_cases hi : i < us.length
    · rw [List.getElem?_append_left hi] at hx
      exact .inl ⟨hi, hx⟩
    · rw [List.getElem?_append_right (by omega)] at hx
      have h0 : i - us.length = 0 := by
        rcases Nat.eq_zero_or_pos (i - us.length) with h | h
        · exact h
        · rw [List.getElem?_eq_none (by simp; omega)] at hx
          cases hx
      rw [h0] at hx
      simp at hx
      exact .inr ⟨by omega, hx.symm⟩
  refine ⟨by simpa using ho, fun g e => (ho.lt g e).2, by simp [h.len], ?_, ?_, ?_⟩
  · intro i x y hx hy
    rcases hc i x hx with ⟨hi, hx'⟩ | ⟨rfl, rfl⟩
    · rw [List.getElem?_append_left (by rw [← h.len]; exact hi)] at hy
      have := h1.inner i x y hx' hy
      exact own_besideC this hg (own_kindsC this h1.outer (by decide))
    · rw [h.len, List.getElem?_append_right (Nat.le_refl _), Nat.sub_self] at hy
      simp at hy
      subst hy
      exact own_base (own_besideC hu hg (own_kindsC hu h1.outer (by decide))) hB
  · intro i x hx g e
    rcases hc i x hx with ⟨hi, hx'⟩ | ⟨rfl, rfl⟩
    · have := k1 i x hx' g e; omega
    · have := k2 g e; omega
  · intro i j x y hx hy hne g e e'
    rcases hc i x hx with ⟨hi, hx'⟩ | ⟨rfl, rfl⟩ <;> rcases hc j y hy with ⟨hj, hy'⟩ | ⟨rfl, rfl⟩
    · exact h.apart i j x y hx' hy' hne g e e'
    · have a := k1 i x hx' g e
      have b := k2 g e'
      omega
    · have a := k1 j y hy' g e'
      have b := k2 g e
      omega
    · exact hne rfl

theorem Try.infoBs : (Try.prog.info? 22).map (fun i => (i.zero, i.size, i.bytes)) = some (some (.slice none 0 0), 1, 24) := by kernel_rfl
end Go.Proofs.Ytlgeeidbclnhbaa
