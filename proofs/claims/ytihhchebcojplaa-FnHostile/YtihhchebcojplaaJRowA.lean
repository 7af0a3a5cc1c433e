import Derived.Test.YtihhchebcojplaaJLst
import Derived.Test.YtihhchebcojplaaJRd11
import Derived.Maps.AppendAt
/- Rows that lie apart. -/
namespace Go.Proofs.Ytihhchebcojplaa
open Go.RowKit
set_option linter.unusedVariables false

theorem row_blk {W : World} {B e s m b : Nat} {v : Value} {xs : List Value} {cs : Array Value} {T : TypeId} (h : W.ownsRow B e s v m xs) (hb : Blk W b cs T) (hne : e ≠ T) : v.ownBlock ≠ some b := by
  rcases h.2 with ⟨rfl, _⟩ | ⟨g', cap', cur, rfl, _, hh, _⟩
  · simp [Value.ownBlock]
  · simp only [Value.ownBlock, ne_eq, Option.some.injEq]
    intro e2
    subst e2
    unfold Blk at hb
    rw [hh] at hb
    simp at hb
    exact hne hb.2

theorem row_apart {W W1 : World} {B e s m : Nat} {v u : Value} {xs : List Value} (h : W.ownsRow B e s v m xs) (hg : W.grownBy W1 u.ownBlock) (ha : Apart u v) : W1.ownsRow B e s v m xs := by
  refine h.kept hg ?_
  cases hu : u.ownBlock with
  | none =>
    cases hv : v.ownBlock with
    | none => exact .inl rfl
    | some k => right; simp
  | some k => right; exact ha k hu

end Go.Proofs.Ytihhchebcojplaa
/- A message's lists: one more entry. -/
namespace Go.Proofs.Ytihhchebcojplaa
open Go.RowKit
set_option linter.unusedVariables false

theorem row_other {W W1 : World} {B e s m e' s' m' B' : Nat} {v u : Value} {xs ys : List Value} (h : W.ownsRow B e s v m xs) (hu : W.ownsRow B' e' s' u m' ys) (hne : e ≠ e') (hg : W.grownBy W1 u.ownBlock) : W1.ownsRow B e s v m xs := own_apart h hu hne hg

theorem apart_after {W : World} {B e s m : Nat} {v v' u : Value} {ys : List Value} (hat : v'.ownBlock = v.ownBlock ∨ v'.ownBlock = some W.heap.size) (ha : Apart v u) (hu : W.ownsRow B e s u m ys) : Apart v' u := by
  intro k hk hk2
  rcases hat with h | h
  · exact ha k (by rw [← h]; exact hk) hk2
  · rw [h] at hk
    have := (hu.lt k hk2).2
    simp only [Option.some.injEq] at hk
    omega
theorem apart_symm {u v : Value} (h : Apart u v) : Apart v u := fun k h1 h2 => h k h2 h1

theorem Lists.app1 {W W1 : World} {B : Nat} {m : Mm} {q x y z x' : Value} {r : Rm} (h : Lists W B m q x y z) (ho : W1.ownsRow B 66 5 x' (m.an.length + 1) (rrCs (m.an ++ [r]))) (hg : W.grownBy W1 x.ownBlock) (hat : x'.ownBlock = x.ownBlock ∨ x'.ownBlock = some W.heap.size) : Lists W1 B ⟨m.qs, m.an ++ [r], m.au, m.ex⟩ q x' y z :=
  ⟨own_apart h.rq h.ra (by decide) hg, by simpa using ho, row_apart h.ru hg h.au, row_apart h.rx hg h.ax, apart_after hat h.au h.ru, apart_after hat h.ax h.rx, h.ux⟩
theorem Lists.app2 {W W1 : World} {B : Nat} {m : Mm} {q x y z y' : Value} {r : Rm} (h : Lists W B m q x y z) (ho : W1.ownsRow B 66 5 y' (m.au.length + 1) (rrCs (m.au ++ [r]))) (hg : W.grownBy W1 y.ownBlock) (hat : y'.ownBlock = y.ownBlock ∨ y'.ownBlock = some W.heap.size) : Lists W1 B ⟨m.qs, m.an, m.au ++ [r], m.ex⟩ q x y' z :=
  ⟨own_apart h.rq h.ru (by decide) hg, row_apart h.ra hg (apart_symm h.au), by simpa using ho, row_apart h.rx hg h.ux, apart_symm (apart_after hat (apart_symm h.au) h.ra), h.ax, apart_after hat h.ux h.rx⟩
theorem Lists.app3 {W W1 : World} {B : Nat} {m : Mm} {q x y z z' : Value} {r : Rm} (h : Lists W B m q x y z) (ho : W1.ownsRow B 66 5 z' (m.ex.length + 1) (rrCs (m.ex ++ [r]))) (hg : W.grownBy W1 z.ownBlock) (hat : z'.ownBlock = z.ownBlock ∨ z'.ownBlock = some W.heap.size) : Lists W1 B ⟨m.qs, m.an, m.au, m.ex ++ [r]⟩ q x y z' :=
  ⟨own_apart h.rq h.rx (by decide) hg, row_apart h.ra hg (apart_symm h.ax), row_apart h.ru hg (apart_symm h.ux), by simpa using ho, h.au, apart_symm (apart_after hat (apart_symm h.ax) h.ra), apart_symm (apart_after hat (apart_symm h.ux) h.ru)⟩

/-- A field of the message's variable is set: the lists stand. -/
theorem lists_field {b B i : Nat} {m : Mm} {q x y z v : Value} {W : World} {cs : Array Value} (h : Lists W B m q x y z) (hb : Blk W b cs 29) : Lists (W.setCell ⟨b, i, none⟩ v) B m q x y z := lists_setAll h hb [v] i

theorem cell_new5 (w : World) (vs : List Value) (e : Nat) : ∀ (j : Nat) (u : Value), vs[j]? = some u → (w.alloc (.cells vs.toArray e)).cell? ((⟨w.heap.size, 0, none⟩ : Addr).add j) = some u := cell_newL w vs e
end Go.Proofs.Ytihhchebcojplaa
