import Derived.Test.YtkiadnglbjamfaaJData2
import Derived.Test.YtkiadnglbjamfaaJCRow
/- A row of NSEC records read, as the model has it: mathematics and cells. -/
namespace Go.Proofs.Ytkiadnglbjamfaa
open Go.RowKit
set_option linter.unusedVariables false

/-- A record and its link. -/
structure LkR (r : Rr) (l : Lk) : Prop where
  so : Nm.split r.own = some l.ow
  sn : Nm.split (Dt.nameAtS r.da) = some l.nx
  st : l.ty = tysOf (bitsOf r.da)
  zo : r.own.size ≤ maxLen
  zn : (Dt.nameAtS r.da).size ≤ maxLen
  zb : (bitsOf r.da).size ≤ 2000000

def nsC (r : Rr) : List Value := [.string r.own, .int .i64 r.ty, .int .i64 r.cl, .int .i64 r.tt, .string r.da, .string (Dt.nameAtS r.da), .string (bitsOf r.da)]
def nsCs (rs : List Rr) : List Value := rs.flatMap nsC
theorem nsCs_snoc (rs : List Rr) (r : Rr) : nsCs (rs ++ [r]) = nsCs rs ++ nsC r := by simp [nsCs]
theorem nsCs_at : ∀ (xs : List Rr) (k j : Nat) (x : Rr), xs[k]? = some x → j < 7 → (nsCs xs)[k * 7 + j]? = (nsC x)[j]? := by
  intro xs
  induction xs with
  | nil => intro k j x h; simp at h
  | cons y xs ih =>
    intro k j x h hj
    have e : nsCs (y :: xs) = nsC y ++ nsCs xs := by simp [nsCs]
    have hl : (nsC y).length = 7 := rfl
    cases k with
    | zero =>
      simp at h; subst h
      rw [e, Nat.zero_mul, Nat.zero_add, List.getElem?_append_left (by omega)]
    | succ k =>
      simp at h
      rw [e, List.getElem?_append_right (by omega), hl, show (k + 1) * 7 + j - 7 = k * 7 + j by omega]
      exact ih k j x h hj

theorem find_at {α : Type} {p : α → Bool} : ∀ (ls : List α) (k : Nat) (l : α), (∀ i, i < k → ∀ y, ls[i]? = some y → p y = false) → ls[k]? = some l → p l = true → ls.find? p = some l := by
  intro ls
  induction ls with
  | nil => intro k l _ h; simp at h
  | cons y ls ih =>
    intro k l hno hk hp
    cases k with
    | zero =>
      simp at hk
      subst hk
      rw [List.find?_cons, hp]
    | succ k =>
      have := hno 0 (by omega) y (by simp)
      rw [List.find?_cons, this]
      exact ih k l (fun i hi z hz => hno (i + 1) (by omega) z (by simpa using hz)) (by simpa using hk) hp
theorem find_no {α : Type} {p : α → Bool} (ls : List α) (h : ∀ i, i < ls.length → ∀ y, ls[i]? = some y → p y = false) : ls.find? p = none := by
  rw [List.find?_eq_none]
  intro x hx
  obtain ⟨i, hi⟩ := List.getElem?_of_mem hx
  have hlt := (List.getElem?_eq_some_iff.1 hi).1
  rw [h i hlt x hi]
  decide
/-- Which links the records have, one by one. -/
def LkAll (rs : List Rr) (ls : List Lk) : Prop := rs.length = ls.length ∧ ∀ (i : Nat) (r : Rr) (l : Lk), rs[i]? = some r → ls[i]? = some l → LkR r l
theorem no_more {p : Lk → Bool} {ls : List Lk} {k : Nat} {l : Lk} (h : ∀ i, i < k → ∀ y, ls[i]? = some y → p y = false) (hk : ls[k]? = some l) (hp : p l = false) : ∀ i, i < k + 1 → ∀ y, ls[i]? = some y → p y = false := by
  intro i hi y hy
  rcases Nat.lt_or_ge i k with hlt | hge
  · exact h i hlt y hy
  · have : i = k := by omega
    subst this
    rw [hk] at hy
    simp at hy
    subst hy
    exact hp
def matchC (ls : List Lk) (x : List ByteArray) (q : Int) : Int := match pickB ls x atB with
  | some o => if hasB o.ty q || hasB o.ty 5 then 2 else 1
  | none => 0
end Go.Proofs.Ytkiadnglbjamfaa
