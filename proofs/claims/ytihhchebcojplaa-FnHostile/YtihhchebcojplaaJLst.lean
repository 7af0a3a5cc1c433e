import Derived.Test.YtihhchebcojplaaJRd8
import Derived.Test.YtihhchebcojplaaJSDt
import Derived.Test.YtihhchebcojplaaJDcM
/- A message's fields and lists. -/
namespace Go.Proofs.Ytihhchebcojplaa
open Go.RowKit
set_option linter.unusedVariables false

/-- A message of nothing; a message's fields. -/
def ms0 : Array Value := #[.int .i64 0, .bool false, .int .i64 0, .bool false, .bool false, .bool false, .bool false, .bool false, .bool false, .bool false, .int .i64 0, .slice none 0 0, .slice none 0 0, .slice none 0 0, .slice none 0 0]
def msA (d f : Nat) (q a u x : Value) : Array Value := #[.int .i64 d, .bool (f.testBit 15), .int .i64 ((f / 2048 % 16 : Nat) : Int), .bool (f.testBit 10), .bool (f.testBit 9), .bool (f.testBit 8), .bool (f.testBit 7), .bool (f.testBit 6), .bool (f.testBit 5), .bool (f.testBit 4), .int .i64 ((f % 16 : Nat) : Int), q, a, u, x]

/-- Two rows lie in blocks of their own. -/
def Apart (u v : Value) : Prop := ∀ k, u.ownBlock = some k → v.ownBlock ≠ some k

/-- A message's lists lie where its slices lead, in rows of the call's own. -/
structure Lists (w : World) (B : Nat) (m : Mm) (q a u x : Value) : Prop where
  rq : w.ownsRow B 53 3 q m.qs.length (quCs m.qs)
  ra : w.ownsRow B 66 5 a m.an.length (rrCs m.an)
  ru : w.ownsRow B 66 5 u m.au.length (rrCs m.au)
  rx : w.ownsRow B 66 5 x m.ex.length (rrCs m.ex)
  au : Apart a u
  ax : Apart a x
  ux : Apart u x

theorem apart_of {w : World} {B e s m : Nat} {v u : Value} {xs : List Value} (h : w.ownsRow B e s v m xs) (hu : ∀ k, u.ownBlock = some k → w.heap.size ≤ k) : Apart v u := by
  intro k hk hk2
  have h1 := (h.lt k hk).2
  have h2 := hu k hk2
  omega

theorem row_val {w : World} {B e s m : Nat} {v : Value} {xs : List Value} (h : w.ownsRow B e s v m xs) : ∃ a cap, v = .slice a m cap := by
  rcases h.2 with ⟨rfl, rfl⟩ | ⟨g', cap', cur, rfl, _⟩
  · exact ⟨_, _, rfl⟩
  · exact ⟨_, _, rfl⟩

theorem lists_below {B : Nat} {m : Mm} {q x y z : Value} {W W1 : World} (h : Lists W B m q x y z) (hb : Below W.heap.size W W1) : Lists W1 B m q x y z :=
  ⟨own_below h.rq hb, own_below h.ra hb, own_below h.ru hb, own_below h.rx hb, h.au, h.ax, h.ux⟩

end Go.Proofs.Ytihhchebcojplaa
/- The lists of a message, one entry behind the other: mathematics. -/
namespace Go.Proofs.Ytihhchebcojplaa

/-- How many entries list k has. -/
def cntK (l : List UInt8) (k : Nat) : Nat := if k = 1 then n16 l 6 else if k = 2 then n16 l 8 else if k = 3 then n16 l 10 else 0

def cont4 (l : List UInt8) (pos : Nat) (m : Mm) : Rs Mm := if pos < l.length then .bad 10 else .ok m pos
def cont3 (l : List UInt8) (c pos : Nat) (m : Mm) : Rs Mm :=
  match manyS (rrS l) c pos m.ex with
  | .inl c => .bad c
  | .inr (x, p) => cont4 l p ⟨m.qs, m.an, m.au, x⟩
def cont2 (l : List UInt8) (c pos : Nat) (m : Mm) : Rs Mm :=
  match manyS (rrS l) c pos m.au with
  | .inl c => .bad c
  | .inr (x, p) => cont3 l (n16 l 10) p ⟨m.qs, m.an, x, m.ex⟩
def cont1 (l : List UInt8) (c pos : Nat) (m : Mm) : Rs Mm :=
  match manyS (rrS l) c pos m.an with
  | .inl c => .bad c
  | .inr (x, p) => cont2 l (n16 l 8) p ⟨m.qs, x, m.au, m.ex⟩

/-- What is left to be read: c entries of list k from a place on, and the lists behind it. -/
def contK (l : List UInt8) (k c pos : Nat) (m : Mm) : Rs Mm := if k = 1 then cont1 l c pos m else if k = 2 then cont2 l c pos m else if k = 3 then cont3 l c pos m else cont4 l pos m

/-- An entry more in list k. -/
def addK (m : Mm) (k : Nat) (r : Rm) : Mm := if k = 1 then ⟨m.qs, m.an ++ [r], m.au, m.ex⟩ else if k = 2 then ⟨m.qs, m.an, m.au ++ [r], m.ex⟩ else ⟨m.qs, m.an, m.au, m.ex ++ [r]⟩

theorem listsS_cont {l : List UInt8} {qs : List Qm} {p : Nat} (h : manyS (quS l) (n16 l 4) 12 [] = .ok qs p) : listsS l = contK l 1 (cntK l 1) p ⟨qs, [], [], []⟩ := by
  rw [listsS, h, contK, if_pos rfl, cntK, if_pos rfl, cont1]
  simp only
  cases manyS (rrS l) (n16 l 6) p [] using Rs.elim with
  | bad c => rfl
  | ok an p2 =>
    simp only
    rw [cont2]
    simp only
    cases manyS (rrS l) (n16 l 8) p2 [] using Rs.elim with
    | bad c => rfl
    | ok au p3 =>
      simp only
      rw [cont3]
      simp only
      cases manyS (rrS l) (n16 l 10) p3 [] using Rs.elim with
      | bad c => rfl
      | ok ex p4 => rfl

theorem contK_zero {l : List UInt8} {k pos : Nat} {m : Mm} (h1 : 1 ≤ k) (h3 : k ≤ 3) : contK l k 0 pos m = contK l (k + 1) (cntK l (k + 1)) pos m := by
  have : k = 1 ∨ k = 2 ∨ k = 3 := by omega
  rcases this with rfl | rfl | rfl
  · simp [contK, cont1, manyS, cntK]
  · simp [contK, cont2, manyS, cntK]
  · simp [contK, cont3, manyS]

theorem contK_bad {l : List UInt8} {k c pos : Nat} {m : Mm} {code : Int} (h1 : 1 ≤ k) (h3 : k ≤ 3) (h : rrS l pos = .bad code) : contK l k (c + 1) pos m = .bad code := by
  have : k = 1 ∨ k = 2 ∨ k = 3 := by omega
  rcases this with rfl | rfl | rfl
  · simp [contK, cont1, manyS, h]
  · simp [contK, cont2, manyS, h]
  · simp [contK, cont3, manyS, h]

theorem contK_ok {l : List UInt8} {k c pos q : Nat} {m : Mm} {r : Rm} (h1 : 1 ≤ k) (h3 : k ≤ 3) (h : rrS l pos = .ok r q) : contK l k (c + 1) pos m = contK l k c q (addK m k r) := by
  have : k = 1 ∨ k = 2 ∨ k = 3 := by omega
  rcases this with rfl | rfl | rfl
  · simp [contK, cont1, manyS, h, addK]
  · simp [contK, cont2, manyS, h, addK]
  · simp [contK, cont3, manyS, h, addK]

theorem contK_end {l : List UInt8} {c pos : Nat} {m : Mm} : contK l 4 c pos m = if pos < l.length then .bad 10 else .ok m pos := rfl

theorem rrS_place {l : List UInt8} {p q : Nat} {r : Rm} (h : rrS l p = .ok r q) : q ≤ l.length := by
  rw [rrS] at h
  split at h
  · cases h
  · split at h
    · split at h
      · split at h
        · cases h
        · cases h; assumption
      · cases h
    · cases h
/-- All records of a message. -/
def allR (m : Mm) : List Rm := m.an ++ m.au ++ m.ex
theorem manyS_snoc {α : Type} (f : Nat → Rs α) : ∀ (n p : Nat) (acc : List α) {ys : List α} {q q2 : Nat} {x : α}, manyS f n p acc = .ok ys q → f q = .ok x q2 → manyS f (n + 1) p acc = .ok (ys ++ [x]) q2 := by
  intro n
  induction n with
  | zero =>
    intro p acc ys q q2 x h hx
    rw [manyS] at h
    cases h
    rw [manyS, hx]
    rfl
  | succ n ih =>
    intro p acc ys q q2 x h hx
    rw [manyS] at h ⊢
    cases hf : f p using Rs.elim with
    | bad c => rw [hf] at h; cases h
    | ok y r =>
      rw [hf] at h
      simp only at h ⊢
      exact ih r _ h hx
/-- The records so far have been read from a place on; the last of them began at another. -/
def LI (l : List UInt8) (P1 : Nat) (m : Mm) (pos : Nat) (nl : Int) : Prop :=
  manyS (rrS l) (allR m).length P1 [] = .ok (allR m) pos ∧ (0 < (allR m).length → ∃ (q : Nat) (xs : List Rm), nl = (q : Int) ∧ manyS (rrS l) ((allR m).length - 1) P1 [] = .ok xs q)
theorem LI_start (l : List UInt8) (p : Nat) (qs : List Qm) (n : Int) : LI l p ⟨qs, [], [], []⟩ p n := ⟨rfl, fun h => by simp [allR] at h⟩
theorem LI_add {l : List UInt8} {P1 pos q : Nat} {m m' : Mm} {nl : Int} {r : Rm} (h : LI l P1 m pos nl) (hr : rrS l pos = .ok r q) (he : allR m' = allR m ++ [r]) : LI l P1 m' q (pos : Int) := by
  have e : (allR m').length = (allR m).length + 1 := by rw [he]; simp
  refine ⟨?_, fun _ => ⟨pos, allR m, rfl, ?_⟩⟩
  · rw [e, he]; exact manyS_snoc _ _ _ _ h.1 hr
  · rw [e]; exact h.1
theorem LI_1 {l : List UInt8} {P1 pos q : Nat} {m : Mm} {nl : Int} {r : Rm} (h : LI l P1 m pos nl) (hr : rrS l pos = .ok r q) (h2 : m.au.length = 0) (h3 : m.ex.length = 0) : LI l P1 ⟨m.qs, m.an ++ [r], m.au, m.ex⟩ q (pos : Int) :=
  LI_add h hr (by simp [allR, List.length_eq_zero_iff.1 h2, List.length_eq_zero_iff.1 h3])
theorem LI_2 {l : List UInt8} {P1 pos q : Nat} {m : Mm} {nl : Int} {r : Rm} (h : LI l P1 m pos nl) (hr : rrS l pos = .ok r q) (h3 : m.ex.length = 0) : LI l P1 ⟨m.qs, m.an, m.au ++ [r], m.ex⟩ q (pos : Int) :=
  LI_add h hr (by simp [allR, List.length_eq_zero_iff.1 h3])
theorem LI_3 {l : List UInt8} {P1 pos q : Nat} {m : Mm} {nl : Int} {r : Rm} (h : LI l P1 m pos nl) (hr : rrS l pos = .ok r q) : LI l P1 ⟨m.qs, m.an, m.au, m.ex ++ [r]⟩ q (pos : Int) :=
  LI_add h hr (by simp [allR])
/-- Where the last record of a message that was read begins. -/
def LastOK (l : List UInt8) (m : Mm) (n : Int) : Prop := ∃ (qs : List Qm) (P1 pos : Nat), manyS (quS l) (n16 l 4) 12 [] = .ok qs P1 ∧ LI l P1 m pos n
end Go.Proofs.Ytihhchebcojplaa
