import Derived.Test.YtakonfkefoeenahRd9
import Derived.Test.YtakonfkefoeenahJHd1
/- A message's fields and lists. -/
namespace Go.Proofs.Ytakonfkefoeenah
open Go.RowKit
set_option linter.unusedVariables false

/-- A message of nothing; a message's fields. -/
def ms0 : Array Value := #[.int .i64 0, .bool false, .int .i64 0, .bool false, .bool false, .bool false, .bool false, .bool false, .bool false, .bool false, .int .i64 0, .slice none 0 0, .slice none 0 0, .slice none 0 0, .slice none 0 0]
def msA (d f : Nat) (q a u x : Value) : Array Value := #[.int .i64 d, .bool (f.testBit 15), .int .i64 ((f / 2048 % 16 : Nat) : Int), .bool (f.testBit 10), .bool (f.testBit 9), .bool (f.testBit 8), .bool (f.testBit 7), .bool (f.testBit 6), .bool (f.testBit 5), .bool (f.testBit 4), .int .i64 ((f % 16 : Nat) : Int), q, a, u, x]

/-- Two rows lie in blocks of their own. -/
def Apart (u v : Value) : Prop := ∀ k, u.ownBlock = some k → v.ownBlock ≠ some k

/-- A message's lists lie where its slices lead, in rows of the call's own. -/
structure Lists (w : World) (B : Nat) (m : Mm) (q a u x : Value) : Prop where
  rq : w.ownsRow B 56 3 q m.qs.length (quCs m.qs)
  ra : w.ownsRow B 58 5 a m.an.length (rrCs m.an)
  ru : w.ownsRow B 58 5 u m.au.length (rrCs m.au)
  rx : w.ownsRow B 58 5 x m.ex.length (rrCs m.ex)
  au : Apart a u
  ax : Apart a x
  ux : Apart u x

theorem apart_of {w : World} {B e s m : Nat} {v u : Value} {xs : List Value} (h : w.ownsRow B e s v m xs) (hu : ∀ k, u.ownBlock = some k → w.heap.size ≤ k) : Apart v u := by
  intro k hk hk2
  have h1 := (h.lt k hk).2
  have h2 := hu k hk2
  omega

theorem row_val {w : World} {B e s m : Nat} {v : Value} {xs : List Value} (h : w.ownsRow B e s v m xs) : ∃ a cap, v = .slice a m cap := by
  rcases h.2 with ⟨rfl, rfl⟩ | ⟨g', cap', cur, rfl, _⟩
  · exact ⟨_, _, rfl⟩
  · exact ⟨_, _, rfl⟩

theorem lists_below {B : Nat} {m : Mm} {q x y z : Value} {W W1 : World} (h : Lists W B m q x y z) (hb : Below W.heap.size W W1) : Lists W1 B m q x y z :=
  ⟨own_below h.rq hb, own_below h.ra hb, own_below h.ru hb, own_below h.rx hb, h.au, h.ax, h.ux⟩

end Go.Proofs.Ytakonfkefoeenah
