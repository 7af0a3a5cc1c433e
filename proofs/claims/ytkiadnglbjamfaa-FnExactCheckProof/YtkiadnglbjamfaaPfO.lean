import Derived.Test.YtkiadnglbjamfaaJPfD
import Derived.Test.YtkiadnglbjamfaaPfX
/- impl.openProof by its contract. -/
namespace Go.Proofs.Ytkiadnglbjamfaa
open Go.RowKit
set_option linter.unusedVariables false

/-- A link's three rows, of one's own. -/
structure LkO (w : World) (B : Nat) (a b c : Value) (l : Lk) : Prop where
  ro : w.ownsRow B 9 1 a l.ow.length (l.ow.map Value.string)
  rn : w.ownsRow B 9 1 b l.nx.length (l.nx.map Value.string)
  rt : w.ownsRow B 2 1 c l.ty.length (intCells l.ty)
  so : Few l.ow
  sn : Few l.nx
theorem LkO.below {w W : World} {B : Nat} {a b c : Value} {l : Lk} (h : LkO w B a b c l) (hb : Below w.heap.size w W) : LkO W B a b c l := ⟨own_below h.ro hb, own_below h.rn hb, own_below h.rt hb, h.so, h.sn⟩
theorem LkO.base {w : World} {B B' : Nat} {a b c : Value} {l : Lk} (h : LkO w B a b c l) (hb : B' ≤ B) : LkO w B' a b c l := ⟨own_base h.ro hb, own_base h.rn hb, own_base h.rt hb, h.so, h.sn⟩
theorem LkO.v {w : World} {B : Nat} {a b c : Value} {l : Lk} (h : LkO w B a b c l) : LkV w a b c l := ⟨Nm.SRow.of_owns h.ro, Nm.SRow.of_owns h.rn, CRow.of_owns h.rt, h.so, h.sn⟩
theorem LkO.grown {w W : World} {B B' n : Nat} {a b c u : Value} {l : Lk} {ys : List Value} (h : LkO w B a b c l) (h' : w.ownsRow B' 68 3 u n ys) (hg : w.grownBy W u.ownBlock) : LkO W B a b c l :=
  ⟨own_apart h.ro h' (by decide) hg, own_apart h.rn h' (by decide) hg, own_apart h.rt h' (by decide) hg, h.so, h.sn⟩

def triC (vs : List (Value × Value × Value)) : List Value := vs.flatMap fun p => [p.1, p.2.1, p.2.2]
theorem triC_snoc (vs : List (Value × Value × Value)) (a b c : Value) : triC (vs ++ [(a, b, c)]) = triC vs ++ [a, b, c] := by simp [triC]

/-- The links read so far. -/
structure LkW (w : World) (B : Nat) (v : Value) (ls : List Lk) (vs : List (Value × Value × Value)) : Prop where
  len : vs.length = ls.length
  row : w.ownsRow B 68 3 v ls.length (triC vs)
  all : ∀ (i : Nat) (p : Value × Value × Value) (l : Lk), vs[i]? = some p → ls[i]? = some l → LkO w B p.1 p.2.1 p.2.2 l
theorem LkW.below {w W : World} {B : Nat} {v : Value} {ls : List Lk} {vs : List (Value × Value × Value)} (h : LkW w B v ls vs) (hb : Below w.heap.size w W) : LkW W B v ls vs := ⟨h.len, own_below h.row hb, fun i p l h1 h2 => (h.all i p l h1 h2).below hb⟩
theorem LkW.s {w : World} {B : Nat} {v : Value} {ls : List Lk} {vs : List (Value × Value × Value)} (h : LkW w B v ls vs) : LkS w v ls vs := ⟨h.len, CRow.of_owns h.row, fun i p l h1 h2 => (h.all i p l h1 h2).v⟩
theorem lkW_nil (w : World) (B : Nat) : LkW w B (.slice none 0 0) [] [] := ⟨rfl, World.ownsRow_nil _ _ _ _, fun i p l h => by simp at h⟩
theorem LkW.snoc {w W : World} {B : Nat} {v v' a b c : Value} {ls : List Lk} {vs : List (Value × Value × Value)} {l : Lk} (h : LkW w B v ls vs) (hl : LkO w B a b c l) (hg : w.grownBy W v.ownBlock) (hr : W.ownsRow B 68 3 v' (ls.length + 1) (triC vs ++ [a, b, c])) : LkW W B v' (ls ++ [l]) (vs ++ [(a, b, c)]) := by
  refine ⟨by simp [h.len], by rw [triC_snoc, List.length_append]; exact hr, fun i p m h1 h2 => ?_⟩
  have hlen := h.len
  rcases Nat.lt_or_ge i vs.length with hi | hi
  · rw [List.getElem?_append_left hi] at h1
    rw [List.getElem?_append_left (by omega)] at h2
    exact (h.all i p m h1 h2).grown h.row hg
  · rw [List.getElem?_append_right hi] at h1
    rw [List.getElem?_append_right (by omega)] at h2
    have hi0 : i - vs.length = 0 := by
      have := (List.getElem?_eq_some_iff.1 h1).1
      simp at this
      omega
    rw [hi0] at h1
    rw [← hlen, hi0] at h2
    simp at h1 h2
    subst h1 h2
    exact hl.grown h.row hg

theorem good_read (ax : List ByteArray) (r : Rr) : goodR ax r = match readR r with
    | some l => if r.ty = 47 ∧ r.cl = 1 ∧ underB l.ow ax = true ∧ underB l.nx ax = true then some l else none
    | none => none := by
  rw [goodR, readR]
  cases ho : Nm.split r.own with
  | none => simp
  | some ow =>
    simp only
    by_cases hc : cutCode 47 r.da = 0
    · obtain ⟨nx, hnx⟩ := Option.isSome_iff_exists.1 (Dt.nameAt_name (cut47 hc).1)
      simp only [hc, if_pos, and_true, hnx, Option.getD_some]
      by_cases h1 : r.ty = 47 <;> by_cases h2 : r.cl = 1 <;> simp [h1, h2]
    · simp [hc]

theorem cell_three (w : World) (a b c : Value) (T : TypeId) : ∀ (j : Nat) (u : Value), [a, b, c][j]? = some u → (w.alloc (.cells #[a, b, c] T)).cell? ((⟨w.heap.size, 0, none⟩ : Addr).add j) = some u := by
  intro j u h
  rw [Nm.addr_add, Nat.zero_add, World.cell?_alloc_new]
  simpa using h
theorem one_three (x1 x2 x3 : Option Addr) (n1 n2 n3 y1 y2 y3 : Nat) : ∀ u ∈ [Value.slice x1 n1 y1, Value.slice x2 n2 y2, Value.slice x3 n3 y3], u.oneCell' = true := by
  intro u hu
  simp at hu
  rcases hu with rfl | rfl | rfl <;> rfl
theorem Try.infoLk : (Try.prog.info? 68).map (fun i => (i.zero, i.size, i.bytes)) = some (some (.agg #[.slice none 0 0, .slice none 0 0, .slice none 0 0]), 3, 72) := by kernel_rfl

/-- What openProof answers. -/
def Opened (w w' : World) (o : Option (List Lk)) (e : Ending) : Prop := Below w.heap.size w w' ∧ match o with
  | none => e = .returned (.tuple #[.slice none 0 0, .bool false])
  | some ls => ∃ v vs, e = .returned (.tuple #[v, .bool true]) ∧ LkS w' v ls vs
end Go.Proofs.Ytkiadnglbjamfaa
