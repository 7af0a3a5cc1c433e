/- A zone's records: mathematics. -/
import Derived.Test.YtghapfpapjgbjaaZnM
import Derived.Test.YtghapfpapjgbjaaRrM
namespace Go.Proofs.Ytghapfpapjgbjaa
open Go.RowKit
set_option linter.unusedVariables false

def recsOf (s : Sz) : List Rr := s.da.map fun d => ⟨s.own, s.ty, 1, s.tt, d⟩
def recsAll (ps : List Zp) : List Rr := ps.flatMap fun p => recsOf p.1
def dsum : List Zp → Nat
  | [] => 0
  | x :: xs => x.1.da.length + dsum xs
def zoneRecs (ps : List Zp) : List Rr := if 500 < ps.length ∨ 500 < dsum ps then [] else recsAll ps
theorem recsOf_len (s : Sz) : (recsOf s).length = s.da.length := by simp [recsOf]
theorem recsOf_get {s : Sz} {k : Nat} {d : ByteArray} (h : s.da[k]? = some d) : (recsOf s).take (k + 1) = (recsOf s).take k ++ [⟨s.own, s.ty, 1, s.tt, d⟩] := by
  rw [List.take_add_one]
  congr 1
  simp [recsOf, h]
theorem dsum_step : ∀ (xs : List Zp) (k : Nat) (x : Zp), xs[k]? = some x → dsum (xs.take (k + 1)) = dsum (xs.take k) + x.1.da.length := by
  intro xs
  induction xs with
  | nil => intro k x h; simp at h
  | cons y xs ih =>
    intro k x h
    cases k with
    | zero => simp at h; subst h; simp [dsum]
    | succ k =>
      simp at h
      have := ih k x h
      simp only [List.take_succ_cons, dsum]; omega
theorem dsum_take_le : ∀ (xs : List Zp) (k : Nat), dsum (xs.take k) ≤ dsum xs := by
  intro xs
  induction xs with
  | nil => intro k; simp [dsum]
  | cons y xs ih =>
    intro k
    cases k with
    | zero => simp [dsum]
    | succ k => have := ih k; simp only [List.take_succ_cons, dsum]; omega
theorem dsum_le (ps : List Zp) : dsum ps ≤ zsum ps := by
  induction ps with
  | nil => simp [dsum, zsum]
  | cons y ps ih => simp only [dsum, zsum, zs1]; omega
theorem recsAll_step {ps : List Zp} {k : Nat} {x : Zp} (h : ps[k]? = some x) : recsAll (ps.take (k + 1)) = recsAll (ps.take k) ++ recsOf x.1 := by
  rw [List.take_add_one, h]
  simp [recsAll]
theorem recsAll_len (ps : List Zp) : (recsAll ps).length = dsum ps := by
  induction ps with
  | nil => rfl
  | cons y ps ih =>
    have : recsAll (y :: ps) = recsOf y.1 ++ recsAll ps := by simp [recsAll]
    rw [this, List.length_append, recsOf_len, ih, dsum]
theorem zoneRecs_same {ps qs : List Zp} (h : qs.map (·.1) = ps.map (·.1)) : zoneRecs qs = zoneRecs ps := by
  have hl : qs.length = ps.length := by have := congrArg List.length h; simpa using this
  have e1 : ∀ xs : List Zp, recsAll xs = (xs.map (·.1)).flatMap recsOf := by intro xs; simp [recsAll, List.flatMap_map]
  have e2 : ∀ xs : List Zp, dsum xs = ((xs.map (·.1)).map fun s => s.da.length).sum := by
    intro xs
    induction xs with
    | nil => rfl
    | cons y xs ih => simp only [dsum, List.map_cons, List.sum_cons, ih]
  unfold zoneRecs
  rw [hl, e2 qs, e2 ps, h, e1 qs, e1 ps, h]
theorem rv_one (r : Rr) : ∀ u ∈ rvV r, u.oneCell' = true := by
  intro u hu
  simp [rvV] at hu
  rcases hu with rfl | rfl | rfl | rfl | rfl <;> rfl
theorem rvs_one (xs : List Rr) : ∀ u ∈ rvVs xs, u.oneCell' = true := by
  intro u hu
  simp only [rvVs, List.mem_flatMap] at hu
  obtain ⟨r, _, h⟩ := hu
  exact rv_one r u h
theorem cell_newV (w : World) (cs : Array Value) (e : Nat) : ∀ (j : Nat) (u : Value), cs.toList[j]? = some u → (w.alloc (.cells cs e)).cell? ((⟨w.heap.size, 0, none⟩ : Addr).add j) = some u := by
  intro j u h
  rw [Nm.addr_add, Nat.zero_add]
  have : (w.alloc (.cells cs e)).heap[w.heap.size]? = some (.cells cs e (0, 0)) := by show (w.heap.push _)[w.heap.size]? = _; simp
  rw [cell_of_row _ _ _ _ _ _ this]
  simpa using h
end Go.Proofs.Ytghapfpapjgbjaa
