import Derived.Test.YtinbaopcapnbgaaCRow
/- Questions as they come in: mathematics. -/
namespace Go.Proofs.Ytinbaopcapnbgaa
open Go.RowKit
set_option linter.unusedVariables false

/-- A question: its name, type and class. -/
structure Qr where
  nm : ByteArray
  ty : Int
  cl : Int

def qvV (r : Qr) : List Value := [.string r.nm, .int .i64 r.ty, .int .i64 r.cl]
def qvVs (xs : List Qr) : List Value := xs.flatMap qvV
theorem qvVs_cons (x : Qr) (xs : List Qr) : qvVs (x :: xs) = qvV x ++ qvVs xs := by simp [qvVs]
theorem qvVs_app (a b : List Qr) : qvVs (a ++ b) = qvVs a ++ qvVs b := by simp [qvVs]
theorem qvVs_len (xs : List Qr) : (qvVs xs).length = xs.length * 3 := by
  induction xs with
  | nil => rfl
  | cons x xs ih =>
    have : (qvV x).length = 3 := rfl
    rw [qvVs_cons, List.length_append, ih, List.length_cons, this]; omega

theorem qvVs_at : ∀ (xs : List Qr) (k j : Nat) (x : Qr), xs[k]? = some x → j < 3 → (qvVs xs)[k * 3 + j]? = (qvV x)[j]? := by
  intro xs
  induction xs with
  | nil => intro k j x h; simp at h
  | cons y xs ih =>
    intro k j x h hj
    have hl : (qvV y).length = 3 := rfl
    cases k with
    | zero =>
      simp at h; subst h
      rw [qvVs_cons, Nat.zero_mul, Nat.zero_add, List.getElem?_append_left (by omega)]
    | succ k =>
      simp at h
      rw [qvVs_cons, List.getElem?_append_right (by omega), hl, show (k + 1) * 3 + j - 3 = k * 3 + j by omega]
      exact ih k j x h hj

theorem qv_cells {w : World} {xs : List Qr} {b off k : Nat} {x : Qr} (hc : ∀ (i : Nat) (y : Value), (qvVs xs)[i]? = some y → w.cell? ⟨b, off + i, none⟩ = some y) (h : xs[k]? = some x) :
    w.cell? ⟨b, off + k * 3, none⟩ = some (.string x.nm) ∧ w.cell? ⟨b, off + k * 3 + 1, none⟩ = some (.int .i64 x.ty) ∧ w.cell? ⟨b, off + k * 3 + 2, none⟩ = some (.int .i64 x.cl) :=
  ⟨hc (k * 3) _ ((qvVs_at xs k 0 x h (by decide)).trans rfl), hc (k * 3 + 1) _ ((qvVs_at xs k 1 x h (by decide)).trans rfl), hc (k * 3 + 2) _ ((qvVs_at xs k 2 x h (by decide)).trans rfl)⟩

def qsum : List Qr → Nat
  | [] => 0
  | x :: xs => x.nm.size + qsum xs
theorem qsum_step : ∀ (xs : List Qr) (k : Nat) (x : Qr), xs[k]? = some x → qsum (xs.take (k + 1)) = qsum (xs.take k) + x.nm.size := by
  intro xs
  induction xs with
  | nil => intro k x h; simp at h
  | cons y xs ih =>
    intro k x h
    cases k with
    | zero => simp at h; subst h; simp [qsum]
    | succ k =>
      simp at h
      have := ih k x h
      simp only [List.take_succ_cons, qsum]; omega
theorem qsum_take_le : ∀ (xs : List Qr) (k : Nat), qsum (xs.take k) ≤ qsum xs := by
  intro xs
  induction xs with
  | nil => intro k; simp [qsum]
  | cons y xs ih =>
    intro k
    cases k with
    | zero => simp [qsum]
    | succ k => have := ih k; simp only [List.take_succ_cons, qsum]; omega
theorem qsum_mem : ∀ (xs : List Qr) (x : Qr), x ∈ xs → x.nm.size ≤ qsum xs := by
  intro xs
  induction xs with
  | nil => intro x h; simp at h
  | cons y xs ih =>
    intro x h
    rcases List.mem_cons.1 h with rfl | h
    · simp only [qsum]; omega
    · have := ih x h; simp only [qsum]; omega
def szQS (xs : List Qr) (L : Int) : Int := if (xs.length : Int) + (qsum xs : Int) ≤ L then L - xs.length - qsum xs else -1
end Go.Proofs.Ytinbaopcapnbgaa
