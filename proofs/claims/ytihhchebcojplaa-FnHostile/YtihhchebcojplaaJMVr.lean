import Derived.Test.YtihhchebcojplaaJDc2
import Derived.Test.YtihhchebcojplaaJDcM
/- A message in a variable, and its lists. -/
namespace Go.Proofs.Ytihhchebcojplaa
open Go.RowKit
set_option linter.unusedVariables false

/-- A message in a variable, and its lists. -/
structure MVar (W : World) (p B : Nat) (cs : Array Value) (m : Mm) (q a u x : Value) : Prop where
  b : Blk W p cs 29
  l : Lists W B m q a u x

theorem MVar.below {W W1 : World} {p B : Nat} {cs : Array Value} {m : Mm} {q a u x : Value} (h : MVar W p B cs m q a u x) (hb : Below W.heap.size W W1) : MVar W1 p B cs m q a u x := ⟨blk_below h.b hb, lists_below h.l hb⟩

theorem MVar.bytes {W W1 : World} {p B B' n : Nat} {cs : Array Value} {m : Mm} {q a u x v : Value} {xs : List Value} (h : MVar W p B cs m q a u x) (ho : W.ownsRow B' 5 1 v n xs) (hg : W.grownBy W1 v.ownBlock) : MVar W1 p B cs m q a u x :=
  ⟨blk_grown h.b hg (row_blk ho h.b (by decide)), own_apart h.l.rq ho (by decide) hg, own_apart h.l.ra ho (by decide) hg, own_apart h.l.ru ho (by decide) hg, own_apart h.l.rx ho (by decide) hg, h.l.au, h.l.ax, h.l.ux⟩

theorem mvar_new {W : World} {B : Nat} {cs : Array Value} {m : Mm} {q a u x : Value} (h : Lists W B m q a u x) : MVar (W.alloc (.cells cs 29)) W.heap.size B cs m q a u x :=
  ⟨blk_new W cs _, lists_below h ((Below.refl _ _).alloc (Nat.le_refl _) _)⟩

theorem Lists.base {W : World} {B B' : Nat} {m : Mm} {q a u x : Value} (h : Lists W B m q a u x) (hb : B' ≤ B) : Lists W B' m q a u x := ⟨own_base h.rq hb, own_base h.ra hb, own_base h.ru hb, own_base h.rx hb, h.au, h.ax, h.ux⟩

theorem below_more {B : Nat} {w W W1 : World} (h : Below B w W) (hb : Below W.heap.size W W1) (hB : B ≤ W.heap.size) : Below B w W1 := h.trans (hb.mono hB)
end Go.Proofs.Ytihhchebcojplaa
/- Where nothing is read there is a code: mathematics. -/
namespace Go.Proofs.Ytihhchebcojplaa
open Go.RowKit
set_option linter.unusedVariables false

theorem dnF_nz (l : List UInt8) : ∀ (st pos : Nat) (acc : List UInt8) (nx : Option Nat) (c : Int), dnF l st pos acc nx = .bad c → c ≠ 0 := by
  intro st pos acc nx
  induction st, pos, acc, nx using dnF.induct (l := l) with
  | case1 st pos acc nx h h0 =>
    intro c hd
    rw [dnF_root h h0] at hd
    cases hd
  | case2 st pos acc nx h h0 h1 h2 h3 ih =>
    intro c hd
    rw [dnF_ptr h1 h2 h3] at hd
    exact ih c hd
  | case3 st pos acc nx h h0 h1 h2 h3 =>
    intro c hd
    rw [dnF_ahead h1 h2 (by omega)] at hd
    cases hd
    decide
  | case4 st pos acc nx h h0 h1 h2 =>
    intro c hd
    rw [dnF_cut h h1 (by omega)] at hd
    cases hd
    decide
  | case5 st pos acc nx h h0 h1 h2 =>
    intro c hd
    rw [dnF_label h (by omega) (by omega)] at hd
    cases hd
    decide
  | case6 st pos acc nx h h0 h1 h2 h3 h4 ih =>
    intro c hd
    rw [dnF_more (by omega) (by omega) h3 h4] at hd
    exact ih c hd
  | case7 st pos acc nx h h0 h1 h2 h3 h4 =>
    intro c hd
    rw [dnF_long (by omega) (by omega) h3 (by omega)] at hd
    cases hd
    decide
  | case8 st pos acc nx h h0 h1 h2 h3 =>
    intro c hd
    rw [dnF_short h (by omega) (by omega) (by omega)] at hd
    cases hd
    decide
  | case9 st pos acc nx h =>
    intro c hd
    rw [dnF_end (by omega)] at hd
    cases hd
    decide

theorem dtP_nz (l : List UInt8) (fin : Nat) : ∀ (ps : List (Option Nat)) (p : Nat) (acc : List UInt8) (c : Int), dtP l fin ps p acc = .bad c → c ≠ 0 := by
  intro ps
  induction ps with
  | nil =>
    intro p acc c h
    rw [dtP] at h
    split at h
    · cases h
    · cases h; decide
  | cons q ps ih =>
    intro p acc c h
    cases q with
    | none =>
      rw [dtP] at h
      split at h
      · rename_i c' hd
        cases h
        exact dnF_nz l _ _ _ _ _ hd
      · split at h
        · exact ih _ _ _ h
        · cases h; decide
    | some n =>
      rw [dtP] at h
      split at h
      · exact ih _ _ _ h
      · cases h; decide

theorem dataS_nz {l : List UInt8} {t p fin : Nat} {c : Int} (h : dataS l t p fin = .bad c) : c ≠ 0 := by
  rw [dataS] at h
  split at h
  · cases h
  · split at h
    · exact dtP_nz _ _ _ _ _ _ h
    · split at h
      · cases h
      · cases h; decide

theorem quS_nz {l : List UInt8} {p : Nat} {c : Int} (h : quS l p = .bad c) : c ≠ 0 := by
  rw [quS] at h
  split at h
  · rename_i c' hd
    cases h
    exact dnF_nz l _ _ _ _ _ hd
  · split at h
    · cases h
    · cases h; decide

theorem rrS_nz {l : List UInt8} {p : Nat} {c : Int} (h : rrS l p = .bad c) : c ≠ 0 := by
  rw [rrS] at h
  split at h
  · rename_i c' hd
    cases h
    exact dnF_nz l _ _ _ _ _ hd
  · split at h
    · split at h
      · split at h
        · rename_i c' hd
          cases h
          exact dataS_nz hd
        · cases h
      · cases h; decide
    · cases h; decide

theorem manyS_nz {α : Type} {f : Nat → Rs α} (hf : ∀ p c, f p = .bad c → c ≠ 0) : ∀ (n p : Nat) (acc : List α) (c : Int), manyS f n p acc = .bad c → c ≠ 0 := by
  intro n
  induction n with
  | zero => intro p acc c h; rw [manyS] at h; cases h
  | succ n ih =>
    intro p acc c h
    rw [manyS] at h
    split at h
    · rename_i c' hd
      cases h
      exact hf _ _ hd
    · exact ih _ _ _ h

/-- A code that is not 0 where nothing was read. -/
theorem code_bad {l : List UInt8} {c : Int} (h : msgS l = .bad c) : c ≠ 0 := by
  rw [msgS] at h
  split at h
  · cases h; decide
  split at h
  · cases h; decide
  split at h
  · cases h; decide
  rw [listsS] at h
  split at h
  · rename_i c' hd
    cases h
    exact manyS_nz (fun p c h => quS_nz h) _ _ _ _ hd
  split at h
  · rename_i c' hd
    cases h
    exact manyS_nz (fun p c h => rrS_nz h) _ _ _ _ hd
  split at h
  · rename_i c' hd
    cases h
    exact manyS_nz (fun p c h => rrS_nz h) _ _ _ _ hd
  split at h
  · rename_i c' hd
    cases h
    exact manyS_nz (fun p c h => rrS_nz h) _ _ _ _ hd
  split at h
  · cases h; decide
  · cases h
end Go.Proofs.Ytihhchebcojplaa
