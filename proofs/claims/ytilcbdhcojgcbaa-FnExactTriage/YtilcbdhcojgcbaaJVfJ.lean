import Derived.Test.YtilcbdhcojgcbaaJISu
import Derived.Deep.MidRow
import Derived.Test.YtilcbdhcojgcbaaJCutM
import Derived.Test.YtilcbdhcojgcbaaJRd8
import Derived.Test.YtilcbdhcojgcbaaJHd1
import Derived.Test.YtilcbdhcojgcbaaJVfE
import Derived.Test.YtilcbdhcojgcbaaJICp
import Derived.Test.YtilcbdhcojgcbaaJOrdL
/- (impl.signature).check by its contract: the walk. -/
namespace Go.Proofs.Ytilcbdhcojgcbaa
open Go.RowKit
set_option linter.unusedVariables false

theorem exec_loadM {P : Program} {a : Act} {o : Oper} {X : World} (t : TypeId) (p : Operand) (ho : o.op = .load t p) (b off : Nat) (cs : List Value) (d : TypeDesc) (hp : a.eval p = .pointer (some ⟨b, off, none⟩)) (hk : X.rangeAt b off cs) (hu : P.underlying t = some d)
    (hd : d.isRow = true) (hi : (P.info? t).map (·.size) = some cs.length) : (execOp a.eval o).run P X = .ok (.value (.agg cs.toArray)) X := by
  unfold execOp
  simp only [ho, hp, Instr.loadAt, Instr.sureAddr, Sem.run_bind, Sem.run_pure, Result.andThen_ok, run_loadVar_mid X b off t cs d hk hu hd hi]

end Go.Proofs.Ytilcbdhcojgcbaa
/- impl.lastRecord by its contract. -/
namespace Go.Proofs.Ytilcbdhcojgcbaa
open Go.RowKit
set_option linter.unusedVariables false

theorem vf_below {w w1 w2 : World} {g : Nat} (h : w.grownBy w1 (some g)) (h2 : Below w1.heap.size w1 w2) : w.grownBy w2 (some g) :=
  ⟨h2.os.trans h.os, h2.tape.trans h.tape, h2.output.trans h.output, Nat.le_trans h.size h2.size, fun k hk hne => (h2.block k (Nat.lt_of_lt_of_le hk h.size)).trans (h.block k hk hne)⟩
theorem vf_step {w w1 w2 : World} {g : Nat} (h : w.grownBy w1 (some g)) (h2 : w1.grownBy w2 (some g)) : w.grownBy w2 (some g) :=
  ⟨h2.os.trans h.os, h2.tape.trans h.tape, h2.output.trans h.output, Nat.le_trans h.size h2.size, fun k hk hne => (h2.block k (Nat.lt_of_lt_of_le hk h.size) hne).trans (h.block k hk hne)⟩

end Go.Proofs.Ytilcbdhcojgcbaa
/- slices.Clone of bytes by its contract; places rise: mathematics. -/
namespace Go.Proofs.Ytilcbdhcojgcbaa
open Go.RowKit
set_option linter.unusedVariables false

theorem dnF_ge (l : List UInt8) (start pos : Nat) (acc : List UInt8) (nx : Option Nat) : ∀ P, (nx = none → P ≤ pos) → (∀ x, nx = some x → P ≤ x) → ∀ s q, dnF l start pos acc nx = .ok s q → P ≤ q := by
  fun_induction dnF l start pos acc nx with
  | case1 start pos acc nx h h0 =>
    intro P h1 h2 s q e
    simp at e
    obtain ⟨_, rfl⟩ := e
    cases nx with
    | none => have := h1 rfl; simp; omega
    | some x => simpa using h2 x rfl
  | case2 start pos acc nx h h0 h1 h2 h3 ih =>
    intro P g1 g2 s q e
    refine ih P (fun h => by cases h) ?_ s q e
    intro x hxe
    simp only [Option.some.injEq] at hxe
    cases nx with
    | none => have := g1 rfl; simp at hxe; omega
    | some y => simp at hxe; have := g2 y rfl; omega
  | case6 start pos acc nx h h0 h1 h2 h3 h4 ih =>
    intro P g1 g2 s q e
    exact ih P (fun h => by have := g1 h; omega) g2 s q e
  | _ => intro P g1 g2 s q e; cases e
theorem quS_ge {l : List UInt8} {p q : Nat} {x : Qm} (h : quS l p = .ok x q) : p ≤ q := by
  rw [quS] at h
  cases hd : dnF l p p [] none using Rs.elim with
  | bad c => rw [hd] at h; cases h
  | ok s nx =>
    rw [hd] at h
    simp only at h
    have := dnF_ge l p p [] none p (fun _ => Nat.le_refl _) (fun x h => by cases h) s nx hd
    split at h
    · cases h; omega
    · cases h
theorem rrS_ge {l : List UInt8} {p q : Nat} {x : Rm} (h : rrS l p = .ok x q) : p ≤ q := by
  rw [rrS] at h
  cases hd : dnF l p p [] none using Rs.elim with
  | bad c => rw [hd] at h; cases h
  | ok s nx =>
    rw [hd] at h
    simp only at h
    have := dnF_ge l p p [] none p (fun _ => Nat.le_refl _) (fun x h => by cases h) s nx hd
    split at h
    · split at h
      · split at h
        · cases h
        · cases h; omega
      · cases h
    · cases h
theorem manyS_ge {α : Type} {f : Nat → Rs α} (hf : ∀ p x q, f p = .ok x q → p ≤ q) : ∀ (n p : Nat) (acc : List α) {ys : List α} {q : Nat}, manyS f n p acc = .ok ys q → p ≤ q := by
  intro n
  induction n with
  | zero => intro p acc ys q h; rw [manyS] at h; cases h; exact Nat.le_refl _
  | succ n ih =>
    intro p acc ys q h
    rw [manyS] at h
    cases hp : f p using Rs.elim with
    | bad c => rw [hp] at h; cases h
    | ok y r =>
      rw [hp] at h
      exact Nat.le_trans (hf p y r hp) (ih r _ h)
theorem last_ge {l : List UInt8} {qs : List Qm} {P1 q n : Nat} {xs : List Rm} (hq : manyS (quS l) (n16 l 4) 12 [] = .ok qs P1) (hr : manyS (rrS l) n P1 [] = .ok xs q) : 12 ≤ q :=
  Nat.le_trans (manyS_ge (fun _ _ _ h => quS_ge h) _ _ _ hq) (manyS_ge (fun _ _ _ h => rrS_ge h) _ _ _ hr)

end Go.Proofs.Ytilcbdhcojgcbaa
/- (impl.signature).unsigned by its contract. -/
namespace Go.Proofs.Ytilcbdhcojgcbaa
open Go.RowKit
set_option linter.unusedVariables false

theorem wpList_copy_str {P : Program} {ops : Array Oper} {rest : List Oper} {o : Oper} {a : Act} {w : World} {Q : Exit → Act → World → Prop} (hgd : o.guard = none) (d s : Operand) (dT sT : TypeId)
    (ho : o.op = .call { callee := .builtin .copy, args := #[d, s], argTypes := #[dT, sT] }) (elem : TypeId) (hu : P.underlying dT = some (.slice elem)) (hsz : (P.info? elem).map (·.size) = some 1)
    (b off dLen dCap : Nat) (hd : a.eval d = .slice (some ⟨b, off, none⟩) dLen dCap) (S : ByteArray) (hs : a.eval s = .string S) (cs : Array Value) (T : TypeId) (hk : Blk w b cs T) (h2 : S.size ≤ dLen) (hfit : off + S.size ≤ cs.size)
    (h : ∀ w', Blk w' b (spl cs off (bytesV S)) T → Only b w w' → wpList P ops Q rest (a.put o.dst (goInt S.size)) w') : wpList P ops Q (o :: rest) a w :=
  wpList_plain hgd fun _ hK => by
    have hrun := run_copy_str (P := P) w dT sT o.type elem T b off dLen dCap S cs hk hu hsz h2 hfit
    unfold Oper.wp
    simp [execOp, ho, resolve, invoke, builtin, hd, hs, hrun, Result.andThen]
    exact hK _ _ (h _ (blk_setCells _ _ _ _ hk) (only_setCells _ _ _ (Only.refl _ _)))

/-- The bytes ahead of a signature. -/
def unsL (l : List UInt8) (id q : Nat) : List UInt8 := bigL id 2 ++ (l.drop 2).take 8 ++ bigL (n16 l 10 - 1) 2 ++ (l.take q).drop 12
theorem unsL_len {l : List UInt8} {id q : Nat} (h12 : 12 ≤ q) (hq : q ≤ l.length) : (unsL l id q).length = q := by
  simp [unsL, big_len]
  omega
theorem unsL_body {l : List UInt8} {r : Rm} {q n : Nat} (hd : r.dat.length = 61) (hn : n = n16 l 10) : unsL l (sI r.dat) q = bodyL l r n q := by
  rw [unsL, bodyL, sI, big_numN (by simp; omega), hn]
theorem bytesV_mk (l : List UInt8) : bytesV ⟨l.toArray⟩ = Nm.bys l := by simp [bytesV, Nm.bys]

end Go.Proofs.Ytilcbdhcojgcbaa
/- Where nothing is read there is a code: mathematics. -/
namespace Go.Proofs.Ytilcbdhcojgcbaa
open Go.RowKit
set_option linter.unusedVariables false

theorem dnF_nz (l : List UInt8) : ∀ (st pos : Nat) (acc : List UInt8) (nx : Option Nat) (c : Int), dnF l st pos acc nx = .bad c → c ≠ 0 := by
  intro st pos acc nx
  induction st, pos, acc, nx using dnF.induct (l := l) with
  | case1 st pos acc nx h h0 =>
    intro c hd
    rw [dnF_root h h0] at hd
    cases hd
  | case2 st pos acc nx h h0 h1 h2 h3 ih =>
    intro c hd
    rw [dnF_ptr h1 h2 h3] at hd
    exact ih c hd
  | case3 st pos acc nx h h0 h1 h2 h3 =>
    intro c hd
    rw [dnF_ahead h1 h2 (by omega)] at hd
    cases hd
    decide
  | case4 st pos acc nx h h0 h1 h2 =>
    intro c hd
    rw [dnF_cut h h1 (by omega)] at hd
    cases hd
    decide
  | case5 st pos acc nx h h0 h1 h2 =>
    intro c hd
    rw [dnF_label h (by omega) (by omega)] at hd
    cases hd
    decide
  | case6 st pos acc nx h h0 h1 h2 h3 h4 ih =>
    intro c hd
    rw [dnF_more (by omega) (by omega) h3 h4] at hd
    exact ih c hd
  | case7 st pos acc nx h h0 h1 h2 h3 h4 =>
    intro c hd
    rw [dnF_long (by omega) (by omega) h3 (by omega)] at hd
    cases hd
    decide
  | case8 st pos acc nx h h0 h1 h2 h3 =>
    intro c hd
    rw [dnF_short h (by omega) (by omega) (by omega)] at hd
    cases hd
    decide
  | case9 st pos acc nx h =>
    intro c hd
    rw [dnF_end (by omega)] at hd
    cases hd
    decide

theorem dtP_nz (l : List UInt8) (fin : Nat) : ∀ (ps : List (Option Nat)) (p : Nat) (acc : List UInt8) (c : Int), dtP l fin ps p acc = .bad c → c ≠ 0 := by
  intro ps
  induction ps with
  | nil =>
    intro p acc c h
    rw [dtP] at h
    split at h
    · cases h
    · cases h; decide
  | cons q ps ih =>
    intro p acc c h
    cases q with
    | none =>
      rw [dtP] at h
      split at h
      · rename_i c' hd
        cases h
        exact dnF_nz l _ _ _ _ _ hd
      · split at h
        · exact ih _ _ _ h
        · cases h; decide
    | some n =>
      rw [dtP] at h
      split at h
      · exact ih _ _ _ h
      · cases h; decide

theorem dataS_nz {l : List UInt8} {t p fin : Nat} {c : Int} (h : dataS l t p fin = .bad c) : c ≠ 0 := by
  rw [dataS] at h
  split at h
  · cases h
  · split at h
    · exact dtP_nz _ _ _ _ _ _ h
    · split at h
      · cases h
      · cases h; decide

theorem quS_nz {l : List UInt8} {p : Nat} {c : Int} (h : quS l p = .bad c) : c ≠ 0 := by
  rw [quS] at h
  split at h
  · rename_i c' hd
    cases h
    exact dnF_nz l _ _ _ _ _ hd
  · split at h
    · cases h
    · cases h; decide

theorem rrS_nz {l : List UInt8} {p : Nat} {c : Int} (h : rrS l p = .bad c) : c ≠ 0 := by
  rw [rrS] at h
  split at h
  · rename_i c' hd
    cases h
    exact dnF_nz l _ _ _ _ _ hd
  · split at h
    · split at h
      · split at h
        · rename_i c' hd
          cases h
          exact dataS_nz hd
        · cases h
      · cases h; decide
    · cases h; decide

theorem manyS_nz {α : Type} {f : Nat → Rs α} (hf : ∀ p c, f p = .bad c → c ≠ 0) : ∀ (n p : Nat) (acc : List α) (c : Int), manyS f n p acc = .bad c → c ≠ 0 := by
  intro n
  induction n with
  | zero => intro p acc c h; rw [manyS] at h; cases h
  | succ n ih =>
    intro p acc c h
    rw [manyS] at h
    split at h
    · rename_i c' hd
      cases h
      exact hf _ _ hd
    · exact ih _ _ _ h

/-- A code that is not 0 where nothing was read. -/
theorem code_bad {l : List UInt8} {c : Int} (h : msgS l = .bad c) : c ≠ 0 := by
  rw [msgS] at h
  split at h
  · cases h; decide
  split at h
  · cases h; decide
  split at h
  · cases h; decide
  rw [listsS] at h
  split at h
  · rename_i c' hd
    cases h
    exact manyS_nz (fun p c h => quS_nz h) _ _ _ _ hd
  split at h
  · rename_i c' hd
    cases h
    exact manyS_nz (fun p c h => rrS_nz h) _ _ _ _ hd
  split at h
  · rename_i c' hd
    cases h
    exact manyS_nz (fun p c h => rrS_nz h) _ _ _ _ hd
  split at h
  · rename_i c' hd
    cases h
    exact manyS_nz (fun p c h => rrS_nz h) _ _ _ _ hd
  split at h
  · cases h; decide
  · cases h
end Go.Proofs.Ytilcbdhcojgcbaa
