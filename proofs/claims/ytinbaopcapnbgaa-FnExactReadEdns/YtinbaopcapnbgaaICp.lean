import Derived.Test.YtinbaopcapnbgaaShC
import Derived.Laws.IdiomCopy
import Derived.Laws.CopyOwn
/- Copies into a variable of one's own. -/
namespace Go.Proofs.Ytinbaopcapnbgaa
open Go.RowKit
set_option linter.unusedVariables false

/-- Values laid into an array from a place on. -/
def spl (cs : Array Value) : Nat → List Value → Array Value
  | _, [] => cs
  | o, v :: r => spl (cs.setIfInBounds o v) (o + 1) r
theorem spl_size : ∀ (vs : List Value) (cs : Array Value) (o : Nat), (spl cs o vs).size = cs.size
  | [], _, _ => rfl
  | v :: r, cs, o => by rw [spl, spl_size r]; simp
theorem blk_setCells {b : Nat} {T : TypeId} : ∀ (vs : List Value) (o : Nat) (cs : Array Value) (w : World), Blk w b cs T → Blk (w.setCells b o vs) b (spl cs o vs) T
  | [], _, _, _, h => h
  | v :: r, o, cs, w, h => blk_setCells r (o + 1) _ _ (blk_set h o v)
theorem only_setCells {b : Nat} {w0 : World} : ∀ (vs : List Value) (o : Nat) (w : World), Only b w0 w → Only b w0 (w.setCells b o vs)
  | [], _, _, h => h
  | v :: r, o, w, h => only_setCells r (o + 1) _ h.set
def bytesV (S : ByteArray) : List Value := S.data.toList.map fun c => .int .u8 (c.toNat : Int)

theorem run_copy_str {P : Program} (w : World) (dT sT ty elem T : TypeId) (b o dLen dCap : Nat) (S : ByteArray) (cs : Array Value) (hk : Blk w b cs T)
    (hu : P.underlying dT = some (.slice elem)) (hs : (P.info? elem).map (·.size) = some 1) (h2 : S.size ≤ dLen) (hfit : o + S.size ≤ cs.size) :
    (Builtin.copy_ #[dT, sT] ty #[.slice (some ⟨b, o, none⟩) dLen dCap, .string S]).run P w = .ok (goInt S.size) (w.setCells b o (bytesV S)) := by
  have hlv : (bytesV S).length = S.size := by simp [bytesV]
  have hst := run_storeCells_cells (P := P) b o (bytesV S) 0 w
    (by intro j hj; rw [Nat.add_zero, blk_cell hk (o + j), Array.getElem?_eq_getElem (by omega)]; rfl)
    (by intro j hj; rw [Nat.add_zero]; exact blk_frozen hk _)
    (by intro v hv; simp only [bytesV, List.mem_map] at hv; obtain ⟨c, _, rfl⟩ := hv; rfl)
  have hmin : Nat.min S.size dLen = S.size := Nat.min_eq_left h2
  have hcl : ((S.extract 0 S.size).data.map fun b => (Value.int .u8 (b.toNat : Int))) = (bytesV S).toArray := by
    have e : S.extract 0 S.size = S := by
      apply ByteArray.ext
      simp
    rw [e]
    apply Array.toList_inj.1
    simp [bytesV]
  cases hq : P.info? elem with
  | none => simp [hq] at hs
  | some i =>
    have hi : i.size = 1 := by simpa [hq] using hs
    have hst2 : (storeCells ⟨b, o, none⟩ (bytesV S)).run P w = .ok () (w.setCells b o (bytesV S)) := by simpa using hst
    have hsz2 : ∀ W : World, (Builtin.firstCells 1 S.size (.string S)).run P W = .ok (bytesV S).toArray W := fun W => by rw [← hcl]; rfl
    have hlen : ∀ W : World, (Builtin.lenOf (.string S)).run P W = .ok S.size W := fun W => rfl
    simp [Builtin.copy_, run_underlying hu, hlen, hmin, sizeOf, typeInfo, hq, hi, hsz2, hst2]

theorem step_copy_str {P : Program} {ops : Array Oper} {o : Oper} {a : Act} {w : World} {K : Act → World → Prop} {Q : Exit → Act → World → Prop} {E : Prop} (hgd : o.guard = none) (d s : Operand) (dT sT : TypeId)
    (ho : o.op = .call { callee := .builtin .copy, args := #[d, s], argTypes := #[dT, sT] }) (elem : TypeId) (hu : P.underlying dT = some (.slice elem)) (hsz : (P.info? elem).map (·.size) = some 1)
    (b off dLen dCap : Nat) (hd : a.eval d = .slice (some ⟨b, off, none⟩) dLen dCap) (S : ByteArray) (hs : a.eval s = .string S) (cs : Array Value) (T : TypeId) (hk : Blk w b cs T) (h2 : S.size ≤ dLen) (hfit : off + S.size ≤ cs.size)
    (h : ∀ w', Blk w' b (spl cs off (bytesV S)) T → Only b w w' → K (a.put o.dst (goInt S.size)) w') :
    if Region.wanted o (yielded ops a.tmps) = true then Oper.wp P o a w K Q else E := by
  have hw : Region.wanted o (yielded ops a.tmps) = true := by simp [Region.wanted, hgd]
  rw [if_pos hw]
  have hrun := run_copy_str (P := P) w dT sT o.type elem T b off dLen dCap S cs hk hu hsz h2 hfit
  unfold Oper.wp
  simp [execOp, ho, resolve, invoke, builtin, hd, hs, hrun, Result.andThen]
  exact h _ (blk_setCells _ _ _ _ hk) (only_setCells _ _ _ (Only.refl _ _))

theorem wpList_copy_blk {P : Program} {w : World} {ops : Array Oper} {rest : List Oper} {o : Oper} {a : Act} {Q : Exit → Act → World → Prop} (hgd : o.guard = none) (d s : Operand) (dT sT : TypeId)
    (ho : o.op = .call { callee := .builtin .copy, args := #[d, s], argTypes := #[dT, sT] }) (elem : TypeId) (hu : P.underlying dT = some (.slice elem)) (hsz : (P.info? elem).map (·.size) = some 1)
    (g off dLen dCap : Nat) (sp : Option Addr) (sLen sCap : Nat) (hd : a.eval d = .slice (some ⟨g, off, none⟩) dLen dCap) (hs : a.eval s = .slice sp sLen sCap)
    (cur : Array Value) (t : TypeId) (hg : Blk w g cur t) (cs : List Value) (hn : cs.length = Nat.min sLen dLen)
    (hsrc : 0 < cs.length → ∃ ad, sp = some ad ∧ ∀ j v, cs[j]? = some v → w.cell? (ad.add j) = some v) (hfit : off + cs.length ≤ cur.size) (h1 : ∀ v ∈ cs, v.oneCell' = true)
    (h : ∀ w', Blk w' g (splice cur.toList off cs).toArray t → Only g w w' → wpList P ops Q rest (a.put o.dst (goInt cs.length)) w') : wpList P ops Q (o :: rest) a w := by
  by_cases h0 : cs.length = 0
  · obtain rfl : cs = [] := List.eq_nil_of_length_eq_zero h0
    refine wpList_copy_nothing hgd d s dT sT ho elem hu hsz _ sp dLen dCap sLen sCap hd hs (by simpa using hn.symm) ?_
    exact h w (by simpa [splice] using hg) (Only.refl _ _)
  · obtain ⟨ad, rfl, hsrc2⟩ := hsrc (by omega)
    refine wpList_copy_own hgd d s dT sT ho elem hu hsz g off dLen dCap ad sLen sCap hd hs cur t hg cs hn hsrc2 hfit h1 ?_
    exact h _ (blk_setRow hg) Only.setRow

/-- A whole variable of the package is read. -/
theorem wpList_load_glob {P : Program} {ops : Array Oper} {rest : List Oper} {o : Oper} {a : Act} {w : World} {Q : Exit → Act → World → Prop} (p : Operand) (t : TypeId) (hgd : o.guard = none) (ho : o.op = .load t p) (b : Nat) (cs : Array Value) (t0 : TypeId) (fr : Nat × Nat) (n : Nat) (e : TypeId) (hk : w.heap[b]? = some (.cells cs t0 fr))
    (hp : a.eval p = .pointer (some ⟨b, 0, none⟩)) (hu : P.underlying t = some (.array n e)) (hi : (P.info? t).map (·.size) = some cs.size)
    (h : wpList P ops Q rest (a.put o.dst (.agg cs)) w) : wpList P ops Q (o :: rest) a w :=
  wpList_plain hgd fun _ hK => by
    unfold Oper.wp execOp
    simp only [ho, hp, Instr.loadAt, Instr.sureAddr, Sem.run_bind, Sem.run_pure, Result.andThen_ok, run_loadVar_row w b t0 t cs fr (.array n e) hk hu rfl hi]
    exact hK _ _ h
end Go.Proofs.Ytinbaopcapnbgaa
