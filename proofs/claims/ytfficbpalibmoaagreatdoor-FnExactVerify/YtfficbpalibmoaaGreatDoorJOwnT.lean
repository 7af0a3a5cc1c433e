import Derived.Test.YtfficbpalibmoaaGreatDoorJMath
import Derived.Test.YtfficbpalibmoaaGreatDoorShK
import Derived.RegionTactic
import Derived.BigRegion
import Derived.Laws.IdiomCopy
import Derived.Laws.CopyOwn
import Derived.Laws.OwnMore
/- Rows of one's own beside what is written. -/
namespace Go.Proofs.YtfficbpalibmoaaGreatDoor
open Go.RowKit
set_option linter.unusedVariables false

theorem own_sl {w : World} {B e s n : Nat} {v : Value} {xs : List Value} (h : w.ownsRow B e s v n xs) : ∃ a cap, v = .slice a n cap := by
  rcases h.2 with ⟨rfl, rfl⟩ | ⟨g, cap, cur, rfl, _⟩
  · exact ⟨_, _, rfl⟩
  · exact ⟨_, _, rfl⟩

theorem own_far {W : World} {B e s n g i : Nat} {v y : Value} {xs : List Value} (h : W.ownsRow B e s v n xs) (hg : v.ownBlock ≠ some g) : (W.setCell ⟨g, i, none⟩ y).ownsRow B e s v n xs := by
  refine ⟨h.1, ?_⟩
  rcases h.2 with h0 | ⟨g', cap, cur, rfl, hb, hh, r⟩
  · exact .inl h0
  · refine .inr ⟨g', cap, cur, rfl, hb, ?_, r⟩
    rw [heap_setCell_other W ⟨g, i, none⟩ g' _ (fun e => hg (by simp [Value.ownBlock, e]))]
    exact hh

theorem own_far_lt {W : World} {B e s n g i : Nat} {v y : Value} {xs : List Value} (h : W.ownsRow B e s v n xs) (hg : g < B) : (W.setCell ⟨g, i, none⟩ y).ownsRow B e s v n xs := by
  refine own_far h (fun e => ?_)
  have := (h.lt g e).1
  omega

theorem own_ne {W : World} {B e s n B' e' s' m g cap : Nat} {v : Value} {xs ys : List Value} (h : W.ownsRow B e s v n xs) (h' : W.ownsRow B' e' s' (.slice (some ⟨g, 0, none⟩) m cap) m ys) (hne : e ≠ e') : v.ownBlock ≠ some g := by
  intro he
  rcases h'.2 with ⟨h0, _⟩ | ⟨g', cap', cur', e1, _, hh', _⟩
  · cases h0
  · cases e1
    rcases h.2 with ⟨rfl, _⟩ | ⟨g2, cap2, cur2, rfl, _, hh, _⟩
    · cases he
    · simp only [Value.ownBlock, Option.some.injEq] at he
      subst he
      rw [hh] at hh'
      simp only [Option.some.injEq, Obj.cells.injEq] at hh'
      exact hne hh'.2.1
end Go.Proofs.YtfficbpalibmoaaGreatDoor
/- The loops of spec.Sha256, taken out of its text. -/
namespace Go.Proofs.YtfficbpalibmoaaGreatDoor
open Go.RowKit
set_option linter.unusedVariables false

def loopsOf : Code → List Code
  | .loop c => [c]
  | .seq a b => loopsOf a ++ loopsOf b
  | .block _ c => loopsOf c
  | .scope c => loopsOf c
  | .cond _ a b => loopsOf a ++ loopsOf b
  | _ => []
noncomputable def shTop : List Code := ((Tryz.f65).body.map loopsOf).getD []
noncomputable def shL1 : Code := (shTop[0]?).getD .skip
noncomputable def shL2 : Code := (shTop[1]?).getD .skip
noncomputable def shL3 : Code := (shTop[2]?).getD .skip
noncomputable def shL4 : Code := (shTop[3]?).getD .skip
noncomputable def shL5 : Code := ((loopsOf shL4)[0]?).getD .skip
noncomputable def shL6 : Code := ((loopsOf shL4)[1]?).getD .skip
noncomputable def shL7 : Code := ((loopsOf shL4)[2]?).getD .skip
def sndS : Code → Code
  | .seq _ b => b
  | c => c
def fstS : Code → Code
  | .seq a _ => a
  | c => c
def inB : Code → Code
  | .block _ c => c
  | c => c
noncomputable def shR37 : Code := sndS (sndS (sndS (sndS (inB (fstS (sndS shL6))))))
noncomputable def shL8 : Code := (shTop[4]?).getD .skip
theorem w_shl24 (x : Wd) : (x.toNat : Int) * (16777216 : Int) % (4294967296 : Int) = ((x <<< 24).toNat : Int) := w_shl x 24
theorem w_shl16 (x : Wd) : (x.toNat : Int) * (65536 : Int) % (4294967296 : Int) = ((x <<< 16).toNat : Int) := w_shl x 16
theorem w_shl8 (x : Wd) : (x.toNat : Int) * (256 : Int) % (4294967296 : Int) = ((x <<< 8).toNat : Int) := w_shl x 8
theorem w_shr3 (x : Wd) : (x.toNat : Int) / (8 : Int) = ((x >>> 3).toNat : Int) := w_shr x 3
theorem w_shr10 (x : Wd) : (x.toNat : Int) / (1024 : Int) = ((x >>> 10).toNat : Int) := w_shr x 10
theorem w_add4 (a b c d : Wd) : ((a.toNat : Int) + (b.toNat : Int) + (c.toNat : Int) + (d.toNat : Int)) % (4294967296 : Int) = ((a + b + c + d).toNat : Int) := by
  rw [← w_add, ← w_add, ← w_add]
  omega
theorem u32_wrap_any (x : Int) : IntKind.u32.wrap x = x % 4294967296 := by
  simp only [IntKind.wrap, IntKind.bits, IntKind.signed]
  simp
theorem wr_add (x y : Wd) : IntKind.u32.wrap ((x.toNat : Int) + (y.toNat : Int)) = ((x + y).toNat : Int) := by rw [u32_wrap_any, w_add]
theorem w_not (x : Wd) : bits .xor .u32 IntKind.u32.max (x.toNat : Int) = ((~~~x).toNat : Int) := by
  have h := w_xor (BitVec.allOnes 32) x
  have e : ((BitVec.allOnes 32).toNat : Int) = IntKind.u32.max := by decide
  rw [e, BitVec.allOnes_xor] at h
  exact h
/-- Block p alone has been written, others may have been made. -/
structure Only (p : Nat) (w w' : World) : Prop where
  os : w'.os = w.os
  tape : w'.tape = w.tape
  output : w'.output = w.output
  size : w.heap.size ≤ w'.heap.size
  block : ∀ k, k < w.heap.size → k ≠ p → w'.heap[k]? = w.heap[k]?
theorem Only.refl (p : Nat) (w : World) : Only p w w := ⟨rfl, rfl, rfl, Nat.le_refl _, fun _ _ _ => rfl⟩
theorem Only.drew {p : Nat} {w w' : World} (h : Only p w w') : Only p w w'.drew := ⟨h.os, h.tape, h.output, h.size, h.block⟩
theorem Only.then {p q : Nat} {w w1 w2 : World} (h : Only p w w1) (h2 : Only q w1 w2) (hq : q = p ∨ w.heap.size ≤ q) : Only p w w2 :=
  ⟨h2.os.trans h.os, h2.tape.trans h.tape, h2.output.trans h.output, Nat.le_trans h.size h2.size, fun k hk hp => (h2.block k (Nat.lt_of_lt_of_le hk h.size) (by rcases hq with rfl | hq <;> omega)).trans (h.block k hk hp)⟩
theorem Only.more {p : Nat} {w w1 w2 : World} (h : Only p w w1) (h2 : Below w1.heap.size w1 w2) : Only p w w2 :=
  ⟨h2.os.trans h.os, h2.tape.trans h.tape, h2.output.trans h.output, Nat.le_trans h.size h2.size, fun k hk hp => (h2.block k (Nat.lt_of_lt_of_le hk h.size)).trans (h.block k hk hp)⟩
theorem Only.alloc {p : Nat} {w w' : World} (h : Only p w w') (o : Obj) : Only p w (w'.alloc o) := h.more ((Below.refl _ _).alloc (Nat.le_refl _) o)
theorem Only.set {p i : Nat} {w w' : World} {v : Value} (h : Only p w w') : Only p w (w'.setCell ⟨p, i, none⟩ v) := by
  have h1 := (Below.refl 0 w').setCell (p := ⟨p, i, none⟩) (Nat.zero_le _) v
  refine ⟨h1.os.trans h.os, h1.tape.trans h.tape, h1.output.trans h.output, Nat.le_trans h.size h1.size, fun k hk hp => ?_⟩
  rw [Below.heap_setCell _ _ _ _ hp]
  exact h.block k hk hp
theorem Only.blk {p b : Nat} {w w' : World} {cs : Array Value} {T : TypeId} (h : Only p w w') (hb : Blk w b cs T) (hne : b ≠ p) : Blk w' b cs T := (h.block b (blk_lt hb) hne).trans hb
theorem Only.cell {p : Nat} {w w' : World} {b i : Nat} {v : Value} (h : Only p w w') (hne : b ≠ p) (hc : w.cell? ⟨b, i, none⟩ = some v) : w'.cell? ⟨b, i, none⟩ = some v :=
  (World.cell?_of_block (w := w) (h.block b (World.block_lt_of_cell? w _ hc) hne)).trans hc
theorem Only.below {p B : Nat} {w0 w w' : World} (h : Only p w w') (hb : Below B w0 w) (hp : B ≤ p) (hB : B ≤ w.heap.size) : Below B w0 w' :=
  ⟨h.os.trans hb.os, h.tape.trans hb.tape, h.output.trans hb.output, Nat.le_trans hb.size h.size, fun k hk => (h.block k (by omega) (by omega)).trans (hb.block k hk)⟩
theorem Only.from_below {p : Nat} {w w' : World} (h : Below w.heap.size w w') : Only p w w' := (Only.refl p w).more h

theorem all_rep (n : Nat) : (Array.replicate n (Value.int .u32 0)).all (·.oneCell') = true := Array.all_eq_true_iff_forall_mem.2 (fun v hv => by rw [(Array.mem_replicate.1 hv).2]; rfl)
/-- A whole variable is read. -/
theorem wpList_load_blk {P : Program} {ops : Array Oper} {rest : List Oper} {o : Oper} {a : Act} {w : World} {Q : Exit → Act → World → Prop} (p : Operand) (t : TypeId) (hgd : o.guard = none) (ho : o.op = .load t p) (b : Nat) (cs : Array Value) (d : TypeDesc) (hk : Blk w b cs t)
    (hp : a.eval p = .pointer (some ⟨b, 0, none⟩)) (hu : P.underlying t = some d) (hd : (match d with | .struct _ | .array _ _ => true | _ => false) = true) (hi : (P.info? t).map (·.size) = some cs.size)
    (h : wpList P ops Q rest (a.put o.dst (.agg cs)) w) : wpList P ops Q (o :: rest) a w :=
  wpList_plain hgd fun _ hK => by
    unfold Oper.wp execOp
    simp only [ho, hp, Instr.loadAt, Instr.sureAddr, Sem.run_bind, Sem.run_pure, Result.andThen_ok, run_loadVar_row w b t t cs (0, 0) d hk hu hd hi]
    exact hK _ _ h
theorem run_results_cell {P : Program} {fn : Func} {tmps : Array Value} {w : World} {r : Nat} {t : TypeId} {p : Nat} {cs : Array Value} {n : Nat} {e : TypeId} (hf : fn.results = #[.cell r t]) (ht : tmps[r]?.getD undef = .pointer (some ⟨p, 0, none⟩)) (hk : Blk w p cs t)
    (hu : P.underlying t = some (.array n e)) (hi : (P.info? t).map (·.size) = some cs.size) : (results fn tmps).run P w = .ok (.agg cs) w := by
  have hl := run_loadVar_row w p t t cs (0, 0) (.array n e) hk hu rfl hi
  simp [results, hf, ht, asAddr, hl]
theorem Only.setRow {b : Nat} {w : World} {c : Array Value} : Only b w (w.setRow b c) := by
  refine ⟨rfl, rfl, rfl, ?_, fun k hk hp => ?_⟩
  · simp [World.setRow]
  · simp only [World.setRow]
    rw [Array.getElem?_modify]
    rw [if_neg (Ne.symm hp)]
theorem blk_setRow {b : Nat} {w : World} {c c' : Array Value} {t : TypeId} (h : Blk w b c t) : Blk (w.setRow b c') b c' t := by
  show (World.setRow w b c').heap[b]? = _
  simp only [World.setRow]
  rw [Array.getElem?_modify, if_pos rfl, show w.heap[b]? = some (.cells c t (0, 0)) from h]
  rfl
/-- A whole variable is written. -/
theorem wpList_store_blk {P : Program} {ops : Array Oper} {rest : List Oper} {o : Oper} {a : Act} {w : World} {Q : Exit → Act → World → Prop} (p x : Operand) (t : TypeId) (hgd : o.guard = none) (ho : o.op = .store t p x) (hdst : o.dst = none) (b : Nat) (c c' : Array Value) (hk : Blk w b c t)
    (hp : a.eval p = .pointer (some ⟨b, 0, none⟩)) (hx : a.eval x = .agg c') (hi : (P.info? t).map (·.size) = some c'.size) (hs : c.size = c'.size) (h1 : c'.all (·.oneCell') = true)
    (h : ∀ w', Blk w' b c' t → Only b w w' → wpList P ops Q rest a w') : wpList P ops Q (o :: rest) a w :=
  wpList_plain hgd fun _ hK => by
    unfold Oper.wp execOp
    simp only [ho, hp, hx, Instr.storeAt, Instr.sureAddr, Sem.run_bind, Sem.run_pure, Result.andThen_ok, run_storeVar_row w b t t c c' hk hi hs h1]
    have e : a.put o.dst undef = a := by rw [hdst]; rfl
    refine hK _ _ ?_
    rw [e]
    exact h _ (blk_setRow hk) Only.setRow
end Go.Proofs.YtfficbpalibmoaaGreatDoor
/- Copies into a variable of one's own. -/
namespace Go.Proofs.YtfficbpalibmoaaGreatDoor
open Go.RowKit
set_option linter.unusedVariables false

/-- Values laid into an array from a place on. -/
def spl (cs : Array Value) : Nat → List Value → Array Value
  | _, [] => cs
  | o, v :: r => spl (cs.setIfInBounds o v) (o + 1) r
theorem spl_size : ∀ (vs : List Value) (cs : Array Value) (o : Nat), (spl cs o vs).size = cs.size
  | [], _, _ => rfl
  | v :: r, cs, o => by rw [spl, spl_size r]; simp
theorem blk_setCells {b : Nat} {T : TypeId} : ∀ (vs : List Value) (o : Nat) (cs : Array Value) (w : World), Blk w b cs T → Blk (w.setCells b o vs) b (spl cs o vs) T
  | [], _, _, _, h => h
  | v :: r, o, cs, w, h => blk_setCells r (o + 1) _ _ (blk_set h o v)
theorem only_setCells {b : Nat} {w0 : World} : ∀ (vs : List Value) (o : Nat) (w : World), Only b w0 w → Only b w0 (w.setCells b o vs)
  | [], _, _, h => h
  | v :: r, o, w, h => only_setCells r (o + 1) _ h.set
def bytesV (S : ByteArray) : List Value := S.data.toList.map fun c => .int .u8 (c.toNat : Int)

theorem run_copy_str {P : Program} (w : World) (dT sT ty elem T : TypeId) (b o dLen dCap : Nat) (S : ByteArray) (cs : Array Value) (hk : Blk w b cs T)
    (hu : P.underlying dT = some (.slice elem)) (hs : (P.info? elem).map (·.size) = some 1) (h2 : S.size ≤ dLen) (hfit : o + S.size ≤ cs.size) :
    (Builtin.copy_ #[dT, sT] ty #[.slice (some ⟨b, o, none⟩) dLen dCap, .string S]).run P w = .ok (goInt S.size) (w.setCells b o (bytesV S)) := by
  have hlv : (bytesV S).length = S.size := by simp [bytesV]
  have hst := run_storeCells_cells (P := P) b o (bytesV S) 0 w
    (by intro j hj; rw [Nat.add_zero, blk_cell hk (o + j), Array.getElem?_eq_getElem (by omega)]; rfl)
    (by intro j hj; rw [Nat.add_zero]; exact blk_frozen hk _)
    (by intro v hv; simp only [bytesV, List.mem_map] at hv; obtain ⟨c, _, rfl⟩ := hv; rfl)
  have hmin : Nat.min S.size dLen = S.size := Nat.min_eq_left h2
  have hcl : ((S.extract 0 S.size).data.map fun b => (Value.int .u8 (b.toNat : Int))) = (bytesV S).toArray := by
    have e : S.extract 0 S.size = S := by
      apply ByteArray.ext
      simp
    rw [e]
    apply Array.toList_inj.1
    simp [bytesV]
  cases hq : P.info? elem with
  | none => simp [hq] at hs
  | some i =>
    have hi : i.size = 1 := by simpa [hq] using hs
    have hst2 : (storeCells ⟨b, o, none⟩ (bytesV S)).run P w = .ok () (w.setCells b o (bytesV S)) := by simpa using hst
    have hsz2 : ∀ W : World, (Builtin.firstCells 1 S.size (.string S)).run P W = .ok (bytesV S).toArray W := fun W => by rw [← hcl]; rfl
    have hlen : ∀ W : World, (Builtin.lenOf (.string S)).run P W = .ok S.size W := fun W => rfl
    simp [Builtin.copy_, run_underlying hu, hlen, hmin, sizeOf, typeInfo, hq, hi, hsz2, hst2]

theorem step_copy_str {P : Program} {ops : Array Oper} {o : Oper} {a : Act} {w : World} {K : Act → World → Prop} {Q : Exit → Act → World → Prop} {E : Prop} (hgd : o.guard = none) (d s : Operand) (dT sT : TypeId)
    (ho : o.op = .call { callee := .builtin .copy, args := #[d, s], argTypes := #[dT, sT] }) (elem : TypeId) (hu : P.underlying dT = some (.slice elem)) (hsz : (P.info? elem).map (·.size) = some 1)
    (b off dLen dCap : Nat) (hd : a.eval d = .slice (some ⟨b, off, none⟩) dLen dCap) (S : ByteArray) (hs : a.eval s = .string S) (cs : Array Value) (T : TypeId) (hk : Blk w b cs T) (h2 : S.size ≤ dLen) (hfit : off + S.size ≤ cs.size)
    (h : ∀ w', Blk w' b (spl cs off (bytesV S)) T → Only b w w' → K (a.put o.dst (goInt S.size)) w') :
    if Region.wanted o (yielded ops a.tmps) = true then Oper.wp P o a w K Q else E := by
  have hw : Region.wanted o (yielded ops a.tmps) = true := by simp [Region.wanted, hgd]
  rw [if_pos hw]
  have hrun := run_copy_str (P := P) w dT sT o.type elem T b off dLen dCap S cs hk hu hsz h2 hfit
  unfold Oper.wp
  simp [execOp, ho, resolve, invoke, builtin, hd, hs, hrun, Result.andThen]
  exact h _ (blk_setCells _ _ _ _ hk) (only_setCells _ _ _ (Only.refl _ _))

theorem wpList_copy_blk {P : Program} {w : World} {ops : Array Oper} {rest : List Oper} {o : Oper} {a : Act} {Q : Exit → Act → World → Prop} (hgd : o.guard = none) (d s : Operand) (dT sT : TypeId)
    (ho : o.op = .call { callee := .builtin .copy, args := #[d, s], argTypes := #[dT, sT] }) (elem : TypeId) (hu : P.underlying dT = some (.slice elem)) (hsz : (P.info? elem).map (·.size) = some 1)
    (g off dLen dCap : Nat) (sp : Option Addr) (sLen sCap : Nat) (hd : a.eval d = .slice (some ⟨g, off, none⟩) dLen dCap) (hs : a.eval s = .slice sp sLen sCap)
    (cur : Array Value) (t : TypeId) (hg : Blk w g cur t) (cs : List Value) (hn : cs.length = Nat.min sLen dLen)
    (hsrc : 0 < cs.length → ∃ ad, sp = some ad ∧ ∀ j v, cs[j]? = some v → w.cell? (ad.add j) = some v) (hfit : off + cs.length ≤ cur.size) (h1 : ∀ v ∈ cs, v.oneCell' = true)
    (h : ∀ w', Blk w' g (splice cur.toList off cs).toArray t → Only g w w' → wpList P ops Q rest (a.put o.dst (goInt cs.length)) w') : wpList P ops Q (o :: rest) a w := by
  by_cases h0 : cs.length = 0
  · obtain rfl : cs = [] := List.eq_nil_of_length_eq_zero h0
    refine wpList_copy_nothing hgd d s dT sT ho elem hu hsz _ sp dLen dCap sLen sCap hd hs (by simpa using hn.symm) ?_
    exact h w (by simpa [splice] using hg) (Only.refl _ _)
  · obtain ⟨ad, rfl, hsrc2⟩ := hsrc (by omega)
    refine wpList_copy_own hgd d s dT sT ho elem hu hsz g off dLen dCap ad sLen sCap hd hs cur t hg cs hn hsrc2 hfit h1 ?_
    exact h _ (blk_setRow hg) Only.setRow

/-- A whole variable of the package is read. -/
theorem wpList_load_glob {P : Program} {ops : Array Oper} {rest : List Oper} {o : Oper} {a : Act} {w : World} {Q : Exit → Act → World → Prop} (p : Operand) (t : TypeId) (hgd : o.guard = none) (ho : o.op = .load t p) (b : Nat) (cs : Array Value) (t0 : TypeId) (fr : Nat × Nat) (n : Nat) (e : TypeId) (hk : w.heap[b]? = some (.cells cs t0 fr))
    (hp : a.eval p = .pointer (some ⟨b, 0, none⟩)) (hu : P.underlying t = some (.array n e)) (hi : (P.info? t).map (·.size) = some cs.size)
    (h : wpList P ops Q rest (a.put o.dst (.agg cs)) w) : wpList P ops Q (o :: rest) a w :=
  wpList_plain hgd fun _ hK => by
    unfold Oper.wp execOp
    simp only [ho, hp, Instr.loadAt, Instr.sureAddr, Sem.run_bind, Sem.run_pure, Result.andThen_ok, run_loadVar_row w b t0 t cs fr (.array n e) hk hu rfl hi]
    exact hK _ _ h
end Go.Proofs.YtfficbpalibmoaaGreatDoor
/- impl.bigBytes at any width by its contract. -/
namespace Go.Proofs.YtfficbpalibmoaaGreatDoor
open Go.RowKit
set_option linter.unusedVariables false

def bigL (v n : Nat) : List UInt8 := (List.range n).map fun i => UInt8.ofNat (v / 2 ^ (8 * (n - 1 - i)))
def bigM (v n j : Nat) : List Value := (List.range n).map fun i => if i < j then .int .u8 ((UInt8.ofNat (v / 2 ^ (8 * (n - 1 - i)))).toNat : Int) else .int .u8 0
theorem bigM_zero (v n : Nat) : bigM v n 0 = List.replicate n (.int .u8 0) := by
  simp only [bigM, Nat.not_lt_zero, if_false]
  rw [List.map_const', List.length_range]
theorem bigM_all (v n : Nat) : bigM v n n = Nm.bys (bigL v n) := by
  simp only [bigM, bigL, Nm.bys, List.map_map]
  apply List.map_congr_left
  intro i hi
  simp [List.mem_range.1 hi]
theorem bigM_set {v n j : Nat} (h : j < n) : (bigM v n j).set j (.int .u8 ((UInt8.ofNat (v / 2 ^ (8 * (n - 1 - j)))).toNat : Int)) = bigM v n (j + 1) := by
  apply List.ext_getElem?
  intro i
  rw [List.getElem?_set]
  by_cases hi : j = i
  · subst hi
    simp [bigM, h]
  · rw [if_neg hi]
    by_cases hn : i < n
    · simp only [bigM, List.getElem?_map, List.getElem?_range hn, Option.map_some]
      by_cases h1 : i < j
      · rw [if_pos h1, if_pos (by omega)]
      · rw [if_neg h1, if_neg (by omega)]
    · simp [bigM, hn]

set_option maxRecDepth 100000 in
set_option maxHeartbeats 1600000 in
theorem bigBytesN_any (v n : Nat) (w : World) (hv : v ≤ 4611686018427387904) (hn1 : 1 ≤ n) (hn : n ≤ 8) :
    Calls Tryz.prog 54 #[.int .i64 (v : Int), .int .i64 (n : Int)] w fun e w' => e = .returned (.string ⟨(bigL v n).toArray⟩) ∧ Below w.heap.size w w' := by
  obtain ⟨i0, hi, hz0, hz1, hz2⟩ := info_parts Tryz.infoBy
  obtain ⟨wm, hmk, hownm, hgrm⟩ := run_make_full (P := Tryz.prog) w w.heap.size 22 5 i0 (.int .u8 0) 1 Tryz.underlying22 hi hz0 hz1 .i64 .i64 n (by rw [hz2]; omega) (by unfold maxLen; omega) (Nat.le_refl _)
  have hbelm : Below w.heap.size w wm := (Below.refl _ _).grown hgrm (Nat.le_refl _) (by simp)
  have hz4 : (madeCells (Value.int .u8 0).cells (n * 1)).toList = bigM v n 0 := by
    rw [bigM_zero]
    match n, hn1, hn with
    | 1, _, _ | 2, _, _ | 3, _, _ | 4, _, _ | 5, _, _ | 6, _, _ | 7, _, _ | 8, _, _ => first | rfl | (show _ = _; kernel_rfl)
  rw [hz4] at hownm
  clear hgrm hz4
  go_enter Tryz.func54, Tryz.ntmps54
  go_wp2
  go_loopw [11] (fun i wr => ∃ j : Nat, j ≤ n ∧ i = .int .i64 (j : Int) ∧ wr.ownsRow w.heap.size 5 1 (.slice (some ⟨w.heap.size, 0, none⟩) n n) n (bigM v n j) ∧ Below w.heap.size w wr) (fun i _ => (n - intOf i).toNat)
  case atStart => exact ⟨0, by omega, rfl, hownm, hbelm⟩
  case round =>
    obtain ⟨j, hj, rfl, hown, hbel⟩ := hrel
    clear hownm hbelm hmk
    by_cases hlt : j < n
    · have i1 : (0 : Int) ≤ (j : Int) := by omega
      have i2 : (j : Int) < (n : Int) := by omega
      have i3 : (n : Int) ≤ 8 := by omega
      obtain ⟨x, hx⟩ : ∃ x, (bigM v n j)[j]? = some x := by simp [bigM, hlt]
      have hc : wr.cell? ⟨w.heap.size, j, none⟩ = some x := (hown.cellAt j (by omega)).trans hx
      have hfz := hown.frozenAt j
      have hst := (hown.stored j (.int .u8 ((UInt8.ofNat (v / 2 ^ (8 * (n - 1 - j)))).toNat : Int))).1
      rw [bigM_set hlt] at hst
      have hB2 := hbel.setCell (p := ⟨w.heap.size, j, none⟩) (Nat.le_refl _) (.int .u8 ((UInt8.ofNat (v / 2 ^ (8 * (n - 1 - j)))).toNat : Int))
      clear hown hbel hx
      go_wp2
      rw [show ((v : Int) / 2 ^ (8 * (n - 1 - j)) % 256) = ((UInt8.ofNat (v / 2 ^ (8 * (n - 1 - j)))).toNat : Int) by
        rw [UInt8.toNat_ofNat', Int.natCast_emod, Int.natCast_ediv, Int.natCast_pow]
        rfl]
      go_roundw
      case rel => exact ⟨j + 1, by omega, by go_num, hst, hB2⟩
      case measure => simp [intOf]; omega
    · obtain rfl : j = n := by omega
      rw [bigM_all] at hown
      have HC := Nm.conv_own (P := Tryz.prog) (src := 22) (dst := 9) Tryz.underlying22 Tryz.underlying5 Tryz.underlying9 hown (by omega)
      obtain ⟨g, cap, hv', hcv⟩ := HC
      cases hv'
      go_wp2
      go_ret
      exact ⟨rfl, hbel⟩
end Go.Proofs.YtfficbpalibmoaaGreatDoor
/- The number of some bytes: mathematics. -/
namespace Go.Proofs.YtfficbpalibmoaaGreatDoor
open Go.RowKit

/-- The number of some bytes, the high one first. -/
def numL (l : List UInt8) : Nat := l.foldl (fun n c => n * 256 + c.toNat) 0

theorem numL_snoc (l : List UInt8) (c : UInt8) : numL (l ++ [c]) = numL l * 256 + c.toNat := by simp [numL]

theorem fold_lt : ∀ (l : List UInt8) (a : Nat), l.foldl (fun n c => n * 256 + c.toNat) a < (a + 1) * 256 ^ l.length := by
  intro l
  induction l with
  | nil => intro a; simp
  | cons c l ih =>
    intro a
    rw [List.foldl_cons, List.length_cons, Nat.pow_succ]
    refine Nat.lt_of_lt_of_le (ih _) ?_
    have hc := c.toNat_lt
    have h1 : a * 256 + c.toNat + 1 ≤ (a + 1) * 256 := by omega
    calc (a * 256 + c.toNat + 1) * 256 ^ l.length ≤ ((a + 1) * 256) * 256 ^ l.length := Nat.mul_le_mul_right _ h1
      _ = (a + 1) * (256 ^ l.length * 256) := by rw [Nat.mul_assoc, Nat.mul_comm 256]

theorem numL_lt (l : List UInt8) : numL l < 256 ^ l.length := by
  have := fold_lt l 0
  rw [Nat.zero_add, Nat.one_mul] at this
  exact this

theorem numL_small {l : List UInt8} (h : l.length ≤ 6) : numL l < 281474976710656 := by
  have h1 := numL_lt l
  have h2 : 256 ^ l.length ≤ 256 ^ 6 := Nat.pow_le_pow_right (by decide) h
  have h3 : (256 : Nat) ^ 6 = 281474976710656 := by decide
  omega

end Go.Proofs.YtfficbpalibmoaaGreatDoor
/- spec.Sha256: the words as bytes. -/
namespace Go.Proofs.YtfficbpalibmoaaGreatDoor
open Go.RowKit
set_option linter.unusedVariables false

def ouA (l : List UInt8) (i : Nat) : Array Value := ((List.range 32).map fun j => if j < i then .int .u8 (((l[j]?).getD 0).toNat : Int) else .int .u8 0).toArray
theorem ouA_zero (l : List UInt8) : ouA l 0 = Array.replicate 32 (.int .u8 0) := by
  simp only [ouA, Nat.not_lt_zero, if_false]
  rfl
theorem ouA_any {l : List UInt8} {i j : Nat} (hj : j < 32) : ∃ v, (ouA l i)[j]? = some v := by simp [ouA, hj]
theorem ouA_set {l : List UInt8} {i : Nat} (h : i < 32) : (ouA l i).setIfInBounds i (.int .u8 (((l[i]?).getD 0).toNat : Int)) = ouA l (i + 1) := by
  apply Array.ext_getElem?
  intro j
  rw [Array.getElem?_setIfInBounds]
  by_cases hj : i = j
  · subst hj
    simp [ouA, h]
  · rw [if_neg hj]
    by_cases hj32 : j < 32
    · simp only [ouA, List.getElem?_toArray, List.getElem?_map, List.getElem?_range hj32, Option.map_some]
      by_cases h1 : j < i
      · rw [if_pos h1, if_pos (by omega)]
      · rw [if_neg h1, if_neg (by omega)]
    · simp [ouA, hj32]
theorem outL_len (s : Sv) : (outL s).length = 32 := rfl
theorem ouA_all (s : Sv) : ouA (outL s) 32 = ((outL s).map fun c => Value.int .u8 (c.toNat : Int)).toArray := rfl
def byA (l : List UInt8) : Array Value := (l.map fun c => Value.int .u8 (c.toNat : Int)).toArray
theorem byA_size (l : List UInt8) : (byA l).size = l.length := by simp [byA]
theorem byA_one (l : List UInt8) : (byA l).all (·.oneCell') = true := Array.all_eq_true_iff_forall_mem.2 (fun v hv => by
  simp only [byA, List.mem_toArray, List.mem_map] at hv
  obtain ⟨c, _, rfl⟩ := hv
  rfl)
theorem ouA_byA (s : Sv) : ouA (outL s) 32 = byA (outL s) := ouA_all s
theorem all_rep8 (n : Nat) : (Array.replicate n (Value.int .u8 0)).all (·.oneCell') = true := Array.all_eq_true_iff_forall_mem.2 (fun v hv => by rw [(Array.mem_replicate.1 hv).2]; rfl)
theorem outL_at (s : Sv) {k : Nat} (h : k < 32) : ((outL s)[k]?).getD 0 = UInt8.ofNat ((((svL s)[k / 4]?).getD 0).toNat / 2 ^ (24 - 8 * (k % 4))) := by
  match k, h with
  | 0, _ | 1, _ | 2, _ | 3, _ | 4, _ | 5, _ | 6, _ | 7, _ | 8, _ | 9, _ | 10, _ | 11, _ | 12, _ | 13, _ | 14, _ | 15, _ | 16, _ | 17, _ | 18, _ | 19, _ | 20, _ | 21, _ | 22, _ | 23, _ | 24, _ | 25, _ | 26, _ | 27, _ | 28, _ | 29, _ | 30, _ | 31, _ => simp [outL, svL]
  | n + 32, h => exact absurd h (by omega)
theorem hvA_at8 (h : Sv) {j : Nat} (hj : j < 8) : (hvA h)[j]? = some (.int .u32 ((((svL h)[j]?).getD 0).toNat : Int)) := by
  match j, hj with
  | 0, _ | 1, _ | 2, _ | 3, _ | 4, _ | 5, _ | 6, _ | 7, _ => rfl

set_option maxRecDepth 1000000 in
set_option maxHeartbeats 16000000 in
theorem sha_bytes (p6 p23 : Nat) (hne : p6 ≠ p23) (h : Sv) (Q0 : Exit → Act → World → Prop) (w : World) (k6 : Blk w p6 (hvA h) 125) (k23 : Blk w p23 (ouA (outL h) 0) 66)
    (s0 s1 s2 s3 s4 s5 s7 s8 s9 s10 s11 s12 s13 s14 s15 s16 s17 s18 s19 s20 s21 s22 s25 s26 s27 s28 s29 s30 s31 s32 s33 s34 s35 s36 s37 s38 s39 s40 s41 s42 s43 s44 s45 s46 s47 s48 s49 s50 s51 s52 s53 s54 s55 s56 s57 s58 s59 s60 s61 s62 s63 s64 s65 s66 s67 s68 s69 s70 s71 s72 s73 s74 s75 s76 s77 s78 s79 s80 s81 s82 s83 s84 s85 s86 s87 s88 s89 s90 s91 s92 s93 s94 s95 s96 s97 s98 s99 s100 s101 s102 s103 s104 s105 s106 s107 s108 s109 s110 s111 s112 s113 s114 s115 s116 s117 s118 s119 s120 s121 s122 s123 s124 s125 s126 s127 s128 s129 s130 s131 s132 s133 s134 s135 s136 s137 s138 s139 s140 s141 s142 s143 s144 s145 s146 s147 s148 s149 s150 s151 s152 s153 s154 s155 s156 s157 s158 s159 s160 s161 s162 s163 s164 s165 s166 s167 s168 s169 s170 s171 s172 s173 s174 s175 s176 s177 s178 s179 s180 s181 s182 s183 s184 s185 s186 s187 s188 s189 s190 s191 s192 s193 s194 s195 s196 s197 s198 s199 s200 s201 s202 s203 s204 s205 s206 s207 s208 s209 s210 s211 s212 s213 s214 s215 s216 s217 s218 s219 s220 s221 s222 s223 s224 s225 s226 s227 s228 s229 s230 s231 s232 s233 s234 s235 s236 s237 s238 s239 s240 s241 s242 s243 s244 s245 s246 s247 s248 s249 s250 s251 s252 s253 s254 s255 s256 s257 s258 s259 s260 s261 s262 s263 s264 s265 s266 : Value)
    (hexit : ∀ (u24 u249 u250 u251 u252 u253 u254 u255 u256 u257 u258 u259 u260 u261 u262 u263 u264 u265 : Value) (w' : World), Blk w' p23 (ouA (outL h) 32) 66 ∧ Only p23 w w' → Q0 (.exit 14) ⟨(s0 :: s1 :: s2 :: s3 :: s4 :: s5 :: .pointer (some ⟨p6, 0, none⟩) :: s7 :: s8 :: s9 :: s10 :: s11 :: s12 :: s13 :: s14 :: s15 :: s16 :: s17 :: s18 :: s19 :: s20 :: s21 :: s22 :: .pointer (some ⟨p23, 0, none⟩) :: u24 :: s25 :: s26 :: s27 :: s28 :: s29 :: s30 :: s31 :: s32 :: s33 :: s34 :: s35 :: s36 :: s37 :: s38 :: s39 :: s40 :: s41 :: s42 :: s43 :: s44 :: s45 :: s46 :: s47 :: s48 :: s49 :: s50 :: s51 :: s52 :: s53 :: s54 :: s55 :: s56 :: s57 :: s58 :: s59 :: s60 :: s61 :: s62 :: s63 :: s64 :: s65 :: s66 :: s67 :: s68 :: s69 :: s70 :: s71 :: s72 :: s73 :: s74 :: s75 :: s76 :: s77 :: s78 :: s79 :: s80 :: s81 :: s82 :: s83 :: s84 :: s85 :: s86 :: s87 :: s88 :: s89 :: s90 :: s91 :: s92 :: s93 :: s94 :: s95 :: s96 :: s97 :: s98 :: s99 :: s100 :: s101 :: s102 :: s103 :: s104 :: s105 :: s106 :: s107 :: s108 :: s109 :: s110 :: s111 :: s112 :: s113 :: s114 :: s115 :: s116 :: s117 :: s118 :: s119 :: s120 :: s121 :: s122 :: s123 :: s124 :: s125 :: s126 :: s127 :: s128 :: s129 :: s130 :: s131 :: s132 :: s133 :: s134 :: s135 :: s136 :: s137 :: s138 :: s139 :: s140 :: s141 :: s142 :: s143 :: s144 :: s145 :: s146 :: s147 :: s148 :: s149 :: s150 :: s151 :: s152 :: s153 :: s154 :: s155 :: s156 :: s157 :: s158 :: s159 :: s160 :: s161 :: s162 :: s163 :: s164 :: s165 :: s166 :: s167 :: s168 :: s169 :: s170 :: s171 :: s172 :: s173 :: s174 :: s175 :: s176 :: s177 :: s178 :: s179 :: s180 :: s181 :: s182 :: s183 :: s184 :: s185 :: s186 :: s187 :: s188 :: s189 :: s190 :: s191 :: s192 :: s193 :: s194 :: s195 :: s196 :: s197 :: s198 :: s199 :: s200 :: s201 :: s202 :: s203 :: s204 :: s205 :: s206 :: s207 :: s208 :: s209 :: s210 :: s211 :: s212 :: s213 :: s214 :: s215 :: s216 :: s217 :: s218 :: s219 :: s220 :: s221 :: s222 :: s223 :: s224 :: s225 :: s226 :: s227 :: s228 :: s229 :: s230 :: s231 :: s232 :: s233 :: s234 :: s235 :: s236 :: s237 :: s238 :: s239 :: s240 :: s241 :: s242 :: s243 :: s244 :: s245 :: s246 :: s247 :: s248 :: u249 :: u250 :: u251 :: u252 :: u253 :: u254 :: u255 :: u256 :: u257 :: u258 :: u259 :: u260 :: u261 :: u262 :: u263 :: u264 :: u265 :: s266 :: []).toArray, []⟩ w') :
    Code.wp Tryz.prog (Code.loop shL8) Q0 ⟨(s0 :: s1 :: s2 :: s3 :: s4 :: s5 :: .pointer (some ⟨p6, 0, none⟩) :: s7 :: s8 :: s9 :: s10 :: s11 :: s12 :: s13 :: s14 :: s15 :: s16 :: s17 :: s18 :: s19 :: s20 :: s21 :: s22 :: .pointer (some ⟨p23, 0, none⟩) :: .int .i64 0 :: s25 :: s26 :: s27 :: s28 :: s29 :: s30 :: s31 :: s32 :: s33 :: s34 :: s35 :: s36 :: s37 :: s38 :: s39 :: s40 :: s41 :: s42 :: s43 :: s44 :: s45 :: s46 :: s47 :: s48 :: s49 :: s50 :: s51 :: s52 :: s53 :: s54 :: s55 :: s56 :: s57 :: s58 :: s59 :: s60 :: s61 :: s62 :: s63 :: s64 :: s65 :: s66 :: s67 :: s68 :: s69 :: s70 :: s71 :: s72 :: s73 :: s74 :: s75 :: s76 :: s77 :: s78 :: s79 :: s80 :: s81 :: s82 :: s83 :: s84 :: s85 :: s86 :: s87 :: s88 :: s89 :: s90 :: s91 :: s92 :: s93 :: s94 :: s95 :: s96 :: s97 :: s98 :: s99 :: s100 :: s101 :: s102 :: s103 :: s104 :: s105 :: s106 :: s107 :: s108 :: s109 :: s110 :: s111 :: s112 :: s113 :: s114 :: s115 :: s116 :: s117 :: s118 :: s119 :: s120 :: s121 :: s122 :: s123 :: s124 :: s125 :: s126 :: s127 :: s128 :: s129 :: s130 :: s131 :: s132 :: s133 :: s134 :: s135 :: s136 :: s137 :: s138 :: s139 :: s140 :: s141 :: s142 :: s143 :: s144 :: s145 :: s146 :: s147 :: s148 :: s149 :: s150 :: s151 :: s152 :: s153 :: s154 :: s155 :: s156 :: s157 :: s158 :: s159 :: s160 :: s161 :: s162 :: s163 :: s164 :: s165 :: s166 :: s167 :: s168 :: s169 :: s170 :: s171 :: s172 :: s173 :: s174 :: s175 :: s176 :: s177 :: s178 :: s179 :: s180 :: s181 :: s182 :: s183 :: s184 :: s185 :: s186 :: s187 :: s188 :: s189 :: s190 :: s191 :: s192 :: s193 :: s194 :: s195 :: s196 :: s197 :: s198 :: s199 :: s200 :: s201 :: s202 :: s203 :: s204 :: s205 :: s206 :: s207 :: s208 :: s209 :: s210 :: s211 :: s212 :: s213 :: s214 :: s215 :: s216 :: s217 :: s218 :: s219 :: s220 :: s221 :: s222 :: s223 :: s224 :: s225 :: s226 :: s227 :: s228 :: s229 :: s230 :: s231 :: s232 :: s233 :: s234 :: s235 :: s236 :: s237 :: s238 :: s239 :: s240 :: s241 :: s242 :: s243 :: s244 :: s245 :: s246 :: s247 :: s248 :: s249 :: s250 :: s251 :: s252 :: s253 :: s254 :: s255 :: s256 :: s257 :: s258 :: s259 :: s260 :: s261 :: s262 :: s263 :: s264 :: s265 :: s266 :: []).toArray, []⟩ w := by
  conv => arg 2; arg 1; whnf
  go_loopw [24] (fun i wr => ∃ k : Nat, k ≤ 32 ∧ i = .int .i64 k ∧ Blk wr p23 (ouA (outL h) k) 66 ∧ Only p23 w wr) (fun i _ => 32 - (intOf i).toNat)
  case atStart => exact ⟨0, by omega, rfl, k23, Only.refl _ _⟩
  case round =>
    obtain ⟨k, hk, rfl, kk, hO⟩ := hrel
    have kh := hO.blk k6 hne
    clear k6 k23
    by_cases hlt : k < 32
    · have c6 := (blk_cell kh (k / 4)).trans (hvA_at8 h (by omega))
      obtain ⟨v23, hv⟩ := ouA_any (l := outL h) (i := k) hlt
      have c23 := (blk_cell kk k).trans hv
      have f23 := blk_frozen kk k
      have HL := Nm.hide (outL_at h hlt)
      have kS := Nm.hide (show Blk (wr.setCell ⟨p23, k, none⟩ (.int .u8 ((((outL h)[k]?).getD 0).toNat : Int))) p23 (ouA (outL h) (k + 1)) 66 by
        have e := blk_set kk k (.int .u8 ((((outL h)[k]?).getD 0).toNat : Int))
        rw [ouA_set hlt] at e
        exact e)
      have hOS := Nm.hide (hO.set (i := k) (v := .int .u8 ((((outL h)[k]?).getD 0).toNat : Int)))
      have i1 : (0 : Int) ≤ (k : Int) := by omega
      have i2 : (k : Int) < 32 := by omega
      clear hexit hv
      generalize ((svL h)[k / 4]?).getD 0 = x at *
      go_wp2
      rw [show ((x.toNat : Int) / 2 ^ (24 - 8 * (k % 4)) % 256) = ((((outL h)[k]?).getD 0).toNat : Int) by
        rw [HL.out, UInt8.toNat_ofNat']
        rw [Int.natCast_emod, Int.natCast_ediv, Int.natCast_pow]
        rfl]
      go_roundw
      case rel => exact ⟨k + 1, by omega, by go_num, kS.out, hOS.out⟩
      case measure => simp [intOf]; omega
    · obtain rfl : k = 32 := by omega
      go_wp2
      exact ⟨kk, hO⟩
end Go.Proofs.YtfficbpalibmoaaGreatDoor
/- Signatures: mathematics. -/
namespace Go.Proofs.YtfficbpalibmoaaGreatDoor
open Go.RowKit
set_option linter.unusedVariables false

/-- the algorithm's name, as its bytes -/
abbrev algL : List UInt8 := [11, 104, 109, 97, 99, 45, 115, 104, 97, 50, 53, 54, 0]
/-- what is summed -/
def textL (rq body nf : List UInt8) (t f : Nat) : List UInt8 :=
  (if rq.length = 0 then [] else bigL rq.length 2 ++ rq) ++ body ++ nf ++ bigL 255 2 ++ bigL 0 4 ++ algL ++ bigL t 6 ++ bigL f 2 ++ [0, 0, 0, 0]
def sumL (sc rq body nf : List UInt8) (t f : Nat) : List UInt8 := hmacL sc (textL rq body nf t f)
/-- a signature's data -/
def datL (t f : Nat) (sum : List UInt8) (id : Nat) : List UInt8 := algL ++ bigL t 6 ++ bigL f 2 ++ bigL 32 2 ++ sum ++ bigL id 2 ++ [0, 0, 0, 0]
/-- a signature's record -/
def recL (nm dat : List UInt8) : List UInt8 := nm ++ bigL 250 2 ++ bigL 255 2 ++ bigL 0 4 ++ bigL dat.length 2 ++ dat
/-- a message's two numbers -/
def idN (m : List UInt8) : Nat := numL (m.take 2)
def ctN (m : List UInt8) : Nat := numL ((m.drop 10).take 2)
/-- a message that is signed -/
def signL (m nm nf sc rq : List UInt8) (t : Nat) : List UInt8 :=
  m.take 10 ++ bigL (ctN m + 1) 2 ++ m.drop 12 ++ recL nm (datL t 300 (sumL sc rq m nf t 300) (idN m))

theorem hmac_len (k b : List UInt8) : (hmacL k b).length = 32 := by rw [hmacL, shaL]; exact outL_len _
theorem big_len (v n : Nat) : (bigL v n).length = n := by simp [bigL]
theorem dat_len {t f id : Nat} {sum : List UInt8} (h : sum.length = 32) : (datL t f sum id).length = 61 := by simp [datL, big_len, h]
theorem rec_len {nm dat : List UInt8} (h : dat.length = 61) : (recL nm dat).length = nm.length + 71 := by simp [recL, big_len, h]
theorem big_two (a b : UInt8) : bigL (numL [a, b]) 2 = [a, b] := by
  have h : numL [a, b] = a.toNat * 256 + b.toNat := by simp [numL]
  have ha := a.toNat_lt
  have hb := b.toNat_lt
  rw [h]
  show [UInt8.ofNat ((a.toNat * 256 + b.toNat) / 2 ^ 8), UInt8.ofNat ((a.toNat * 256 + b.toNat) / 2 ^ 0)] = _
  have e1 : UInt8.ofNat ((a.toNat * 256 + b.toNat) / 2 ^ 8) = a := by
    apply UInt8.toNat_inj.1
    rw [UInt8.toNat_ofNat']
    omega
  have e2 : UInt8.ofNat ((a.toNat * 256 + b.toNat) / 2 ^ 0) = b := by
    apply UInt8.toNat_inj.1
    rw [UInt8.toNat_ofNat']
    omega
  rw [e1, e2]
theorem two_big {l : List UInt8} (h : l.length = 2) : bigL (numL l) 2 = l := by
  match l, h with
  | [a, b], _ => exact big_two a b
theorem num_two {l : List UInt8} (h : l.length = 2) : numL l < 65536 := by
  match l, h with
  | [a, b], _ =>
    have ha := a.toNat_lt
    have hb := b.toNat_lt
    simp [numL]
    omega
theorem ba_cat (a b : List UInt8) : (ByteArray.mk a.toArray) ++ (ByteArray.mk b.toArray) = ⟨(a ++ b).toArray⟩ := by
  apply ByteArray.ext
  simp
theorem ba_size (a : List UInt8) : (ByteArray.mk a.toArray).size = a.length := by show a.toArray.size = _; simp
theorem ba_mk (s : ByteArray) : (ByteArray.mk s.data.toList.toArray) = s := by
  apply ByteArray.ext
  simp
end Go.Proofs.YtfficbpalibmoaaGreatDoor
/- A signature that is read: mathematics. -/
namespace Go.Proofs.YtfficbpalibmoaaGreatDoor
open Go.RowKit
set_option linter.unusedVariables false

theorem bigL_snoc (a n : Nat) (c : UInt8) : bigL (a * 256 + c.toNat) (n + 1) = bigL a n ++ [c] := by
  have hc := c.toNat_lt
  rw [bigL, List.range_succ, List.map_append, bigL]
  congr 1
  · apply List.map_congr_left
    intro i hi
    have hi' := List.mem_range.1 hi
    congr 1
    have e : n + 1 - 1 - i = (n - 1 - i) + 1 := by omega
    rw [e, Nat.mul_add, Nat.pow_add, Nat.mul_comm (2 ^ (8 * (n - 1 - i))), ← Nat.div_div_eq_div_mul]
    congr 1
    omega
  · simp only [List.map_cons, List.map_nil]
    congr 1
    apply UInt8.toNat_inj.1
    rw [UInt8.toNat_ofNat', show n + 1 - 1 - n = 0 by omega]
    omega

theorem big_num (l : List UInt8) : bigL (numL l) l.length = l := by
  have h : ∀ r : List UInt8, bigL (numL r.reverse) r.reverse.length = r.reverse := by
    intro r
    induction r with
    | nil => rfl
    | cons c r ih => rw [List.reverse_cons, numL_snoc, List.length_append, List.length_singleton, bigL_snoc, ih]
  have := h l.reverse
  rwa [List.reverse_reverse] at this
theorem big_numN {l : List UInt8} {n : Nat} (h : l.length = n) : bigL (numL l) n = l := by rw [← h]; exact big_num l

/-- what stands in a signature's data, of 61 bytes -/
def sT (d : List UInt8) : Nat := numL ((d.drop 13).take 6)
def sF (d : List UInt8) : Nat := numL ((d.drop 19).take 2)
def sS (d : List UInt8) : List UInt8 := (d.drop 23).take 32
def sI (d : List UInt8) : Nat := numL ((d.drop 55).take 2)

theorem cut_next (d : List UInt8) (a n : Nat) : d.drop a = (d.drop a).take n ++ d.drop (a + n) := by
  rw [← List.drop_drop, List.take_append_drop]
theorem dat_parts (d : List UInt8) : d.drop 13 = (d.drop 13).take 6 ++ ((d.drop 19).take 2 ++ ((d.drop 21).take 2 ++ ((d.drop 23).take 32 ++ ((d.drop 55).take 2 ++ d.drop 57)))) := by
  rw [← cut_next d 55 2, ← cut_next d 23 32, ← cut_next d 21 2, ← cut_next d 19 2, ← cut_next d 13 6]

theorem dat_iff {d a : List UInt8} (h : d.length = 61) (ha : a.length = 13) : a ++ d.drop 13 = datL (sT d) (sF d) (sS d) (sI d) ↔ a = algL ∧ (d.drop 21).take 2 = [0, 32] ∧ d.drop 57 = [0, 0, 0, 0] := by
  have e : datL (sT d) (sF d) (sS d) (sI d) = algL ++ ((d.drop 13).take 6 ++ ((d.drop 19).take 2 ++ ([0, 32] ++ ((d.drop 23).take 32 ++ ((d.drop 55).take 2 ++ [0, 0, 0, 0]))))) := by
    rw [datL, sT, sF, sI, sS, big_numN (by simp; omega), big_numN (by simp; omega), big_numN (by simp; omega), show bigL 32 2 = [0, 32] by decide]
    simp only [List.append_assoc]
  have hp := dat_parts d
  have hx : ((d.drop 21).take 2).length = 2 := by simp; omega
  rw [e]
  generalize (d.drop 13).take 6 = p6 at hp ⊢
  generalize (d.drop 19).take 2 = p2 at hp ⊢
  generalize (d.drop 21).take 2 = x2 at hp hx ⊢
  generalize (d.drop 23).take 32 = s32 at hp ⊢
  generalize (d.drop 55).take 2 = i2 at hp ⊢
  generalize d.drop 57 = z4 at hp ⊢
  rw [hp]
  constructor
  · intro hh
    obtain ⟨h1, hh⟩ := List.append_inj hh (by rw [ha]; rfl)
    obtain ⟨_, hh⟩ := List.append_inj hh rfl
    obtain ⟨_, hh⟩ := List.append_inj hh rfl
    obtain ⟨h2, hh⟩ := List.append_inj hh (by rw [hx]; rfl)
    obtain ⟨_, hh⟩ := List.append_inj hh rfl
    obtain ⟨_, hh⟩ := List.append_inj hh rfl
    exact ⟨h1, h2, hh⟩
  · rintro ⟨rfl, h2, h3⟩
    rw [h2, h3]
end Go.Proofs.YtfficbpalibmoaaGreatDoor
/- The forms of data: mathematics. -/
namespace Go.Proofs.YtfficbpalibmoaaGreatDoor.Dt
open Go.RowKit

def alnumB (c : UInt8) : Bool := (decide (48 ≤ c.toNat) && decide (c.toNat ≤ 57)) || ((decide (97 ≤ c.toNat) && decide (c.toNat ≤ 122)) || (decide (65 ≤ c.toNat) && decide (c.toNat ≤ 90)))

/-- The short text at the beginning, with its length; empty: there is none. -/
def txtS (s : ByteArray) : ByteArray :=
  if h : 0 < s.size then (if s[0].toNat + 1 ≤ s.size then s.extract 0 (s[0].toNat + 1) else ByteArray.empty) else ByteArray.empty

/-- The name at the beginning, from 'at' on; empty: there is none. -/
def nameF : Nat → ByteArray → Nat → ByteArray
  | 0, _, _ => ByteArray.empty
  | f + 1, s, i =>
    if h : i < s.size ∧ i < 255 then
      if s[i].toNat = 0 then s.extract 0 (i + 1)
      else if 63 < s[i].toNat then ByteArray.empty
      else nameF f s (i + s[i].toNat + 1)
    else ByteArray.empty

def nameAtS (s : ByteArray) : ByteArray := nameF 256 s 0

theorem nameF_enough : ∀ (f g : Nat) (s : ByteArray) (i : Nat), 255 < f + i → 255 < g + i → nameF f s i = nameF g s i := by
  intro f
  induction f with
  | zero =>
    intro g s i hf hg
    cases g with
    | zero => rfl
    | succ g => rw [nameF, nameF, dif_neg (by omega)]
  | succ f ih =>
    intro g s i hf hg
    cases g with
    | zero => rw [nameF, nameF, dif_neg (by omega)]
    | succ g =>
      rw [nameF, nameF]
      by_cases h : i < s.size ∧ i < 255
      · rw [dif_pos h, dif_pos h, ih g s _ (by omega) (by omega)]
      · rw [dif_neg h, dif_neg h]

def formS (t : Int) : ByteArray :=
  if t = 1 then ⟨#[98, 98, 98, 98]⟩
  else if t = 2 ∨ t = 5 ∨ t = 12 ∨ t = 39 then ⟨#[110]⟩
  else if t = 6 then ⟨#[110, 110, 98, 98, 98, 98, 98, 98, 98, 98, 98, 98, 98, 98, 98, 98, 98, 98, 98, 98, 98, 98]⟩
  else if t = 13 then ⟨#[116, 116]⟩
  else if t = 15 then ⟨#[98, 98, 110]⟩
  else if t = 16 then ⟨#[115]⟩
  else if t = 28 then ⟨#[98, 98, 98, 98, 98, 98, 98, 98, 98, 98, 98, 98, 98, 98, 98, 98]⟩
  else if t = 33 then ⟨#[98, 98, 98, 98, 98, 98, 110]⟩
  else if t = 35 then ⟨#[98, 98, 98, 98, 116, 116, 116, 110]⟩
  else if t = 47 then ⟨#[110, 109]⟩
  else if t = 257 then ⟨#[98, 99]⟩
  else ⟨#[42]⟩
end Go.Proofs.YtfficbpalibmoaaGreatDoor.Dt
/- Type maps, as plain mathematics. -/
namespace Go.Proofs.YtfficbpalibmoaaGreatDoor
open Go.RowKit
set_option linter.unusedVariables false

/-- Whether it is a type map whose first window comes behind 'last'. -/
def mapF : Nat → Int → ByteArray → Bool
  | 0, _, _ => true
  | f + 1, last, s =>
    if s.size = 0 then true
    else if h : 2 ≤ s.size then
      if h2 : last < (s[0].toNat : Int) ∧ 1 ≤ s[1].toNat ∧ s[1].toNat ≤ 32 ∧ s[1].toNat + 2 ≤ s.size then
        if s[s[1].toNat + 1].toNat = 0 then false else mapF f (s[0].toNat : Int) (s.extract (s[1].toNat + 2) s.size)
      else false
    else false

theorem mapF_enough : ∀ (f g : Nat) (last : Int) (s : ByteArray), s.size < f → s.size < g → mapF f last s = mapF g last s := by
  intro f
  induction f with
  | zero => intro g last s hf; omega
  | succ f ih =>
    intro g last s hf hg
    cases g with
    | zero => omega
    | succ g =>
      rw [mapF, mapF]
      by_cases h0 : s.size = 0
      · rw [if_pos h0, if_pos h0]
      rw [if_neg h0, if_neg h0]
      by_cases h : 2 ≤ s.size
      · rw [dif_pos h, dif_pos h]
        by_cases h2 : last < (s[0].toNat : Int) ∧ 1 ≤ s[1].toNat ∧ s[1].toNat ≤ 32 ∧ s[1].toNat + 2 ≤ s.size
        · rw [dif_pos h2, dif_pos h2]
          by_cases h3 : s[s[1].toNat + 1].toNat = 0
          · rw [if_pos h3, if_pos h3]
          · rw [if_neg h3, if_neg h3]
            have he : (s.extract (s[1].toNat + 2) s.size).size = s.size - (s[1].toNat + 2) := by simp
            exact ih g _ _ (by omega) (by omega)
        · rw [dif_neg h2, dif_neg h2]
      · rw [dif_neg h, dif_neg h]

def mapS (s : ByteArray) : Bool := mapF (s.size + 1) (-1) s

theorem map_end {f : Nat} {last : Int} {s : ByteArray} (h : s.size = 0) : mapF (f + 1) last s = true := by rw [mapF, if_pos h]
theorem map_one {f : Nat} {last : Int} {s : ByteArray} (h : s.size = 1) : mapF (f + 1) last s = false := by rw [mapF, if_neg (by omega), dif_neg (by omega)]
theorem map_no {f : Nat} {last : Int} {s : ByteArray} (h : 2 ≤ s.size) (h2 : ¬ (last < (s[0].toNat : Int) ∧ 1 ≤ s[1].toNat ∧ s[1].toNat ≤ 32 ∧ s[1].toNat + 2 ≤ s.size)) : mapF (f + 1) last s = false := by
  rw [mapF, if_neg (by omega), dif_pos h, dif_neg h2]
theorem map_zero {f : Nat} {last : Int} {s : ByteArray} (h : 2 ≤ s.size) (h2 : last < (s[0].toNat : Int) ∧ 1 ≤ s[1].toNat ∧ s[1].toNat ≤ 32 ∧ s[1].toNat + 2 ≤ s.size) (h3 : (s[s[1].toNat + 1]'(by omega)).toNat = 0) : mapF (f + 1) last s = false := by
  rw [mapF, if_neg (by omega), dif_pos h, dif_pos h2, if_pos h3]
theorem map_step {last : Int} {s : ByteArray} (h : 2 ≤ s.size) (h2 : last < (s[0].toNat : Int) ∧ 1 ≤ s[1].toNat ∧ s[1].toNat ≤ 32 ∧ s[1].toNat + 2 ≤ s.size) (h3 : (s[s[1].toNat + 1]'(by omega)).toNat ≠ 0) :
    mapF (s.size + 1) last s = mapF ((s.extract (s[1].toNat + 2) s.size).size + 1) (s[0].toNat : Int) (s.extract (s[1].toNat + 2) s.size) := by
  rw [mapF, if_neg (by omega), dif_pos h, dif_pos h2, if_neg h3]
  have he : (s.extract (s[1].toNat + 2) s.size).size = s.size - (s[1].toNat + 2) := by simp
  exact mapF_enough _ _ _ _ (by omega) (by omega)

theorem not_empty {s : ByteArray} (h : 0 < s.size) : (s.toList == []) = false ∧ (s.toList != []) = true := by
  have : s.toList ≠ [] := by
    rw [ByteArray.toList_eq]
    intro e
    have h9 := congrArg List.length e
    rw [Array.length_toList] at h9
    have h8 : s.size = 0 := h9
    omega
  simp [this]

theorem ba_empty {s : ByteArray} (h : s.size = 0) : s = ⟨#[]⟩ := by
  apply ByteArray.ext
  exact Array.eq_empty_of_size_eq_zero h
theorem beq_empty {s : ByteArray} (h : s.size = 0) : (s.toList == []) = true ∧ (s.toList != []) = false := by
  have : s.toList = [] := List.length_eq_zero_iff.1 (by rw [Nm.tl_len]; exact h)
  simp [this]

end Go.Proofs.YtfficbpalibmoaaGreatDoor
/- Folding, and the order of texts, as plain mathematics. -/
namespace Go.Proofs.YtfficbpalibmoaaGreatDoor.Nm
open Go.RowKit

def low (c : UInt8) : UInt8 := if 65 ≤ c.toNat ∧ c.toNat ≤ 90 then UInt8.ofNat (c.toNat + 32) else c
def smallL (l : List UInt8) : List UInt8 := l.map low
def small (s : ByteArray) : ByteArray := ⟨(smallL s.data.toList).toArray⟩

theorem low_up {c : UInt8} (h : 65 ≤ c.toNat ∧ c.toNat ≤ 90) : ((low c).toNat : Int) = (c.toNat : Int) + 32 := by
  rw [low, if_pos h]; simp; omega
theorem low_id {c : UInt8} (h : ¬ (65 ≤ c.toNat ∧ c.toNat ≤ 90)) : low c = c := by rw [low, if_neg h]

theorem small_data (s : ByteArray) : (small s).data.toList = smallL s.data.toList := by simp [small]
theorem small_size (s : ByteArray) : (small s).size = s.size := by
  have : (small s).data.toList.length = s.data.toList.length := by rw [small_data]; simp [smallL]
  simpa using this

theorem ba_ext {a b : ByteArray} (h : a.data.toList = b.data.toList) : a = b := by
  apply ByteArray.ext
  exact Array.toList_inj.1 h

theorem smallL_step {l : List UInt8} {k : Nat} {c : UInt8} (h : l[k]? = some c) : smallL (l.take (k + 1)) = smallL (l.take k) ++ [low c] := by
  rw [take_step h]; simp [smallL]

theorem get_data {x : ByteArray} {j : Nat} (h : j < x.size) : x.data.toList[j]? = some x[j] := by
  rw [List.getElem?_eq_getElem (by simpa using h)]; rfl

/-! What 'split' gives back, put together again. -/

theorem cut_data (r : ByteArray) (h : 0 < r.size) (n : Nat) :
    r.data.toList = r[0] :: ((r.extract 1 (n + 1)).data.toList ++ (r.extract (n + 1) r.size).data.toList) := by
  have e0 : r.data.toList = r[0] :: r.data.toList.drop 1 := by
    have hl : 0 < r.data.toList.length := by simpa using h
    have := List.drop_eq_getElem_cons (i := 0) hl
    rw [List.drop_zero] at this
    exact this
  rw [e0]
  congr 1
  have e1 : (r.extract 1 (n + 1)).data.toList = (r.data.toList.drop 1).take n := by simp
  have e2 : (r.extract (n + 1) r.size).data.toList = (r.data.toList.drop 1).drop n := by
    simp only [ByteArray.data_extract, Array.toList_extract, List.drop_drop]
    rw [List.extract_eq_take_drop, List.take_of_length_le (by simp)]
    congr 1
    omega
  rw [e1, e2, List.take_append_drop]

theorem splitF_join : ∀ (f : Nat) (r : ByteArray) (ls : List ByteArray), splitF f r = some ls → joinL ls = r.data.toList ∧ ∀ x ∈ ls, 1 ≤ x.size ∧ x.size ≤ 63 := by
  intro f
  induction f with
  | zero => intro r ls h; simp [splitF] at h
  | succ f ih =>
    intro r ls h
    by_cases hp : 0 < r.size
    · by_cases h0 : r[0].toNat = 0
      · by_cases h1 : r.size = 1
        · rw [splitF_end f r hp h0 h1] at h
          simp at h
          subst h
          refine ⟨?_, by simp⟩
          have e := cut_data r hp 0
          have z : r[0] = 0 := UInt8.toNat_inj.1 (by simpa using h0)
          rw [e, z]
          have e1 : (r.extract 1 (0 + 1)).data.toList = [] := by simp
          have e2 : (r.extract (0 + 1) r.size).data.toList = [] := by simp [h1]
          rw [e1, e2]; rfl
        · rw [splitF_zero f r hp h0 h1] at h; simp at h
      · by_cases h1 : 63 < r[0].toNat ∨ r.size < r[0].toNat + 1
        · rw [splitF_bad f r hp h0 h1] at h; simp at h
        · rw [splitF_step f r hp h0 (by omega) (by omega)] at h
          cases e : splitF f (r.extract (r[0].toNat + 1) r.size) with
          | none => rw [e] at h; simp at h
          | some t =>
            rw [e] at h
            simp at h
            obtain ⟨i1, i2⟩ := ih _ _ e
            have hsz : (r.extract 1 (r[0].toNat + 1)).size = r[0].toNat := by simp; omega
            rw [← h]
            constructor
            · rw [cut_data r hp r[0].toNat, ← i1]
              simp only [joinL, preL, hsz]
              simp
            · intro x hx
              rcases List.mem_cons.1 hx with rfl | hx
              · rw [hsz]; omega
              · exact i2 x hx
    · rw [splitF_empty _ r (by omega)] at h; simp at h

theorem split_join {s : ByteArray} {ls : List ByteArray} (h : split s = some ls) : joinL ls = s.data.toList ∧ ∀ x ∈ ls, 1 ≤ x.size ∧ x.size ≤ 63 := by
  by_cases hl : s.size ≤ 255
  · rw [split_short s hl] at h
    exact splitF_join _ _ _ h
  · rw [split_long s (by omega)] at h; simp at h

theorem low_len {n : Nat} (h : n ≤ 63) : low (UInt8.ofNat n) = UInt8.ofNat n := by
  apply low_id
  simp; omega

theorem preL_small (ls : List ByteArray) (h : ∀ x ∈ ls, x.size ≤ 63) : preL (ls.map small) = smallL (preL ls) := by
  induction ls with
  | nil => rfl
  | cons x r ih =>
    have hx := h x (List.mem_cons_self)
    have := ih (fun y hy => h y (List.mem_cons_of_mem _ hy))
    simp only [List.map_cons, preL, small_size, small_data, this]
    simp [smallL, low_len hx]

theorem joinL_small {s : ByteArray} {ls : List ByteArray} (h : split s = some ls) : (⟨(joinL (ls.map small)).toArray⟩ : ByteArray) = small s := by
  obtain ⟨h1, h2⟩ := split_join h
  apply ba_ext
  rw [small_data, ← h1]
  simp only [joinL]
  rw [preL_small ls (fun x hx => (h2 x hx).2)]
  simp [smallL, low]

theorem wsum_small (ls : List ByteArray) : wsum (ls.map small) = wsum ls := by
  induction ls with
  | nil => rfl
  | cons x r ih => simp only [List.map_cons, wsum, small_size, ih]

def foldS (s : ByteArray) : ByteArray := if (split s).isSome then small s else ByteArray.empty
theorem foldS_none {s : ByteArray} (h : split s = none) : foldS s = ByteArray.empty := by simp [foldS, h]
theorem foldS_some {s : ByteArray} {ls : List ByteArray} (h : split s = some ls) : foldS s = small s := by simp [foldS, h]

end Go.Proofs.YtfficbpalibmoaaGreatDoor.Nm
