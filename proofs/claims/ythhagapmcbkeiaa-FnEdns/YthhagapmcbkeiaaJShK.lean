import Derived.Test.YthhagapmcbkeiaaJMath
import Derived.Deep.WholeRow
import Derived.RegionTactic
import Derived.BigRegion
import Derived.Laws.IdiomCopy
import Derived.Laws.CopyOwn
import Derived.Laws.OwnMore
/- spec.l09K by its contract. -/
namespace Go.Proofs.Ythhagapmcbkeiaa
open Go.RowKit
set_option linter.unusedVariables false

theorem KL_arr : (#[.int .u32 1116352408, .int .u32 1899447441, .int .u32 3049323471, .int .u32 3921009573, .int .u32 961987163, .int .u32 1508970993, .int .u32 2453635748, .int .u32 2870763221, .int .u32 3624381080, .int .u32 310598401, .int .u32 607225278, .int .u32 1426881987, .int .u32 1925078388, .int .u32 2162078206, .int .u32 2614888103, .int .u32 3248222580, .int .u32 3835390401, .int .u32 4022224774, .int .u32 264347078, .int .u32 604807628, .int .u32 770255983, .int .u32 1249150122, .int .u32 1555081692, .int .u32 1996064986, .int .u32 2554220882, .int .u32 2821834349, .int .u32 2952996808, .int .u32 3210313671, .int .u32 3336571891, .int .u32 3584528711, .int .u32 113926993, .int .u32 338241895, .int .u32 666307205, .int .u32 773529912, .int .u32 1294757372, .int .u32 1396182291, .int .u32 1695183700, .int .u32 1986661051, .int .u32 2177026350, .int .u32 2456956037, .int .u32 2730485921, .int .u32 2820302411, .int .u32 3259730800, .int .u32 3345764771, .int .u32 3516065817, .int .u32 3600352804, .int .u32 4094571909, .int .u32 275423344, .int .u32 430227734, .int .u32 506948616, .int .u32 659060556, .int .u32 883997877, .int .u32 958139571, .int .u32 1322822218, .int .u32 1537002063, .int .u32 1747873779, .int .u32 1955562222, .int .u32 2024104815, .int .u32 2227730452, .int .u32 2361852424, .int .u32 2428436474, .int .u32 2756734187, .int .u32 3204031479, .int .u32 3329325298] : Array Value) = (KL.map fun n => Value.int .u32 ((n : Nat) : Int)).toArray := rfl
theorem KL_small : ∀ n ∈ KL, n < 4294967296 := by decide
theorem KW_at {i : Nat} (h : i < 64) : (KL.map fun n => Value.int .u32 ((n : Nat) : Int)).toArray[i]? = some (.int .u32 ((KW i).toNat : Int)) := by
  have hl : i < KL.length := h
  have h1 : KL[i]? = some KL[i] := List.getElem?_eq_getElem hl
  have h2 := KL_small _ (List.getElem_mem hl)
  have h3 : (KW i).toNat = KL[i] := by
    rw [KW, h1]
    show (BitVec.ofNat 32 KL[i]).toNat = _
    rw [BitVec.toNat_ofNat]
    exact Nat.mod_eq_of_lt h2
  rw [h3]
  simp [h1]

theorem wpList_store_new {P : Program} {ops : Array Oper} {rest : List Oper} {o : Oper} {a : Act} {Q : Exit → Act → World → Prop} (w : World) (hgd : o.guard = none) (p x : Operand) (t : TypeId) (ho : o.op = .store t p x) (hdst : o.dst = none)
    (c c' : Array Value) (hp : a.eval p = .pointer (some ⟨w.heap.size, 0, none⟩)) (hx : a.eval x = .agg c') (hi : (P.info? t).map (·.size) = some c'.size) (hs : c.size = c'.size) (h1 : c'.all (·.oneCell') = true)
    (h : wpList P ops Q rest a (w.alloc (.cells c' t))) : wpList P ops Q (o :: rest) a (w.alloc (.cells c t)) :=
  wpList_plain hgd fun _ hK => by
    unfold Oper.wp execOp
    have hr := run_storeAt_new (P := P) w t c c' hi hs h1
    simp only [ho, hp, hx, Sem.run_bind, Sem.run_pure, hr, Result.andThen_ok]
    have e : a.put o.dst undef = a := by rw [hdst]; rfl
    refine hK _ _ ?_
    rw [e]
    exact h

theorem K_list {i : Nat} (h : i < 64) : (KL.map fun n => Value.int .u32 ((n : Nat) : Int))[i]'(by simpa [KL] using h) = .int .u32 ((KW i).toNat : Int) := by
  have := KW_at h
  rw [List.getElem?_toArray, List.getElem?_eq_getElem (by simpa [KL] using h)] at this
  exact Option.some.inj this

end Go.Proofs.Ythhagapmcbkeiaa
/- Rows of one's own beside what is written. -/
namespace Go.Proofs.Ythhagapmcbkeiaa
open Go.RowKit
set_option linter.unusedVariables false

theorem own_sl {w : World} {B e s n : Nat} {v : Value} {xs : List Value} (h : w.ownsRow B e s v n xs) : ∃ a cap, v = .slice a n cap := by
  rcases h.2 with ⟨rfl, rfl⟩ | ⟨g, cap, cur, rfl, _⟩
  · exact ⟨_, _, rfl⟩
  · exact ⟨_, _, rfl⟩

theorem own_far {W : World} {B e s n g i : Nat} {v y : Value} {xs : List Value} (h : W.ownsRow B e s v n xs) (hg : v.ownBlock ≠ some g) : (W.setCell ⟨g, i, none⟩ y).ownsRow B e s v n xs := by
  refine ⟨h.1, ?_⟩
  rcases h.2 with h0 | ⟨g', cap, cur, rfl, hb, hh, r⟩
  · exact .inl h0
  · refine .inr ⟨g', cap, cur, rfl, hb, ?_, r⟩
    rw [heap_setCell_other W ⟨g, i, none⟩ g' _ (fun e => hg (by simp [Value.ownBlock, e]))]
    exact hh

theorem own_far_lt {W : World} {B e s n g i : Nat} {v y : Value} {xs : List Value} (h : W.ownsRow B e s v n xs) (hg : g < B) : (W.setCell ⟨g, i, none⟩ y).ownsRow B e s v n xs := by
  refine own_far h (fun e => ?_)
  have := (h.lt g e).1
  omega

theorem own_ne {W : World} {B e s n B' e' s' m g cap : Nat} {v : Value} {xs ys : List Value} (h : W.ownsRow B e s v n xs) (h' : W.ownsRow B' e' s' (.slice (some ⟨g, 0, none⟩) m cap) m ys) (hne : e ≠ e') : v.ownBlock ≠ some g := by
  intro he
  rcases h'.2 with ⟨h0, _⟩ | ⟨g', cap', cur', e1, _, hh', _⟩
  · cases h0
  · cases e1
    rcases h.2 with ⟨rfl, _⟩ | ⟨g2, cap2, cur2, rfl, _, hh, _⟩
    · cases he
    · simp only [Value.ownBlock, Option.some.injEq] at he
      subst he
      rw [hh] at hh'
      simp only [Option.some.injEq, Obj.cells.injEq] at hh'
      exact hne hh'.2.1
end Go.Proofs.Ythhagapmcbkeiaa
/- The loops of spec.Sha256, taken out of its text. -/
namespace Go.Proofs.Ythhagapmcbkeiaa
open Go.RowKit
set_option linter.unusedVariables false

def loopsOf : Code → List Code
  | .loop c => [c]
  | .seq a b => loopsOf a ++ loopsOf b
  | .block _ c => loopsOf c
  | .scope c => loopsOf c
  | .cond _ a b => loopsOf a ++ loopsOf b
  | _ => []
def sndS : Code → Code
  | .seq _ b => b
  | c => c
def fstS : Code → Code
  | .seq a _ => a
  | c => c
theorem w_shl24 (x : Wd) : (x.toNat : Int) * (16777216 : Int) % (4294967296 : Int) = ((x <<< 24).toNat : Int) := w_shl x 24
theorem w_shl16 (x : Wd) : (x.toNat : Int) * (65536 : Int) % (4294967296 : Int) = ((x <<< 16).toNat : Int) := w_shl x 16
theorem w_shl8 (x : Wd) : (x.toNat : Int) * (256 : Int) % (4294967296 : Int) = ((x <<< 8).toNat : Int) := w_shl x 8
theorem w_shr3 (x : Wd) : (x.toNat : Int) / (8 : Int) = ((x >>> 3).toNat : Int) := w_shr x 3
theorem w_shr10 (x : Wd) : (x.toNat : Int) / (1024 : Int) = ((x >>> 10).toNat : Int) := w_shr x 10
theorem w_add4 (a b c d : Wd) : ((a.toNat : Int) + (b.toNat : Int) + (c.toNat : Int) + (d.toNat : Int)) % (4294967296 : Int) = ((a + b + c + d).toNat : Int) := by
  rw [← w_add, ← w_add, ← w_add]
  omega
theorem u32_wrap_any (x : Int) : IntKind.u32.wrap x = x % 4294967296 := by
  simp only [IntKind.wrap, IntKind.bits, IntKind.signed]
  simp
theorem wr_add (x y : Wd) : IntKind.u32.wrap ((x.toNat : Int) + (y.toNat : Int)) = ((x + y).toNat : Int) := by rw [u32_wrap_any, w_add]
theorem w_not (x : Wd) : bits .xor .u32 IntKind.u32.max (x.toNat : Int) = ((~~~x).toNat : Int) := by
  have h := w_xor (BitVec.allOnes 32) x
  have e : ((BitVec.allOnes 32).toNat : Int) = IntKind.u32.max := by decide
  rw [e, BitVec.allOnes_xor] at h
  exact h
/-- Block p alone has been written, others may have been made. -/
structure Only (p : Nat) (w w' : World) : Prop where
  os : w'.os = w.os
  tape : w'.tape = w.tape
  output : w'.output = w.output
  size : w.heap.size ≤ w'.heap.size
  block : ∀ k, k < w.heap.size → k ≠ p → w'.heap[k]? = w.heap[k]?
theorem Only.refl (p : Nat) (w : World) : Only p w w := ⟨rfl, rfl, rfl, Nat.le_refl _, fun _ _ _ => rfl⟩
theorem Only.drew {p : Nat} {w w' : World} (h : Only p w w') : Only p w w'.drew := ⟨h.os, h.tape, h.output, h.size, h.block⟩
theorem Only.then {p q : Nat} {w w1 w2 : World} (h : Only p w w1) (h2 : Only q w1 w2) (hq : q = p ∨ w.heap.size ≤ q) : Only p w w2 :=
  ⟨h2.os.trans h.os, h2.tape.trans h.tape, h2.output.trans h.output, Nat.le_trans h.size h2.size, fun k hk hp => (h2.block k (Nat.lt_of_lt_of_le hk h.size) (by rcases hq with rfl | hq <;> omega)).trans (h.block k hk hp)⟩
theorem Only.more {p : Nat} {w w1 w2 : World} (h : Only p w w1) (h2 : Below w1.heap.size w1 w2) : Only p w w2 :=
  ⟨h2.os.trans h.os, h2.tape.trans h.tape, h2.output.trans h.output, Nat.le_trans h.size h2.size, fun k hk hp => (h2.block k (Nat.lt_of_lt_of_le hk h.size)).trans (h.block k hk hp)⟩
theorem Only.alloc {p : Nat} {w w' : World} (h : Only p w w') (o : Obj) : Only p w (w'.alloc o) := h.more ((Below.refl _ _).alloc (Nat.le_refl _) o)
theorem Only.set {p i : Nat} {w w' : World} {v : Value} (h : Only p w w') : Only p w (w'.setCell ⟨p, i, none⟩ v) := by
  have h1 := (Below.refl 0 w').setCell (p := ⟨p, i, none⟩) (Nat.zero_le _) v
  refine ⟨h1.os.trans h.os, h1.tape.trans h.tape, h1.output.trans h.output, Nat.le_trans h.size h1.size, fun k hk hp => ?_⟩
  rw [Below.heap_setCell _ _ _ _ hp]
  exact h.block k hk hp
theorem Only.blk {p b : Nat} {w w' : World} {cs : Array Value} {T : TypeId} (h : Only p w w') (hb : Blk w b cs T) (hne : b ≠ p) : Blk w' b cs T := (h.block b (blk_lt hb) hne).trans hb
theorem Only.cell {p : Nat} {w w' : World} {b i : Nat} {v : Value} (h : Only p w w') (hne : b ≠ p) (hc : w.cell? ⟨b, i, none⟩ = some v) : w'.cell? ⟨b, i, none⟩ = some v :=
  (World.cell?_of_block (w := w) (h.block b (World.block_lt_of_cell? w _ hc) hne)).trans hc
theorem Only.below {p B : Nat} {w0 w w' : World} (h : Only p w w') (hb : Below B w0 w) (hp : B ≤ p) (hB : B ≤ w.heap.size) : Below B w0 w' :=
  ⟨h.os.trans hb.os, h.tape.trans hb.tape, h.output.trans hb.output, Nat.le_trans hb.size h.size, fun k hk => (h.block k (by omega) (by omega)).trans (hb.block k hk)⟩
theorem Only.from_below {p : Nat} {w w' : World} (h : Below w.heap.size w w') : Only p w w' := (Only.refl p w).more h

theorem all_rep (n : Nat) : (Array.replicate n (Value.int .u32 0)).all (·.oneCell') = true := Array.all_eq_true_iff_forall_mem.2 (fun v hv => by rw [(Array.mem_replicate.1 hv).2]; rfl)
/-- A whole variable is read. -/
theorem wpList_load_blk {P : Program} {ops : Array Oper} {rest : List Oper} {o : Oper} {a : Act} {w : World} {Q : Exit → Act → World → Prop} (p : Operand) (t : TypeId) (hgd : o.guard = none) (ho : o.op = .load t p) (b : Nat) (cs : Array Value) (d : TypeDesc) (hk : Blk w b cs t)
    (hp : a.eval p = .pointer (some ⟨b, 0, none⟩)) (hu : P.underlying t = some d) (hd : (match d with | .struct _ | .array _ _ => true | _ => false) = true) (hi : (P.info? t).map (·.size) = some cs.size)
    (h : wpList P ops Q rest (a.put o.dst (.agg cs)) w) : wpList P ops Q (o :: rest) a w :=
  wpList_plain hgd fun _ hK => by
    unfold Oper.wp execOp
    simp only [ho, hp, Instr.loadAt, Instr.sureAddr, Sem.run_bind, Sem.run_pure, Result.andThen_ok, run_loadVar_row w b t t cs (0, 0) d hk hu hd hi]
    exact hK _ _ h
theorem run_results_cell {P : Program} {fn : Func} {tmps : Array Value} {w : World} {r : Nat} {t : TypeId} {p : Nat} {cs : Array Value} {n : Nat} {e : TypeId} (hf : fn.results = #[.cell r t]) (ht : tmps[r]?.getD undef = .pointer (some ⟨p, 0, none⟩)) (hk : Blk w p cs t)
    (hu : P.underlying t = some (.array n e)) (hi : (P.info? t).map (·.size) = some cs.size) : (results fn tmps).run P w = .ok (.agg cs) w := by
  have hl := run_loadVar_row w p t t cs (0, 0) (.array n e) hk hu rfl hi
  simp [results, hf, ht, asAddr, hl]
theorem Only.setRow {b : Nat} {w : World} {c : Array Value} : Only b w (w.setRow b c) := by
  refine ⟨rfl, rfl, rfl, ?_, fun k hk hp => ?_⟩
  · simp [World.setRow]
  · simp only [World.setRow]
    rw [Array.getElem?_modify]
    rw [if_neg (Ne.symm hp)]
theorem blk_setRow {b : Nat} {w : World} {c c' : Array Value} {t : TypeId} (h : Blk w b c t) : Blk (w.setRow b c') b c' t := by
  show (World.setRow w b c').heap[b]? = _
  simp only [World.setRow]
  rw [Array.getElem?_modify, if_pos rfl, show w.heap[b]? = some (.cells c t (0, 0)) from h]
  rfl
/-- A whole variable is written. -/
theorem wpList_store_blk {P : Program} {ops : Array Oper} {rest : List Oper} {o : Oper} {a : Act} {w : World} {Q : Exit → Act → World → Prop} (p x : Operand) (t : TypeId) (hgd : o.guard = none) (ho : o.op = .store t p x) (hdst : o.dst = none) (b : Nat) (c c' : Array Value) (hk : Blk w b c t)
    (hp : a.eval p = .pointer (some ⟨b, 0, none⟩)) (hx : a.eval x = .agg c') (hi : (P.info? t).map (·.size) = some c'.size) (hs : c.size = c'.size) (h1 : c'.all (·.oneCell') = true)
    (h : ∀ w', Blk w' b c' t → Only b w w' → wpList P ops Q rest a w') : wpList P ops Q (o :: rest) a w :=
  wpList_plain hgd fun _ hK => by
    unfold Oper.wp execOp
    simp only [ho, hp, hx, Instr.storeAt, Instr.sureAddr, Sem.run_bind, Sem.run_pure, Result.andThen_ok, run_storeVar_row w b t t c c' hk hi hs h1]
    have e : a.put o.dst undef = a := by rw [hdst]; rfl
    refine hK _ _ ?_
    rw [e]
    exact h _ (blk_setRow hk) Only.setRow
end Go.Proofs.Ythhagapmcbkeiaa
/- Copies into a variable of one's own. -/
namespace Go.Proofs.Ythhagapmcbkeiaa
open Go.RowKit
set_option linter.unusedVariables false

/-- Values laid into an array from a place on. -/
def spl (cs : Array Value) : Nat → List Value → Array Value
  | _, [] => cs
  | o, v :: r => spl (cs.setIfInBounds o v) (o + 1) r
theorem spl_size : ∀ (vs : List Value) (cs : Array Value) (o : Nat), (spl cs o vs).size = cs.size
  | [], _, _ => rfl
  | v :: r, cs, o => by rw [spl, spl_size r]; simp
theorem blk_setCells {b : Nat} {T : TypeId} : ∀ (vs : List Value) (o : Nat) (cs : Array Value) (w : World), Blk w b cs T → Blk (w.setCells b o vs) b (spl cs o vs) T
  | [], _, _, _, h => h
  | v :: r, o, cs, w, h => blk_setCells r (o + 1) _ _ (blk_set h o v)
theorem only_setCells {b : Nat} {w0 : World} : ∀ (vs : List Value) (o : Nat) (w : World), Only b w0 w → Only b w0 (w.setCells b o vs)
  | [], _, _, h => h
  | v :: r, o, w, h => only_setCells r (o + 1) _ h.set
def bytesV (S : ByteArray) : List Value := S.data.toList.map fun c => .int .u8 (c.toNat : Int)

theorem run_copy_str {P : Program} (w : World) (dT sT ty elem T : TypeId) (b o dLen dCap : Nat) (S : ByteArray) (cs : Array Value) (hk : Blk w b cs T)
    (hu : P.underlying dT = some (.slice elem)) (hs : (P.info? elem).map (·.size) = some 1) (h2 : S.size ≤ dLen) (hfit : o + S.size ≤ cs.size) :
    (Builtin.copy_ #[dT, sT] ty #[.slice (some ⟨b, o, none⟩) dLen dCap, .string S]).run P w = .ok (goInt S.size) (w.setCells b o (bytesV S)) := by
  have hlv : (bytesV S).length = S.size := by simp [bytesV]
  have hst := run_storeCells_cells (P := P) b o (bytesV S) 0 w
    (by intro j hj; rw [Nat.add_zero, blk_cell hk (o + j), Array.getElem?_eq_getElem (by omega)]; rfl)
    (by intro j hj; rw [Nat.add_zero]; exact blk_frozen hk _)
    (by intro v hv; simp only [bytesV, List.mem_map] at hv; obtain ⟨c, _, rfl⟩ := hv; rfl)
  have hmin : Nat.min S.size dLen = S.size := Nat.min_eq_left h2
  have hcl : ((S.extract 0 S.size).data.map fun b => (Value.int .u8 (b.toNat : Int))) = (bytesV S).toArray := by
    have e : S.extract 0 S.size = S := by
      apply ByteArray.ext
      simp
    rw [e]
    apply Array.toList_inj.1
    simp [bytesV]
  cases hq : P.info? elem with
  | none => simp [hq] at hs
  | some i =>
    have hi : i.size = 1 := by simpa [hq] using hs
    have hst2 : (storeCells ⟨b, o, none⟩ (bytesV S)).run P w = .ok () (w.setCells b o (bytesV S)) := by simpa using hst
    have hsz2 : ∀ W : World, (Builtin.firstCells 1 S.size (.string S)).run P W = .ok (bytesV S).toArray W := fun W => by rw [← hcl]; rfl
    have hlen : ∀ W : World, (Builtin.lenOf (.string S)).run P W = .ok S.size W := fun W => rfl
    simp [Builtin.copy_, run_underlying hu, hlen, hmin, sizeOf, typeInfo, hq, hi, hsz2, hst2]

theorem step_copy_str {P : Program} {ops : Array Oper} {o : Oper} {a : Act} {w : World} {K : Act → World → Prop} {Q : Exit → Act → World → Prop} {E : Prop} (hgd : o.guard = none) (d s : Operand) (dT sT : TypeId)
    (ho : o.op = .call { callee := .builtin .copy, args := #[d, s], argTypes := #[dT, sT] }) (elem : TypeId) (hu : P.underlying dT = some (.slice elem)) (hsz : (P.info? elem).map (·.size) = some 1)
    (b off dLen dCap : Nat) (hd : a.eval d = .slice (some ⟨b, off, none⟩) dLen dCap) (S : ByteArray) (hs : a.eval s = .string S) (cs : Array Value) (T : TypeId) (hk : Blk w b cs T) (h2 : S.size ≤ dLen) (hfit : off + S.size ≤ cs.size)
    (h : ∀ w', Blk w' b (spl cs off (bytesV S)) T → Only b w w' → K (a.put o.dst (goInt S.size)) w') :
    if Region.wanted o (yielded ops a.tmps) = true then Oper.wp P o a w K Q else E := by
  have hw : Region.wanted o (yielded ops a.tmps) = true := by simp [Region.wanted, hgd]
  rw [if_pos hw]
  have hrun := run_copy_str (P := P) w dT sT o.type elem T b off dLen dCap S cs hk hu hsz h2 hfit
  unfold Oper.wp
  simp [execOp, ho, resolve, invoke, builtin, hd, hs, hrun, Result.andThen]
  exact h _ (blk_setCells _ _ _ _ hk) (only_setCells _ _ _ (Only.refl _ _))

theorem wpList_copy_blk {P : Program} {w : World} {ops : Array Oper} {rest : List Oper} {o : Oper} {a : Act} {Q : Exit → Act → World → Prop} (hgd : o.guard = none) (d s : Operand) (dT sT : TypeId)
    (ho : o.op = .call { callee := .builtin .copy, args := #[d, s], argTypes := #[dT, sT] }) (elem : TypeId) (hu : P.underlying dT = some (.slice elem)) (hsz : (P.info? elem).map (·.size) = some 1)
    (g off dLen dCap : Nat) (sp : Option Addr) (sLen sCap : Nat) (hd : a.eval d = .slice (some ⟨g, off, none⟩) dLen dCap) (hs : a.eval s = .slice sp sLen sCap)
    (cur : Array Value) (t : TypeId) (hg : Blk w g cur t) (cs : List Value) (hn : cs.length = Nat.min sLen dLen)
    (hsrc : 0 < cs.length → ∃ ad, sp = some ad ∧ ∀ j v, cs[j]? = some v → w.cell? (ad.add j) = some v) (hfit : off + cs.length ≤ cur.size) (h1 : ∀ v ∈ cs, v.oneCell' = true)
    (h : ∀ w', Blk w' g (splice cur.toList off cs).toArray t → Only g w w' → wpList P ops Q rest (a.put o.dst (goInt cs.length)) w') : wpList P ops Q (o :: rest) a w := by
  by_cases h0 : cs.length = 0
  · obtain rfl : cs = [] := List.eq_nil_of_length_eq_zero h0
    refine wpList_copy_nothing hgd d s dT sT ho elem hu hsz _ sp dLen dCap sLen sCap hd hs (by simpa using hn.symm) ?_
    exact h w (by simpa [splice] using hg) (Only.refl _ _)
  · obtain ⟨ad, rfl, hsrc2⟩ := hsrc (by omega)
    refine wpList_copy_own hgd d s dT sT ho elem hu hsz g off dLen dCap ad sLen sCap hd hs cur t hg cs hn hsrc2 hfit h1 ?_
    exact h _ (blk_setRow hg) Only.setRow

/-- A whole variable of the package is read. -/
theorem wpList_load_glob {P : Program} {ops : Array Oper} {rest : List Oper} {o : Oper} {a : Act} {w : World} {Q : Exit → Act → World → Prop} (p : Operand) (t : TypeId) (hgd : o.guard = none) (ho : o.op = .load t p) (b : Nat) (cs : Array Value) (t0 : TypeId) (fr : Nat × Nat) (n : Nat) (e : TypeId) (hk : w.heap[b]? = some (.cells cs t0 fr))
    (hp : a.eval p = .pointer (some ⟨b, 0, none⟩)) (hu : P.underlying t = some (.array n e)) (hi : (P.info? t).map (·.size) = some cs.size)
    (h : wpList P ops Q rest (a.put o.dst (.agg cs)) w) : wpList P ops Q (o :: rest) a w :=
  wpList_plain hgd fun _ hK => by
    unfold Oper.wp execOp
    simp only [ho, hp, Instr.loadAt, Instr.sureAddr, Sem.run_bind, Sem.run_pure, Result.andThen_ok, run_loadVar_row w b t0 t cs fr (.array n e) hk hu rfl hi]
    exact hK _ _ h
end Go.Proofs.Ythhagapmcbkeiaa
/- impl.bigBytes at any width by its contract. -/
namespace Go.Proofs.Ythhagapmcbkeiaa
open Go.RowKit
set_option linter.unusedVariables false

def bigL (v n : Nat) : List UInt8 := (List.range n).map fun i => UInt8.ofNat (v / 2 ^ (8 * (n - 1 - i)))
def bigM (v n j : Nat) : List Value := (List.range n).map fun i => if i < j then .int .u8 ((UInt8.ofNat (v / 2 ^ (8 * (n - 1 - i)))).toNat : Int) else .int .u8 0
theorem bigM_zero (v n : Nat) : bigM v n 0 = List.replicate n (.int .u8 0) := by
  simp only [bigM, Nat.not_lt_zero, if_false]
  rw [List.map_const', List.length_range]
theorem bigM_all (v n : Nat) : bigM v n n = Nm.bys (bigL v n) := by
  simp only [bigM, bigL, Nm.bys, List.map_map]
  apply List.map_congr_left
  intro i hi
  simp [List.mem_range.1 hi]
theorem bigM_set {v n j : Nat} (h : j < n) : (bigM v n j).set j (.int .u8 ((UInt8.ofNat (v / 2 ^ (8 * (n - 1 - j)))).toNat : Int)) = bigM v n (j + 1) := by
  apply List.ext_getElem?
  intro i
  rw [List.getElem?_set]
  by_cases hi : j = i
  · subst hi
    simp [bigM, h]
  · rw [if_neg hi]
    by_cases hn : i < n
    · simp only [bigM, List.getElem?_map, List.getElem?_range hn, Option.map_some]
      by_cases h1 : i < j
      · rw [if_pos h1, if_pos (by omega)]
      · rw [if_neg h1, if_neg (by omega)]
    · simp [bigM, hn]

set_option maxRecDepth 100000 in
set_option maxHeartbeats 1600000 in
theorem bigBytesN_any (v n : Nat) (w : World) (hv : v ≤ 4611686018427387904) (hn1 : 1 ≤ n) (hn : n ≤ 8) :
    Calls Try.prog 29 #[.int .i64 (v : Int), .int .i64 (n : Int)] w fun e w' => e = .returned (.string ⟨(bigL v n).toArray⟩) ∧ Below w.heap.size w w' := by
  obtain ⟨i0, hi, hz0, hz1, hz2⟩ := info_parts Try.infoBy
  obtain ⟨wm, hmk, hownm, hgrm⟩ := run_make_full (P := Try.prog) w w.heap.size 22 5 i0 (.int .u8 0) 1 Try.underlying22 hi hz0 hz1 .i64 .i64 n (by rw [hz2]; omega) (by unfold maxLen; omega) (Nat.le_refl _)
  have hbelm : Below w.heap.size w wm := (Below.refl _ _).grown hgrm (Nat.le_refl _) (by simp)
  have hz4 : (madeCells (Value.int .u8 0).cells (n * 1)).toList = bigM v n 0 := by
    rw [bigM_zero]
    match n, hn1, hn with
    | 1, _, _ | 2, _, _ | 3, _, _ | 4, _, _ | 5, _, _ | 6, _, _ | 7, _, _ | 8, _, _ => first | rfl | (show _ = _; kernel_rfl)
  rw [hz4] at hownm
  clear hgrm hz4
  go_enter Try.func29, Try.ntmps29
  go_wp2
  go_loopw [11] (fun i wr => ∃ j : Nat, j ≤ n ∧ i = .int .i64 (j : Int) ∧ wr.ownsRow w.heap.size 5 1 (.slice (some ⟨w.heap.size, 0, none⟩) n n) n (bigM v n j) ∧ Below w.heap.size w wr) (fun i _ => (n - intOf i).toNat)
  case atStart => exact ⟨0, by omega, rfl, hownm, hbelm⟩
  case round =>
    obtain ⟨j, hj, rfl, hown, hbel⟩ := hrel
    clear hownm hbelm hmk
    by_cases hlt : j < n
    · have i1 : (0 : Int) ≤ (j : Int) := by omega
      have i2 : (j : Int) < (n : Int) := by omega
      have i3 : (n : Int) ≤ 8 := by omega
      obtain ⟨x, hx⟩ : ∃ x, (bigM v n j)[j]? = some x := by simp [bigM, hlt]
      have hc : wr.cell? ⟨w.heap.size, j, none⟩ = some x := (hown.cellAt j (by omega)).trans hx
      have hfz := hown.frozenAt j
      have hst := (hown.stored j (.int .u8 ((UInt8.ofNat (v / 2 ^ (8 * (n - 1 - j)))).toNat : Int))).1
      rw [bigM_set hlt] at hst
      have hB2 := hbel.setCell (p := ⟨w.heap.size, j, none⟩) (Nat.le_refl _) (.int .u8 ((UInt8.ofNat (v / 2 ^ (8 * (n - 1 - j)))).toNat : Int))
      clear hown hbel hx
      go_wp2
      rw [show ((v : Int) / 2 ^ (8 * (n - 1 - j)) % 256) = ((UInt8.ofNat (v / 2 ^ (8 * (n - 1 - j)))).toNat : Int) by
        rw [UInt8.toNat_ofNat', Int.natCast_emod, Int.natCast_ediv, Int.natCast_pow]
        rfl]
      go_roundw
      case rel => exact ⟨j + 1, by omega, by go_num, hst, hB2⟩
      case measure => simp [intOf]; omega
    · obtain rfl : j = n := by omega
      rw [bigM_all] at hown
      have HC := Nm.conv_own (P := Try.prog) (src := 22) (dst := 9) Try.underlying22 Try.underlying5 Try.underlying9 hown (by omega)
      obtain ⟨g, cap, hv', hcv⟩ := HC
      cases hv'
      go_wp2
      go_ret
      exact ⟨rfl, hbel⟩
end Go.Proofs.Ythhagapmcbkeiaa
/- The number of some bytes: mathematics. -/
namespace Go.Proofs.Ythhagapmcbkeiaa
open Go.RowKit

/-- The number of some bytes, the high one first. -/
def numL (l : List UInt8) : Nat := l.foldl (fun n c => n * 256 + c.toNat) 0

theorem numL_snoc (l : List UInt8) (c : UInt8) : numL (l ++ [c]) = numL l * 256 + c.toNat := by simp [numL]

theorem fold_lt : ∀ (l : List UInt8) (a : Nat), l.foldl (fun n c => n * 256 + c.toNat) a < (a + 1) * 256 ^ l.length := by
  intro l
  induction l with
  | nil => intro a; simp
  | cons c l ih =>
    intro a
    rw [List.foldl_cons, List.length_cons, Nat.pow_succ]
    refine Nat.lt_of_lt_of_le (ih _) ?_
    have hc := c.toNat_lt
    have h1 : a * 256 + c.toNat + 1 ≤ (a + 1) * 256 := by omega
    calc (a * 256 + c.toNat + 1) * 256 ^ l.length ≤ ((a + 1) * 256) * 256 ^ l.length := Nat.mul_le_mul_right _ h1
      _ = (a + 1) * (256 ^ l.length * 256) := by rw [Nat.mul_assoc, Nat.mul_comm 256]

theorem numL_lt (l : List UInt8) : numL l < 256 ^ l.length := by
  have := fold_lt l 0
  rw [Nat.zero_add, Nat.one_mul] at this
  exact this

theorem numL_small {l : List UInt8} (h : l.length ≤ 6) : numL l < 281474976710656 := by
  have h1 := numL_lt l
  have h2 : 256 ^ l.length ≤ 256 ^ 6 := Nat.pow_le_pow_right (by decide) h
  have h3 : (256 : Nat) ^ 6 = 281474976710656 := by decide
  omega

end Go.Proofs.Ythhagapmcbkeiaa
