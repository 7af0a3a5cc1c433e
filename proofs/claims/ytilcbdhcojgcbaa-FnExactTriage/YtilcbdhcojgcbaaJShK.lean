import Derived.Test.YtilcbdhcojgcbaaJMath
import Derived.Deep.WholeRow
import Derived.RegionTactic
import Derived.BigRegion
/- spec.l09K by its contract. -/
namespace Go.Proofs.Ytilcbdhcojgcbaa
open Go.RowKit
set_option linter.unusedVariables false

theorem KL_arr : (#[.int .u32 1116352408, .int .u32 1899447441, .int .u32 3049323471, .int .u32 3921009573, .int .u32 961987163, .int .u32 1508970993, .int .u32 2453635748, .int .u32 2870763221, .int .u32 3624381080, .int .u32 310598401, .int .u32 607225278, .int .u32 1426881987, .int .u32 1925078388, .int .u32 2162078206, .int .u32 2614888103, .int .u32 3248222580, .int .u32 3835390401, .int .u32 4022224774, .int .u32 264347078, .int .u32 604807628, .int .u32 770255983, .int .u32 1249150122, .int .u32 1555081692, .int .u32 1996064986, .int .u32 2554220882, .int .u32 2821834349, .int .u32 2952996808, .int .u32 3210313671, .int .u32 3336571891, .int .u32 3584528711, .int .u32 113926993, .int .u32 338241895, .int .u32 666307205, .int .u32 773529912, .int .u32 1294757372, .int .u32 1396182291, .int .u32 1695183700, .int .u32 1986661051, .int .u32 2177026350, .int .u32 2456956037, .int .u32 2730485921, .int .u32 2820302411, .int .u32 3259730800, .int .u32 3345764771, .int .u32 3516065817, .int .u32 3600352804, .int .u32 4094571909, .int .u32 275423344, .int .u32 430227734, .int .u32 506948616, .int .u32 659060556, .int .u32 883997877, .int .u32 958139571, .int .u32 1322822218, .int .u32 1537002063, .int .u32 1747873779, .int .u32 1955562222, .int .u32 2024104815, .int .u32 2227730452, .int .u32 2361852424, .int .u32 2428436474, .int .u32 2756734187, .int .u32 3204031479, .int .u32 3329325298] : Array Value) = (KL.map fun n => Value.int .u32 ((n : Nat) : Int)).toArray := rfl
theorem KL_small : ∀ n ∈ KL, n < 4294967296 := by decide
theorem KW_at {i : Nat} (h : i < 64) : (KL.map fun n => Value.int .u32 ((n : Nat) : Int)).toArray[i]? = some (.int .u32 ((KW i).toNat : Int)) := by
  have hl : i < KL.length := h
  have h1 : KL[i]? = some KL[i] := List.getElem?_eq_getElem hl
  have h2 := KL_small _ (List.getElem_mem hl)
  have h3 : (KW i).toNat = KL[i] := by
    rw [KW, h1]
    show (BitVec.ofNat 32 KL[i]).toNat = _
    rw [BitVec.toNat_ofNat]
    exact Nat.mod_eq_of_lt h2
  rw [h3]
  simp [h1]

theorem wpList_store_new {P : Program} {ops : Array Oper} {rest : List Oper} {o : Oper} {a : Act} {Q : Exit → Act → World → Prop} (w : World) (hgd : o.guard = none) (p x : Operand) (t : TypeId) (ho : o.op = .store t p x) (hdst : o.dst = none)
    (c c' : Array Value) (hp : a.eval p = .pointer (some ⟨w.heap.size, 0, none⟩)) (hx : a.eval x = .agg c') (hi : (P.info? t).map (·.size) = some c'.size) (hs : c.size = c'.size) (h1 : c'.all (·.oneCell') = true)
    (h : wpList P ops Q rest a (w.alloc (.cells c' t))) : wpList P ops Q (o :: rest) a (w.alloc (.cells c t)) :=
  wpList_plain hgd fun _ hK => by
    unfold Oper.wp execOp
    have hr := run_storeAt_new (P := P) w t c c' hi hs h1
    simp only [ho, hp, hx, Sem.run_bind, Sem.run_pure, hr, Result.andThen_ok]
    have e : a.put o.dst undef = a := by rw [hdst]; rfl
    refine hK _ _ ?_
    rw [e]
    exact h

theorem K_list {i : Nat} (h : i < 64) : (KL.map fun n => Value.int .u32 ((n : Nat) : Int))[i]'(by simpa [KL] using h) = .int .u32 ((KW i).toNat : Int) := by
  have := KW_at h
  rw [List.getElem?_toArray, List.getElem?_eq_getElem (by simpa [KL] using h)] at this
  exact Option.some.inj this

set_option maxRecDepth 100000 in
set_option maxHeartbeats 800000 in
theorem l09K_any (i : Nat) (h : i < 64) (w : World) :
    Calls Try.prog 65 #[.int .i64 (i : Int)] w fun e w' => e = .returned (.int .u32 ((KW i).toNat : Int)) ∧ Below w.heap.size w w' := by
  have i1 : (0 : Int) ≤ (i : Int) := by omega
  have i2 : (i : Int) < 64 := by omega
  have hinf : (Try.prog.info? 120).map (·.size) = some 64 := by kernel_rfl
  have hB := fun c => (Below.refl w.heap.size w).alloc (Nat.le_refl _) (.cells c 120)
  go_enter Try.func65, Try.ntmps65
  go_wp2_with (refine wpList_store_new w rfl (.tmp 3) (.tmp 4) 120 rfl rfl _ _ rfl rfl hinf rfl (by kernel_rfl) ?_)
  go_ret
  refine ⟨?_, hB _⟩
  exact congrArg Ending.returned (K_list h)
end Go.Proofs.Ytilcbdhcojgcbaa
/- Rows of one's own beside what is written. -/
namespace Go.Proofs.Ytilcbdhcojgcbaa
open Go.RowKit
set_option linter.unusedVariables false

theorem own_sl {w : World} {B e s n : Nat} {v : Value} {xs : List Value} (h : w.ownsRow B e s v n xs) : ∃ a cap, v = .slice a n cap := by
  rcases h.2 with ⟨rfl, rfl⟩ | ⟨g, cap, cur, rfl, _⟩
  · exact ⟨_, _, rfl⟩
  · exact ⟨_, _, rfl⟩

theorem own_far {W : World} {B e s n g i : Nat} {v y : Value} {xs : List Value} (h : W.ownsRow B e s v n xs) (hg : v.ownBlock ≠ some g) : (W.setCell ⟨g, i, none⟩ y).ownsRow B e s v n xs := by
  refine ⟨h.1, ?_⟩
  rcases h.2 with h0 | ⟨g', cap, cur, rfl, hb, hh, r⟩
  · exact .inl h0
  · refine .inr ⟨g', cap, cur, rfl, hb, ?_, r⟩
    rw [heap_setCell_other W ⟨g, i, none⟩ g' _ (fun e => hg (by simp [Value.ownBlock, e]))]
    exact hh

theorem own_far_lt {W : World} {B e s n g i : Nat} {v y : Value} {xs : List Value} (h : W.ownsRow B e s v n xs) (hg : g < B) : (W.setCell ⟨g, i, none⟩ y).ownsRow B e s v n xs := by
  refine own_far h (fun e => ?_)
  have := (h.lt g e).1
  omega

theorem own_ne {W : World} {B e s n B' e' s' m g cap : Nat} {v : Value} {xs ys : List Value} (h : W.ownsRow B e s v n xs) (h' : W.ownsRow B' e' s' (.slice (some ⟨g, 0, none⟩) m cap) m ys) (hne : e ≠ e') : v.ownBlock ≠ some g := by
  intro he
  rcases h'.2 with ⟨h0, _⟩ | ⟨g', cap', cur', e1, _, hh', _⟩
  · cases h0
  · cases e1
    rcases h.2 with ⟨rfl, _⟩ | ⟨g2, cap2, cur2, rfl, _, hh, _⟩
    · cases he
    · simp only [Value.ownBlock, Option.some.injEq] at he
      subst he
      rw [hh] at hh'
      simp only [Option.some.injEq, Obj.cells.injEq] at hh'
      exact hne hh'.2.1
end Go.Proofs.Ytilcbdhcojgcbaa
/- The loops of spec.Sha256, taken out of its text. -/
namespace Go.Proofs.Ytilcbdhcojgcbaa
open Go.RowKit
set_option linter.unusedVariables false

def loopsOf : Code → List Code
  | .loop c => [c]
  | .seq a b => loopsOf a ++ loopsOf b
  | .block _ c => loopsOf c
  | .scope c => loopsOf c
  | .cond _ a b => loopsOf a ++ loopsOf b
  | _ => []
noncomputable def shTop : List Code := ((Try.f52).body.map loopsOf).getD []
noncomputable def shL1 : Code := (shTop[0]?).getD .skip
noncomputable def shL2 : Code := (shTop[1]?).getD .skip
noncomputable def shL3 : Code := (shTop[2]?).getD .skip
noncomputable def shL4 : Code := (shTop[3]?).getD .skip
noncomputable def shL5 : Code := ((loopsOf shL4)[0]?).getD .skip
noncomputable def shL6 : Code := ((loopsOf shL4)[1]?).getD .skip
noncomputable def shL7 : Code := ((loopsOf shL4)[2]?).getD .skip
def sndS : Code → Code
  | .seq _ b => b
  | c => c
def fstS : Code → Code
  | .seq a _ => a
  | c => c
def inB : Code → Code
  | .block _ c => c
  | c => c
noncomputable def shR37 : Code := sndS (sndS (sndS (sndS (inB (fstS (sndS shL6))))))
noncomputable def shL8 : Code := (shTop[4]?).getD .skip
theorem w_shl24 (x : Wd) : (x.toNat : Int) * (16777216 : Int) % (4294967296 : Int) = ((x <<< 24).toNat : Int) := w_shl x 24
theorem w_shl16 (x : Wd) : (x.toNat : Int) * (65536 : Int) % (4294967296 : Int) = ((x <<< 16).toNat : Int) := w_shl x 16
theorem w_shl8 (x : Wd) : (x.toNat : Int) * (256 : Int) % (4294967296 : Int) = ((x <<< 8).toNat : Int) := w_shl x 8
theorem w_shr3 (x : Wd) : (x.toNat : Int) / (8 : Int) = ((x >>> 3).toNat : Int) := w_shr x 3
theorem w_shr10 (x : Wd) : (x.toNat : Int) / (1024 : Int) = ((x >>> 10).toNat : Int) := w_shr x 10
theorem w_add4 (a b c d : Wd) : ((a.toNat : Int) + (b.toNat : Int) + (c.toNat : Int) + (d.toNat : Int)) % (4294967296 : Int) = ((a + b + c + d).toNat : Int) := by
  rw [← w_add, ← w_add, ← w_add]
  omega
theorem u32_wrap_any (x : Int) : IntKind.u32.wrap x = x % 4294967296 := by
  simp only [IntKind.wrap, IntKind.bits, IntKind.signed]
  simp
theorem wr_add (x y : Wd) : IntKind.u32.wrap ((x.toNat : Int) + (y.toNat : Int)) = ((x + y).toNat : Int) := by rw [u32_wrap_any, w_add]
theorem w_not (x : Wd) : bits .xor .u32 IntKind.u32.max (x.toNat : Int) = ((~~~x).toNat : Int) := by
  have h := w_xor (BitVec.allOnes 32) x
  have e : ((BitVec.allOnes 32).toNat : Int) = IntKind.u32.max := by decide
  rw [e, BitVec.allOnes_xor] at h
  exact h
/-- Block p alone has been written, others may have been made. -/
structure Only (p : Nat) (w w' : World) : Prop where
  os : w'.os = w.os
  tape : w'.tape = w.tape
  output : w'.output = w.output
  size : w.heap.size ≤ w'.heap.size
  block : ∀ k, k < w.heap.size → k ≠ p → w'.heap[k]? = w.heap[k]?
theorem Only.refl (p : Nat) (w : World) : Only p w w := ⟨rfl, rfl, rfl, Nat.le_refl _, fun _ _ _ => rfl⟩
theorem Only.drew {p : Nat} {w w' : World} (h : Only p w w') : Only p w w'.drew := ⟨h.os, h.tape, h.output, h.size, h.block⟩
theorem Only.then {p q : Nat} {w w1 w2 : World} (h : Only p w w1) (h2 : Only q w1 w2) (hq : q = p ∨ w.heap.size ≤ q) : Only p w w2 :=
  ⟨h2.os.trans h.os, h2.tape.trans h.tape, h2.output.trans h.output, Nat.le_trans h.size h2.size, fun k hk hp => (h2.block k (Nat.lt_of_lt_of_le hk h.size) (by rcases hq with rfl | hq <;> omega)).trans (h.block k hk hp)⟩
theorem Only.more {p : Nat} {w w1 w2 : World} (h : Only p w w1) (h2 : Below w1.heap.size w1 w2) : Only p w w2 :=
  ⟨h2.os.trans h.os, h2.tape.trans h.tape, h2.output.trans h.output, Nat.le_trans h.size h2.size, fun k hk hp => (h2.block k (Nat.lt_of_lt_of_le hk h.size)).trans (h.block k hk hp)⟩
theorem Only.alloc {p : Nat} {w w' : World} (h : Only p w w') (o : Obj) : Only p w (w'.alloc o) := h.more ((Below.refl _ _).alloc (Nat.le_refl _) o)
theorem Only.set {p i : Nat} {w w' : World} {v : Value} (h : Only p w w') : Only p w (w'.setCell ⟨p, i, none⟩ v) := by
  have h1 := (Below.refl 0 w').setCell (p := ⟨p, i, none⟩) (Nat.zero_le _) v
  refine ⟨h1.os.trans h.os, h1.tape.trans h.tape, h1.output.trans h.output, Nat.le_trans h.size h1.size, fun k hk hp => ?_⟩
  rw [Below.heap_setCell _ _ _ _ hp]
  exact h.block k hk hp
theorem Only.blk {p b : Nat} {w w' : World} {cs : Array Value} {T : TypeId} (h : Only p w w') (hb : Blk w b cs T) (hne : b ≠ p) : Blk w' b cs T := (h.block b (blk_lt hb) hne).trans hb
theorem Only.cell {p : Nat} {w w' : World} {b i : Nat} {v : Value} (h : Only p w w') (hne : b ≠ p) (hc : w.cell? ⟨b, i, none⟩ = some v) : w'.cell? ⟨b, i, none⟩ = some v :=
  (World.cell?_of_block (w := w) (h.block b (World.block_lt_of_cell? w _ hc) hne)).trans hc
theorem Only.below {p B : Nat} {w0 w w' : World} (h : Only p w w') (hb : Below B w0 w) (hp : B ≤ p) (hB : B ≤ w.heap.size) : Below B w0 w' :=
  ⟨h.os.trans hb.os, h.tape.trans hb.tape, h.output.trans hb.output, Nat.le_trans hb.size h.size, fun k hk => (h.block k (by omega) (by omega)).trans (hb.block k hk)⟩
theorem Only.from_below {p : Nat} {w w' : World} (h : Below w.heap.size w w') : Only p w w' := (Only.refl p w).more h

theorem all_rep (n : Nat) : (Array.replicate n (Value.int .u32 0)).all (·.oneCell') = true := Array.all_eq_true_iff_forall_mem.2 (fun v hv => by rw [(Array.mem_replicate.1 hv).2]; rfl)
/-- A whole variable is read. -/
theorem wpList_load_blk {P : Program} {ops : Array Oper} {rest : List Oper} {o : Oper} {a : Act} {w : World} {Q : Exit → Act → World → Prop} (p : Operand) (t : TypeId) (hgd : o.guard = none) (ho : o.op = .load t p) (b : Nat) (cs : Array Value) (d : TypeDesc) (hk : Blk w b cs t)
    (hp : a.eval p = .pointer (some ⟨b, 0, none⟩)) (hu : P.underlying t = some d) (hd : (match d with | .struct _ | .array _ _ => true | _ => false) = true) (hi : (P.info? t).map (·.size) = some cs.size)
    (h : wpList P ops Q rest (a.put o.dst (.agg cs)) w) : wpList P ops Q (o :: rest) a w :=
  wpList_plain hgd fun _ hK => by
    unfold Oper.wp execOp
    simp only [ho, hp, Instr.loadAt, Instr.sureAddr, Sem.run_bind, Sem.run_pure, Result.andThen_ok, run_loadVar_row w b t t cs (0, 0) d hk hu hd hi]
    exact hK _ _ h
theorem run_results_cell {P : Program} {fn : Func} {tmps : Array Value} {w : World} {r : Nat} {t : TypeId} {p : Nat} {cs : Array Value} {n : Nat} {e : TypeId} (hf : fn.results = #[.cell r t]) (ht : tmps[r]?.getD undef = .pointer (some ⟨p, 0, none⟩)) (hk : Blk w p cs t)
    (hu : P.underlying t = some (.array n e)) (hi : (P.info? t).map (·.size) = some cs.size) : (results fn tmps).run P w = .ok (.agg cs) w := by
  have hl := run_loadVar_row w p t t cs (0, 0) (.array n e) hk hu rfl hi
  simp [results, hf, ht, asAddr, hl]
theorem Only.setRow {b : Nat} {w : World} {c : Array Value} : Only b w (w.setRow b c) := by
  refine ⟨rfl, rfl, rfl, ?_, fun k hk hp => ?_⟩
  · simp [World.setRow]
  · simp only [World.setRow]
    rw [Array.getElem?_modify]
    rw [if_neg (Ne.symm hp)]
theorem blk_setRow {b : Nat} {w : World} {c c' : Array Value} {t : TypeId} (h : Blk w b c t) : Blk (w.setRow b c') b c' t := by
  show (World.setRow w b c').heap[b]? = _
  simp only [World.setRow]
  rw [Array.getElem?_modify, if_pos rfl, show w.heap[b]? = some (.cells c t (0, 0)) from h]
  rfl
/-- A whole variable is written. -/
theorem wpList_store_blk {P : Program} {ops : Array Oper} {rest : List Oper} {o : Oper} {a : Act} {w : World} {Q : Exit → Act → World → Prop} (p x : Operand) (t : TypeId) (hgd : o.guard = none) (ho : o.op = .store t p x) (hdst : o.dst = none) (b : Nat) (c c' : Array Value) (hk : Blk w b c t)
    (hp : a.eval p = .pointer (some ⟨b, 0, none⟩)) (hx : a.eval x = .agg c') (hi : (P.info? t).map (·.size) = some c'.size) (hs : c.size = c'.size) (h1 : c'.all (·.oneCell') = true)
    (h : ∀ w', Blk w' b c' t → Only b w w' → wpList P ops Q rest a w') : wpList P ops Q (o :: rest) a w :=
  wpList_plain hgd fun _ hK => by
    unfold Oper.wp execOp
    simp only [ho, hp, hx, Instr.storeAt, Instr.sureAddr, Sem.run_bind, Sem.run_pure, Result.andThen_ok, run_storeVar_row w b t t c c' hk hi hs h1]
    have e : a.put o.dst undef = a := by rw [hdst]; rfl
    refine hK _ _ ?_
    rw [e]
    exact h _ (blk_setRow hk) Only.setRow
end Go.Proofs.Ytilcbdhcojgcbaa
