import Derived.Test.YthhagapmcbkeiaaJShK
import Derived.Test.YthhagapmcbkeiaaJShL8
import Derived.Test.YthhagapmcbkeiaaJSgN
import Derived.Lib.AppendStr
import Derived.Maps.Own
import Derived.StringKeys
import Derived.Test.YthhagapmcbkeiaaJWtN
import Derived.Test.YthhagapmcbkeiaaJMvM
import Derived.Laws.OwnMore
/- The program's writer; (*writer).number by its contract. -/
namespace Go.Proofs.Ythhagapmcbkeiaa
open Go.RowKit
set_option linter.unusedVariables false

theorem step_append_str {P : Program} {ops : Array Oper} {o : Oper} {a : Act} {w : World} {K : Act → World → Prop} {Q : Exit → Act → World → Prop} {E : Prop} (hgd : o.guard = none) (sl x : Operand) (t u : TypeId)
    (ho : o.op = .call { callee := .builtin .append, args := #[sl, x], argTypes := #[t, u] })
    (base : Nat) (e : TypeId) (i : TypeInfo) (ht : P.underlying t = some (.slice e)) (hu : P.underlying u = some .string) (hi : P.info? e = some i) (hz : i.zero = some (.int .u8 0))
    (hsize : i.size = 1) (hby : i.bytes = 1)
    (v : Value) (n : Nat) (xs : List Value) (hs : a.eval sl = v) (hown : w.ownsRow base e 1 v n xs) (s : ByteArray) (hx : a.eval x = .string s)
    (h63 : n + s.size ≤ maxLen) (hbytes : n + s.size ≤ 140737488355328) (hbase : base ≤ w.heap.size)
    (h : ∀ v' w', w'.ownsRow base e 1 v' (n + s.size) (xs ++ Go.Lib.strCells s) → w.grownBy w' v.ownBlock → K (a.put o.dst v') w') :
    if Region.wanted o (yielded ops a.tmps) = true then Oper.wp P o a w K Q else E := by
  have hw : Region.wanted o (yielded ops a.tmps) = true := by simp [Region.wanted, hgd]
  rw [if_pos hw]
  obtain ⟨v', w', hr, h2, h3, h4⟩ := Go.Lib.run_append_own_string (P := P) w base t u o.type e i ht hu hi hz hsize hby v n xs hown s h63 hbytes hbase
  unfold Oper.wp execOp
  simp only [ho, resolve, invoke, builtin, Sem.run_bind, Sem.run_pure, Result.andThen_ok, List.map_toArray, List.map_cons, List.map_nil, hs, hx, hr]
  exact h v' w' h2 h3

/-- The program's writer lies in block g. -/
structure PW (w : World) (g B : Nat) (bs : List UInt8) (vb vm : Value) : Prop where
  blk : Blk w g #[vb, vm] 93
  rb : w.ownsRow B 5 1 vb bs.length (Nm.bys bs)
  bg : B ≤ g
theorem PW.below {w W : World} {g B : Nat} {bs : List UInt8} {vb vm : Value} (h : PW w g B bs vb vm) (hb : Below w.heap.size w W) : PW W g B bs vb vm := ⟨blk_below h.blk hb, own_below h.rb hb, h.bg⟩

def isCells : Obj → TypeId → Prop
  | .cells _ T _, T' => T = T'
  | _, _ => False
/-- Below B, and objects that are neither bytes nor a writer are as they were. -/
structure Bw (B : Nat) (w w' : World) : Prop where
  be : Below B w w'
  kp : ∀ (k : Nat) (o : Obj), w.heap[k]? = some o → ¬ isCells o 5 → ¬ isCells o 93 → w'.heap[k]? = some o
theorem Bw.refl (B : Nat) (w : World) : Bw B w w := ⟨Below.refl _ _, fun _ _ h _ _ => h⟩
theorem Bw.trans {B : Nat} {a b c : World} (h : Bw B a b) (k : Bw B b c) : Bw B a c := ⟨h.be.trans k.be, fun i o hb h1 h2 => k.kp i o (h.kp i o hb h1 h2) h1 h2⟩
theorem Bw.of {B : Nat} {w w' : World} (h : Below w.heap.size w w') (hB : B ≤ w.heap.size) : Bw B w w' := ⟨h.mono hB, fun i o hb _ _ => (h.block i (Array.getElem?_eq_some_iff.1 hb).1).trans hb⟩
theorem Bw.app {B s n : Nat} {w W W1 : World} {v : Value} {xs : List Value} (h : Bw B w W) (ho : W.ownsRow B 5 s v n xs) (hg : W.grownBy W1 v.ownBlock) (hB : B ≤ W.heap.size) : Bw B w W1 := by
  refine ⟨h.be.grown hg hB (fun q hq => (ho.lt q hq).1), fun i o hb h1 h2 => ?_⟩
  have hb' := h.kp i o hb h1 h2
  refine (hg.block i (Array.getElem?_eq_some_iff.1 hb').1 (fun e => ?_)).trans hb'
  rcases ho.2 with ⟨rfl, _⟩ | ⟨g', cap', cur, rfl, _, hh, _⟩
  · simp [Value.ownBlock] at e
  · simp only [Value.ownBlock, Option.some.injEq] at e
    subst e
    rw [hh] at hb'
    cases hb'
    exact h1 rfl
theorem Bw.set {B g : Nat} {w W : World} {cs : Array Value} (h : Bw B w W) (hb : Blk W g cs 93) (hg : B ≤ g) (i : Nat) (v : Value) : Bw B w (W.setCell ⟨g, i, none⟩ v) := by
  refine ⟨h.be.setCell hg _, fun k o hk h1 h2 => ?_⟩
  have hk' := h.kp k o hk h1 h2
  have hne : k ≠ g := by
    intro e
    subst e
    unfold Blk at hb
    rw [hb] at hk'
    cases hk'
    exact h2 rfl
  rw [heap_setCell_other W ⟨g, i, none⟩ k _ (by simpa using hne)]
  exact hk'
set_option maxRecDepth 100000 in
set_option maxHeartbeats 1600000 in
theorem number_w_any (n k : Int) (PB : ByteArray) (hput : ∀ W, Calls Try.prog 29 #[.int .i64 n, .int .i64 k] W fun e w' => e = .returned (.string PB) ∧ Below W.heap.size W w') (g B : Nat) (bs : List UInt8) (vb vm : Value) (w : World) (h : PW w g B bs vb vm) (hB : B ≤ w.heap.size) (hl : bs.length + PB.size ≤ 100000000) :
    Calls Try.prog 49 #[.pointer (some ⟨g, 0, none⟩), .int .i64 n, .int .i64 k] w fun e w' => e = .returned (.tuple #[]) ∧ ∃ vb', PW w' g B (bs ++ PB.data.toList) vb' vm ∧ Bw B w w' := by
  obtain ⟨i0, hi, hz0, hz1, hz2⟩ := info_parts Try.infoU8w
  obtain ⟨xa, ya, hv⟩ := own_sl h.rb
  subst hv
  have c0 : w.cell? ⟨g, 0, none⟩ = some (.slice xa bs.length ya) := (blk_cell h.blk 0).trans rfl
  go_enter Try.func49, Try.ntmps49
  go_wp2_with fail
  refine wp_region_last (fun W => W.cell? ⟨g, 0, none⟩ = some (.slice xa bs.length ya)) 11 (by kernel_rfl) c0 (fun hHeld => ?_)
  refine wpAnyL_take (i := 0) (v := ?_) rfl (by kernel_rfl) (by kernel_rfl) (by kernel_rfl) (by kernel_rfl) (fun _ _ _ h => h) (Or.inl ⟨by rfl, ?_⟩) (by assumption) ?_
  rotate_left 1
  · (intro w hSw; go_simp; try (with_reducible rfl))
  refine wpAnyL_take (i := 1) (v := ?_) rfl (by kernel_rfl) (by kernel_rfl) (by kernel_rfl) (by kernel_rfl) (fun _ _ _ h => h) (Or.inl ⟨by rfl, ?_⟩) (by assumption) ?_
  rotate_left 1
  · (intro w hSw; go_simp; try (with_reducible rfl))
  refine wpAnyL_take (i := 2) (v := ?_) rfl (by kernel_rfl) (by kernel_rfl) (by kernel_rfl) (by kernel_rfl) (fun _ _ _ h => h) (Or.inl ⟨by rfl, ?_⟩) (by assumption) ?_
  rotate_left 1
  · (intro w hSw; go_simp; try (with_reducible rfl))
  refine wpAnyL_take (i := 3) (v := ?_) rfl (by kernel_rfl) (by kernel_rfl) (by kernel_rfl) (by kernel_rfl) (fun _ _ _ h => h) (Or.inl ⟨by rfl, ?_⟩) (by assumption) ?_
  rotate_left 1
  · (intro w hSw; go_simp; try (with_reducible rfl))
  refine wpAnyL_take (i := 4) (v := ?_) rfl (by kernel_rfl) (by kernel_rfl) (by kernel_rfl) (by kernel_rfl) (fun _ _ _ h => h) (Or.inl ⟨by rfl, ?_⟩) (by assumption) ?_
  rotate_left 1
  · (intro w hSw; go_simp; try (with_reducible rfl))
  refine wpAnyL_take (i := 5) (v := ?_) rfl (by kernel_rfl) (by kernel_rfl) (by kernel_rfl) (by kernel_rfl) (fun _ _ _ h => h) (Or.inl ⟨by rfl, ?_⟩) (by assumption) ?_
  rotate_left 1
  · (intro w hSw; go_simp; try (with_reducible rfl))
  refine wpAnyL_take (i := 6) (v := ?_) rfl (by kernel_rfl) (by kernel_rfl) (by kernel_rfl) (by kernel_rfl) (fun _ _ _ h => h) (Or.inl ⟨by rfl, ?_⟩) (by assumption) ?_
  rotate_left 1
  · (intro w hSw; go_simp; try (with_reducible rfl))
  have hd : PW w.drew g B bs (.slice xa bs.length ya) vm := h.below (Below.refl _ _).drew
  refine wpAnyL_one (i := 7) (by kernel_rfl) rfl (fun K hK => ?_)
  go_simp
  refine (hput _).mono ?_
  rintro e wn ⟨rfl, hbn⟩
  go_wp2_with fail
  have hn := hd.below hbn
  have bn : Bw B w wn := (Bw.of (Below.refl _ _).drew hB).trans (Bw.of hbn hB)
  have hBn : B ≤ wn.heap.size := Nat.le_trans hB hbn.size
  refine hK.out _ _ ((blk_cell hn.blk 0).trans rfl) (fun hH2 => ?_)
  clear hK K
  refine wpAnyL_one (i := 8) (by kernel_rfl) rfl (fun K hK => ?_)
  refine step_append_str rfl (.tmp 10) (.tmp 13) 22 9 rfl B 5 i0 Try.underlying22 Try.underlying9 hi hz0 hz1 hz2 (.slice xa bs.length ya) bs.length (Nm.bys bs) (by rfl) hn.rb PB (by rfl) (by unfold maxLen; omega) (by omega) hBn ?_
  intro va wa hown9 hgrow9
  rw [Nm.bys_str, ← Nm.bys_append] at hown9
  obtain ⟨xb, yb, hvb⟩ := own_sl hown9
  have hblk9 : Blk wa g #[.slice xa bs.length ya, vm] 93 := blk_grown hn.blk hgrow9 (fun e => own_blk hn.rb hn.blk (by decide) e)
  have b9 : Bw B w wa := bn.app hn.rb hgrow9 hBn
  have c9 : wa.cell? ⟨g, 0, none⟩ = some (.slice xa bs.length ya) := (blk_cell hblk9 0).trans rfl
  have f9 := blk_frozen hblk9 0
  rw [hvb]
  refine hK.out _ _ c9 (fun hH3 => ?_)
  clear hK K
  refine wpAnyL_one (i := 9) (by kernel_rfl) rfl (fun K hK => ?_)
  go_simp
  refine hK.out _ _ c9 (fun hH4 => ?_)
  clear hK K
  refine wpAnyL_take (i := 10) (v := ?_) rfl (by kernel_rfl) (by kernel_rfl) (by kernel_rfl) (by kernel_rfl) (fun _ _ _ h => h) (Or.inl ⟨by rfl, ?_⟩) (by assumption) ?_
  rotate_left 1
  · (intro w hSw; go_simp; try (with_reducible rfl))
  refine wpAnyL_end (by kernel_rfl) rfl (by kernel_rfl) (fun K hK => ?_)
  go_simp
  refine hK.out _ _ ?_
  clear hK K
  rw [hvb] at hown9
  have hlen : bs.length + PB.size = (bs ++ PB.data.toList).length := by simp
  have hS10 : PW (wa.setCell ⟨g, 0, none⟩ (.slice xb (bs.length + PB.size) yb)) g B (bs ++ PB.data.toList) (.slice xb (bs.length + PB.size) yb) vm := ⟨blk_set hblk9 0 _, by rw [← hlen]; exact own_far hown9 (own_blk hown9 hblk9 (by decide)), h.bg⟩
  have b10 := b9.set hblk9 h.bg 0 (.slice xb (bs.length + PB.size) yb)
  refine bodyPost_end (v := .tuple #[]) ?_ rfl ⟨rfl, _, hS10, b10⟩
  simp [results, go_sem]
end Go.Proofs.Ythhagapmcbkeiaa
/- A map of the call's own with strings as keys and numbers as values: its entries as a list. -/
namespace Go.Proofs.Ythhagapmcbkeiaa
open Go Go.Maps Go.MapKept Go.ChangeMaps Go.RowKit
set_option linter.unusedVariables false

def smV (p : ByteArray × Nat) : Value × Value := (.string p.1, .int .i64 (p.2 : Int))
/-- Block r is a map with these entries. -/
def SMap (w : World) (r : Nat) (L : List (ByteArray × Nat)) : Prop := ∃ es clock, w.heap[r]? = some (.map es clock) ∧ es.toList.map (fun e => (e.key, e.val)) = L.map smV ∧
  (∀ p ∈ L, p.1.size ≤ maxLen) ∧ (L.map (·.1)).Nodup

theorem smap_made (w : World) : SMap (w.alloc (.map #[] 0)) w.heap.size [] :=
  ⟨#[], 0, by show (w.heap.push _)[w.heap.size]? = _; simp, rfl, by simp, by simp⟩

theorem grown_blockS (w : World) (r : Nat) (o : Obj) : w.grownBy (setBlock w r o) (some r) :=
  ⟨rfl, rfl, rfl, by simp [setBlock], fun k hk hne => by simp only [setBlock]; rw [Array.getElem?_setIfInBounds_ne (fun e => hne (by rw [e]))]⟩

theorem seenS_mem {L : List (ByteArray × Nat)} (h : (L.map (·.1)).Nodup) {x : ByteArray} {n : Nat} (hm : (x, n) ∈ L) : seenS L x = (n : Int) := by
  induction L with
  | nil => cases hm
  | cons y L ih =>
    simp only [List.map_cons, List.nodup_cons] at h
    rw [seenS]
    rcases List.mem_cons.1 hm with rfl | hm'
    · simp
    · rw [if_neg, ih h.2 hm']
      intro e
      exact h.1 (List.mem_map.2 ⟨(x, n), hm', e.symm⟩)
theorem seenS_none {L : List (ByteArray × Nat)} {x : ByteArray} (h : ∀ p ∈ L, p.1 ≠ x) : seenS L x = -1 := by
  induction L with
  | nil => rfl
  | cons y L ih =>
    rw [seenS, if_neg (h y (List.mem_cons_self ..)), ih (fun p hp => h p (List.mem_cons_of_mem _ hp))]
theorem seenS_not {L : List (ByteArray × Nat)} {x : ByteArray} (h : seenS L x < 0) : ∀ p ∈ L, p.1 ≠ x := by
  induction L with
  | nil => intro p hp; cases hp
  | cons y L ih =>
    rw [seenS] at h
    intro p hp
    by_cases e : y.1 = x
    · rw [if_pos e] at h; omega
    · rw [if_neg e] at h
      rcases List.mem_cons.1 hp with rfl | hp
      · exact e
      · exact ih h p hp

section
variable {P : Program} {w : World} {r : Nat} {L : List (ByteArray × Nat)} {t k e : TypeId}

theorem smap_entry {es : Array MapEntry} (h : es.toList.map (fun e => (e.key, e.val)) = L.map smV) {x : MapEntry} (hx : x ∈ es.toList) : ∃ p ∈ L, x.key = .string p.1 ∧ x.val = .int .i64 (p.2 : Int) := by
  have : (x.key, x.val) ∈ es.toList.map (fun e => (e.key, e.val)) := List.mem_map.2 ⟨x, hx, rfl⟩
  rw [h] at this
  obtain ⟨p, hp, he⟩ := List.mem_map.1 this
  simp only [smV, Prod.mk.injEq] at he
  exact ⟨p, hp, he.1.symm, he.2.symm⟩

theorem SMap.lt (h : SMap w r L) : r < w.heap.size := by
  obtain ⟨es, clock, hb, _⟩ := h
  obtain ⟨hlt, _⟩ := Array.getElem?_eq_some_iff.1 hb
  exact hlt

theorem SMap.kept {w' : World} (h : SMap w r L) (hb : w'.heap[r]? = w.heap[r]?) : SMap w' r L := by
  obtain ⟨es, clock, h1, h2⟩ := h
  exact ⟨es, clock, hb.trans h1, h2⟩

theorem SMap.put (h : SMap w r L) (hk : P.underlying k = some .string) (ht : P.underlying t = some (.map k e)) {x : ByteArray} (hx : x.size ≤ maxLen) (n : Nat) (hn : ∀ p ∈ L, p.1 ≠ x) :
    ∃ w', (Instr.mapUpdate t (.map (some r)) (.string x) (.int .i64 (n : Int))).run P w = .ok () w' ∧ SMap w' r (L ++ [(x, n)]) ∧ w.grownBy w' (some r) := by
  have K : Keyed P k := string_keyed hk
  have hkey := WideMaps.keyOf_string_mk hk hx
  have hlt := h.lt
  obtain ⟨es, clock, hb, hes, hwf, hnd⟩ := h
  rcases K.find w hkey es.toList (fun y hy => by obtain ⟨p, hp, h1, _⟩ := smap_entry hes hy; rw [h1]; exact ⟨_, WideMaps.keyOf_string_mk hk (hwf p hp)⟩) with ⟨h1, h2⟩ | ⟨j, e0, h1, h2, h3⟩
  · refine ⟨setBlock w r (.map (es.push ⟨.string x, .int .i64 (n : Int), clock⟩) (clock + 1)), ?_, ⟨es.push ⟨.string x, .int .i64 (n : Int), clock⟩, clock + 1, ?_, ?_, ?_, ?_⟩, grown_blockS _ _ _⟩
    · simp [Instr.mapUpdate, run_underlying ht, MapKept.run_getObj_map hb, K.check w false hkey, h1, MapKept.run_setObj_map _ hb, Result.andThen, setBlock]
    · simp [setBlock, hlt]
    · rw [Array.toList_push, List.map_append, hes, List.map_append]; rfl
    · intro p hp
      rcases List.mem_append.1 hp with hp | hp
      · exact hwf p hp
      · simp at hp; subst hp; exact hx
    · rw [List.map_append, List.nodup_append]
      refine ⟨hnd, by simp, ?_⟩
      intro a ha b hb2
      simp at hb2
      subst hb2
      obtain ⟨p, hp, rfl⟩ := List.mem_map.1 ha
      exact hn p hp
  · exfalso
    obtain ⟨p, hp, h4, _⟩ := smap_entry hes (List.mem_of_getElem? h2)
    rw [h3] at h4
    simp at h4
    exact hn p hp h4.symm

theorem SMap.get (h : SMap w r L) (hk : P.underlying k = some .string) (ht : P.underlying t = some (.map k e)) (hz : (zeroValue e).run P w = .ok (.int .i64 0) w) {x : ByteArray} (hx : x.size ≤ maxLen) :
    (Instr.lookup t (.map (some r)) (.string x) true).run P w = .ok (.tuple #[.int .i64 (if 0 ≤ seenS L x then seenS L x else 0), .bool (decide (0 ≤ seenS L x))]) w := by
  have K : Keyed P k := string_keyed hk
  have hkey := WideMaps.keyOf_string_mk hk hx
  obtain ⟨es, clock, hb, hes, hwf, hnd⟩ := h
  rcases K.find w hkey es.toList (fun y hy => by obtain ⟨p, hp, h1, _⟩ := smap_entry hes hy; rw [h1]; exact ⟨_, WideMaps.keyOf_string_mk hk (hwf p hp)⟩) with ⟨h1, h2⟩ | ⟨j, e0, h1, h2, h3⟩
  · have hno : seenS L x = -1 := by
      apply seenS_none
      intro p hp hpx
      have : smV p ∈ L.map smV := List.mem_map.2 ⟨p, hp, rfl⟩
      rw [← hes] at this
      obtain ⟨y, hy, hye⟩ := List.mem_map.1 this
      simp only [smV, Prod.mk.injEq] at hye
      exact h2 y hy (by rw [hye.1, hpx])
    rw [hno]
    simp [Instr.lookup, run_underlying ht, MapKept.run_getObj_map hb, K.check w _ hkey, h1, hz, Result.andThen]
  · obtain ⟨p, hp, h4, h5⟩ := smap_entry hes (List.mem_of_getElem? h2)
    rw [h3] at h4
    simp at h4
    have hyes : seenS L x = (p.2 : Int) := by
      apply seenS_mem hnd
      rw [h4]; exact hp
    have h0 : (0 : Int) ≤ (p.2 : Int) := by omega
    rw [hyes, if_pos h0]
    simp [Instr.lookup, run_underlying ht, MapKept.run_getObj_map hb, K.check w _ hkey, h1, Result.andThen, h5]
end

/-- Below B, and blocks of cells of other types than the writer's own are as they were. -/
structure Bp (B : Nat) (w w' : World) : Prop where
  be : Below B w w'
  kp : ∀ k cs T, Blk w k cs T → T ≠ 5 → T ≠ 93 → Blk w' k cs T
theorem Bp.refl (B : Nat) (w : World) : Bp B w w := ⟨Below.refl _ _, fun _ _ _ h _ _ => h⟩
theorem Bp.trans {B : Nat} {a b c : World} (h : Bp B a b) (k : Bp B b c) : Bp B a c := ⟨h.be.trans k.be, fun i cs T hb h1 h2 => k.kp i cs T (h.kp i cs T hb h1 h2) h1 h2⟩
theorem Bp.of {B : Nat} {w w' : World} (h : Below w.heap.size w w') (hB : B ≤ w.heap.size) : Bp B w w' := ⟨h.mono hB, fun i cs T hb _ _ => blk_below hb h⟩
theorem Bp.ofw {B : Nat} {w w' : World} (h : Bw B w w') : Bp B w w' := ⟨h.be, fun i cs T hb h1 h2 => h.kp i _ hb h1 h2⟩
theorem Bp.map {B r : Nat} {w W W1 : World} {L : List (ByteArray × Nat)} (h : Bp B w W) (hm : SMap W r L) (hg : W.grownBy W1 (some r)) (hr : B ≤ r) : Bp B w W1 := by
  have hlt := hm.lt
  refine ⟨h.be.grown hg (by omega) (fun q hq => by cases hq; exact hr), fun i cs T hb h1 h2 => ?_⟩
  have hb' := h.kp i cs T hb h1 h2
  refine blk_grown hb' hg (fun e => ?_)
  cases e
  obtain ⟨es, clock, h3, _⟩ := hm
  unfold Blk at hb'
  rw [h3] at hb'
  cases hb'

/-- The program's writer and its map. -/
structure PM (w : World) (g B r : Nat) (bs : List UInt8) (pls : List (ByteArray × Nat)) (vb : Value) : Prop where
  pw : PW w g B bs vb (.map (some r))
  mp : SMap w r pls
  br : B ≤ r
theorem PM.below {w W : World} {g B r : Nat} {bs : List UInt8} {pls : List (ByteArray × Nat)} {vb : Value} (h : PM w g B r bs pls vb) (hb : Below w.heap.size w W) : PM W g B r bs pls vb := ⟨h.pw.below hb, h.mp.kept (hb.block r h.mp.lt), h.br⟩
theorem PM.after {w W : World} {g B r : Nat} {bs bs' : List UInt8} {pls : List (ByteArray × Nat)} {vb vb' : Value} (h : PM w g B r bs pls vb) (hp : PW W g B bs' vb' (.map (some r))) (hb : Bw B w W) : PM W g B r bs' pls vb' := by
  refine ⟨hp, h.mp.kept ?_, h.br⟩
  obtain ⟨es, clock, h3, _⟩ := h.mp
  rw [h3]
  exact hb.kp r _ h3 (fun e => e) (fun e => e)
theorem PM.put {w W : World} {g B r : Nat} {bs : List UInt8} {pls pls' : List (ByteArray × Nat)} {vb : Value} (h : PM w g B r bs pls vb) (hm : SMap W r pls') (hg : w.grownBy W (some r)) : PM W g B r bs pls' vb := by
  obtain ⟨es, clock, h3, _⟩ := h.mp
  refine ⟨⟨blk_grown h.pw.blk hg (fun e => ?_), h.pw.rb.kept hg ?_, h.pw.bg⟩, hm, h.br⟩
  · cases e
    have := h.pw.blk
    unfold Blk at this
    rw [h3] at this
    cases this
  · rcases h.pw.rb.2 with ⟨rfl, _⟩ | ⟨g', cap', cur, rfl, _, hh, _⟩
    · exact .inl rfl
    · right
      simp only [Value.ownBlock, ne_eq, Option.some.injEq]
      intro e
      subst e
      rw [h3] at hh
      cases hh
end Go.Proofs.Ythhagapmcbkeiaa
/- Data by the places of its names: mathematics. -/
namespace Go.Proofs.Ythhagapmcbkeiaa
open Go.RowKit
set_option linter.unusedVariables false

/-- The places rise from a place on, and names stand there. -/
def SpOK (d : ByteArray) : List (Nat × Nat) → Nat → Prop
  | [], a => a ≤ d.size
  | (f, t) :: r, a => a ≤ f ∧ f ≤ t ∧ t ≤ d.size ∧ (Nm.split (d.extract f t)).isSome = true ∧ SpOK d r t

theorem spok_parts : ∀ (fs : List Dt.Pc) (ps : List ByteArray) (a a0 : Nat) (d : ByteArray), fs.length = ps.length → a0 ≤ a → a ≤ d.size → Dt.catL ps = d.data.toList.drop a → NmOK fs ps → SpOK d (Dt.spansOf fs ps a) a0 := by
  intro fs
  induction fs with
  | nil =>
    intro ps a a0 d hl h0 h1 hc hn
    obtain rfl : ps = [] := List.length_eq_zero_iff.1 (by simpa using hl.symm)
    show a0 ≤ d.size
    omega
  | cons p fs ih =>
    intro ps a a0 d hl h0 h1 hc hn
    cases ps with
    | nil => simp at hl
    | cons x xs =>
      have e : Dt.catL (x :: xs) = x.data.toList ++ Dt.catL xs := by simp [Dt.catL]
      rw [e] at hc
      have hxl : x.data.toList.length = x.size := by simp
      have hsz : x.size + (Dt.catL xs).length = d.size - a := by
        have := congrArg List.length hc
        simp at this
        simpa using this
      have hc2 : Dt.catL xs = d.data.toList.drop (a + x.size) := by
        rw [← List.drop_drop, ← hc, List.drop_left' hxl]
      have hx : d.extract a (a + x.size) = x := by
        apply Nm.ba_ext
        rw [ex_list, ← hc, show a + x.size - a = x.size by omega, List.take_left' hxl]
      have hl2 : fs.length = xs.length := by simpa using hl
      rw [Dt.spansOf]
      cases hN : p.isN with
      | true =>
        simp only [if_true]
        exact ⟨h0, by omega, by omega, by rw [hx]; exact hn 0 p x rfl rfl hN, ih xs (a + x.size) (a + x.size) d hl2 (Nat.le_refl _) (by omega) hc2 hn.tail⟩
      | false =>
        simp only [Bool.false_eq_true, if_false]
        exact ih xs (a + x.size) a0 d hl2 (by omega) (by omega) hc2 hn.tail

theorem spok_end {d : ByteArray} : ∀ (sp : List (Nat × Nat)) (a : Nat), SpOK d sp a → a ≤ d.size := by
  intro sp
  induction sp with
  | nil => intro a h; exact h
  | cons p r ih => intro a h; obtain ⟨f, t⟩ := p; have := h.1; have := h.2.1; have := h.2.2.1; omega

theorem empty_none {t : Nat} {d : ByteArray} (hp : pointed t) (hd : d.size = 0) : cutS t d = none := by
  cases hc : cutS (t : Int) d with
  | none => rfl
  | some sp =>
    exfalso
    have hcc := code_zero.2 ⟨sp, hc⟩
    obtain ⟨ps, h1, _, _⟩ := good_parts hcc
    have hn := Dt.name_le d
    have hn0 : (Dt.nameAtS d).size = 0 := by omega
    rcases hp with rfl | rfl | rfl | rfl | rfl
    all_goals
      simp [Dt.specP, Dt.formS, Dt.letP, Dt.parts, Dt.sz, hn0, hd] at h1

/-- What the program does with data: by its places, or whole. -/
theorem daS_daW {t : Nat} {d : ByteArray} (h : d.size = 0 ∨ cutCode t d = 0) (s : Wst) :
    (pointed t → daS ((cutS t d).getD []) 0 d s = daW t d s ∧ SpOK d ((cutS t d).getD []) 0) ∧ (¬ pointed t → daS [] 0 d s = daW t d s) := by
  have hall : (d.extract 0 d.size).data.toList = d.data.toList := by rw [Dt.ext_all]
  constructor
  · intro hp
    by_cases hd : d.size = 0
    · rw [empty_none hp hd, daW, if_pos (.inl hd), Option.getD_none, daS, hall]
      exact ⟨rfl, Nat.zero_le _⟩
    · obtain ⟨ps, h1, h2, _⟩ := good_parts (h.resolve_left hd)
      obtain ⟨p1, p2, p3⟩ := Dt.parts_cat _ _ _ h1
      rw [h2, Option.getD_some, daW, if_neg (by simp [hd, hp]), h1, daS_parts _ _ _ _ _ _ p1 (Nat.le_refl _) (Nat.zero_le _) (by simpa using p2)]
      refine ⟨?_, spok_parts _ _ _ _ _ p1 (Nat.le_refl _) (Nat.zero_le _) (by simpa using p2) p3⟩
      have : (d.extract 0 0).data.toList = [] := by rw [ex_list]; simp
      rw [this, List.append_nil]
      rfl
  · intro hp
    rw [daW, if_pos (.inr hp), daS, hall]

theorem Bp.row {B b e s n : Nat} {w w' : World} {v : Value} {xs : List Value} (h : Bp B w w') (ho : w.ownsRow b e s v n xs) (h1 : e ≠ 5) (h2 : e ≠ 93) : w'.ownsRow b e s v n xs := by
  refine ⟨ho.1, ?_⟩
  rcases ho.2 with hn | ⟨g, cap, cur, rfl, hb, hh, r⟩
  · exact .inl hn
  · exact .inr ⟨g, cap, cur, rfl, hb, h.kp g cur e hh h1 h2, r⟩
end Go.Proofs.Ythhagapmcbkeiaa
/- Records that were written are read again: mathematics. -/
namespace Go.Proofs.Ythhagapmcbkeiaa
open Go.RowKit
set_option linter.unusedVariables false

def toPc : Option Nat → Dt.Pc
  | none => .nm
  | some n => .bs n
theorem implP_pieces {t : Nat} (h : pointed t) : Dt.implP t = (piecesOf t).map toPc := by
  rcases h with rfl | rfl | rfl | rfl | rfl <;> rfl

/-- The parts are as the pieces say. -/
def PcOK : List (Option Nat) → List ByteArray → Prop
  | [], [] => True
  | none :: ps, x :: xs => (Nm.split x).isSome = true ∧ PcOK ps xs
  | some n :: ps, x :: xs => x.size = n ∧ PcOK ps xs
  | _, _ => False

theorem parts_ok : ∀ (ps : List (Option Nat)) (d : ByteArray) (xs : List ByteArray), Dt.parts (ps.map toPc) d = some xs → PcOK ps xs := by
  intro ps
  induction ps with
  | nil =>
    intro d xs h
    rw [List.map_nil, Dt.parts] at h
    split at h
    · simp at h; subst h; exact trivial
    · cases h
  | cons p ps ih =>
    intro d xs h
    rw [List.map_cons, Dt.parts] at h
    cases hs : Dt.sz (toPc p) d with
    | none => rw [hs] at h; cases h
    | some n =>
      rw [hs] at h
      have hn := Dt.sz_le hs
      cases hr : Dt.parts (ps.map toPc) (d.extract n d.size) with
      | none => simp [hr] at h
      | some l =>
        simp [hr] at h
        subst h
        have hi := ih _ _ hr
        cases p with
        | none =>
          refine ⟨?_, hi⟩
          simp only [toPc, Dt.sz] at hs
          split at hs
          · cases hs
          · rename_i h0
            simp at hs
            rw [← hs, Dt.name_ext d h0]
            exact Dt.nameAt_name h0
        | some k =>
          refine ⟨?_, hi⟩
          simp only [toPc, Dt.sz] at hs
          split at hs
          · simp at hs
            subst hs
            simp
            omega
          · cases hs

theorem daP_adds : ∀ (fs : List Dt.Pc) (xs : List ByteArray) (s : Wst), ∃ ys, (daP fs xs s).1 = s.1 ++ ys := by
  intro fs
  induction fs with
  | nil => intro xs s; exact ⟨[], by simp [daP]⟩
  | cons p fs ih =>
    intro xs s
    cases xs with
    | nil => exact ⟨[], by simp [daP]⟩
    | cons x xs =>
      rw [daP]
      obtain ⟨ys, hy⟩ := ih xs (if p.isN then nmX x s else (s.1 ++ x.data.toList, s.2))
      cases hN : p.isN with
      | true =>
        rw [hN] at hy
        simp only [if_true] at hy ⊢
        obtain ⟨zs, hz⟩ := nmW_adds ((Nm.split x).getD []) s.1 s.2
        exact ⟨zs ++ ys, by rw [hy, nmX, hz]; simp⟩
      | false =>
        rw [hN] at hy
        simp only [Bool.false_eq_true, if_false] at hy ⊢
        exact ⟨x.data.toList ++ ys, by rw [hy]; simp⟩

theorem daP_more : ∀ (ps : List (Option Nat)) (xs : List ByteArray) (s : Wst), PcOK ps xs → none ∈ ps → s.1.length < (daP (ps.map toPc) xs s).1.length := by
  intro ps
  induction ps with
  | nil => intro xs s h hn; cases hn
  | cons p ps ih =>
    intro xs s h hn
    cases xs with
    | nil => cases p <;> exact absurd h (by simp [PcOK])
    | cons x xs =>
      cases p with
      | none =>
        have e : daP ((none :: ps).map toPc) (x :: xs) s = daP (ps.map toPc) xs (nmX x s) := rfl
        obtain ⟨ys, hy⟩ := daP_adds (ps.map toPc) xs (nmX x s)
        have := nmX_len h.1 s
        rw [e, hy, List.length_append]
        omega
      | some n =>
        have e : daP ((some n :: ps).map toPc) (x :: xs) s = daP (ps.map toPc) xs (s.1 ++ x.data.toList, s.2) := rfl
        have := ih xs (s.1 ++ x.data.toList, s.2) h.2 (by simpa using hn)
        rw [e]
        simp at this
        omega
theorem pieces_name {t : Nat} (h : pointed t) : none ∈ piecesOf t := by
  rcases h with rfl | rfl | rfl | rfl | rfl <;> decide

theorem StD.text {L : List UInt8} {s : Wst} (h : StD L s) (xs : List UInt8) : StD L (s.1 ++ xs, s.2) := ⟨h.ok.mono (by simp), h.pl, fun p hp => by have := h.lt p hp; simp; omega⟩

theorem dtP_dec {L : List UInt8} : ∀ (ps : List (Option Nat)) (xs : List ByteArray) (s : Wst) (acc : List UInt8), PcOK ps xs → StD L s → Has L s.1.length ((daP (ps.map toPc) xs s).1.drop s.1.length) →
    dtP L (daP (ps.map toPc) xs s).1.length ps s.1.length acc = .ok (acc ++ Dt.catL xs) (daP (ps.map toPc) xs s).1.length ∧ StD L (daP (ps.map toPc) xs s) := by
  intro ps
  induction ps with
  | nil =>
    intro xs s acc hp hs hag
    cases xs with
    | nil => exact ⟨by simp [daP, dtP, Dt.catL], hs⟩
    | cons x xs => exact absurd hp (by simp [PcOK])
  | cons p ps ih =>
    intro xs s acc hp hs hag
    cases xs with
    | nil => cases p <;> exact absurd hp (by simp [PcOK])
    | cons x xs =>
      have hcat : Dt.catL (x :: xs) = x.data.toList ++ Dt.catL xs := by simp [Dt.catL]
      cases p with
      | none =>
        obtain ⟨h1, h2⟩ := hp
        have e : daP ((none :: ps).map toPc) (x :: xs) s = daP (ps.map toPc) xs (nmX x s) := rfl
        rw [e] at hag ⊢
        obtain ⟨ys, hy⟩ := daP_adds (ps.map toPc) xs (nmX x s)
        obtain ⟨zs, hz⟩ := nmW_adds ((Nm.split x).getD []) s.1 s.2
        have hz' : (nmX x s).1 = s.1 ++ zs := hz
        rw [hy, hz', List.append_assoc, List.drop_left' rfl] at hag
        have g1 : Has L s.1.length ((nmX x s).1.drop s.1.length) := by rw [hz', List.drop_left' rfl]; exact hag.left
        obtain ⟨d1, d2, d3⟩ := nmX_dec h1 hs.ok hs.pl hs.lt g1
        have hs2 : StD L (nmX x s) := ⟨nmX_ok x s hs.ok, d2, d3⟩
        have g2 : Has L (nmX x s).1.length ((daP (ps.map toPc) xs (nmX x s)).1.drop (nmX x s).1.length) := by
          rw [hy, List.drop_left' rfl]
          have := hag.right
          rwa [show s.1.length + zs.length = (nmX x s).1.length by rw [hz']; simp] at this
        have hle : (nmX x s).1.length ≤ (daP (ps.map toPc) xs (nmX x s)).1.length := by rw [hy]; simp
        obtain ⟨i1, i2⟩ := ih xs (nmX x s) (acc ++ x.data.toList) h2 hs2 g2
        refine ⟨?_, i2⟩
        rw [dtP, d1]
        simp only
        rw [if_pos hle, i1, hcat, List.append_assoc]
      | some n =>
        obtain ⟨h1, h2⟩ := hp
        have e : daP ((some n :: ps).map toPc) (x :: xs) s = daP (ps.map toPc) xs (s.1 ++ x.data.toList, s.2) := rfl
        rw [e] at hag ⊢
        obtain ⟨ys, hy⟩ := daP_adds (ps.map toPc) xs (s.1 ++ x.data.toList, s.2)
        have hxl : x.data.toList.length = n := by rw [← h1]; simp
        simp only at hy
        rw [hy, List.append_assoc, List.drop_left' rfl] at hag
        have hs2 := hs.text x.data.toList
        have g2 : Has L (s.1 ++ x.data.toList).length ((daP (ps.map toPc) xs (s.1 ++ x.data.toList, s.2)).1.drop (s.1 ++ x.data.toList).length) := by
          rw [hy, List.drop_left' rfl, List.length_append]
          exact hag.right
        have hl2 : (s.1 ++ x.data.toList).length = s.1.length + n := by rw [List.length_append, hxl]
        have hle : s.1.length + n ≤ (daP (ps.map toPc) xs (s.1 ++ x.data.toList, s.2)).1.length := by rw [hy]; simp; omega
        have hcut : cutL L s.1.length n = x.data.toList := by rw [cutL, ← hxl]; exact hag.left.cut
        obtain ⟨i1, i2⟩ := ih xs (s.1 ++ x.data.toList, s.2) (acc ++ x.data.toList) h2 hs2 g2
        refine ⟨?_, i2⟩
        simp only [hl2] at i1
        rw [dtP, if_pos hle, hcut, i1, hcat, List.append_assoc]

/-- Data as it is written where names may have pointers. -/
theorem daW_impl {t : Nat} {d : ByteArray} (hp : pointed t) (hd : d.size ≠ 0) (hc : cutCode t d = 0) (s : Wst) : ∃ xs, Dt.parts (Dt.implP t) d = some xs ∧ daW t d s = daP (Dt.implP t) xs s := by
  obtain ⟨h1, _⟩ := (daS_daW (.inr hc) s).1 hp
  obtain ⟨sp, hsp⟩ := code_zero.1 hc
  obtain ⟨ps, g1, g2, g3⟩ := good_parts hc
  have e : Dt.spans (Dt.specP t) 0 d = some (Dt.spansOf (Dt.specP t) ps 0) := by rw [Dt.spans_of_parts, g1]; rfl
  rw [Dt.forms_agree, Dt.spans_of_parts] at e
  cases hq : Dt.parts (Dt.implP t) d with
  | none => rw [hq] at e; cases e
  | some xs =>
    refine ⟨xs, rfl, ?_⟩
    rw [hq] at e
    simp at e
    obtain ⟨p1, p2, p3⟩ := Dt.parts_cat _ _ _ hq
    rw [← h1, g2, Option.getD_some, ← e, daS_parts _ _ _ _ _ _ p1 (Nat.le_refl _) (Nat.zero_le _) (by simpa using p2)]
    have : (d.extract 0 0).data.toList = [] := by rw [ex_list]; simp
    rw [this, List.append_nil]

theorem dataS_dec {L : List UInt8} {t : Nat} {d : ByteArray} {s : Wst} (h : d.size = 0 ∨ cutCode t d = 0) (hs : StD L s) (hag : Has L s.1.length ((daW t d s).1.drop s.1.length)) :
    dataS L t s.1.length (daW t d s).1.length = .ok d.data.toList (daW t d s).1.length ∧ StD L (daW t d s) := by
  by_cases hd : d.size = 0
  · have e : daW t d s = (s.1 ++ d.data.toList, s.2) := by rw [daW, if_pos (.inl hd)]
    have hnil : d.data.toList = [] := List.eq_nil_of_length_eq_zero (by simpa using hd)
    rw [e, hnil, List.append_nil]
    exact ⟨by rw [dataS, if_pos rfl], hs⟩
  · have hc := h.resolve_left hd
    by_cases hp : pointed t
    · obtain ⟨xs, hx, e⟩ := daW_impl hp hd hc s
      rw [e] at hag ⊢
      rw [implP_pieces hp] at hag hx ⊢
      obtain ⟨c1, c2, _⟩ := Dt.parts_cat _ _ _ hx
      obtain ⟨i1, i2⟩ := dtP_dec (piecesOf t) xs s [] (parts_ok _ _ _ hx) hs hag
      refine ⟨?_, i2⟩
      have hne : s.1.length ≠ (daP ((piecesOf t).map toPc) xs s).1.length := by
        have := daP_more (piecesOf t) xs s (parts_ok _ _ _ hx) (pieces_name hp)
        omega
      rw [dataS, if_neg hne, if_pos hp, i1, c2]
      simp
    · have e : daW t d s = (s.1 ++ d.data.toList, s.2) := by rw [daW, if_pos (.inr hp)]
      rw [e] at hag ⊢
      rw [List.drop_left' rfl] at hag
      have hl : (s.1 ++ d.data.toList).length = s.1.length + d.size := by simp
      have hcut : cutL L s.1.length d.size = d.data.toList := by
        have := hag.cut
        rwa [show d.data.toList.length = d.size by simp] at this
      refine ⟨?_, hs.text _⟩
      simp only [hl]
      rw [dataS, if_neg (by omega), if_neg hp, show s.1.length + d.size - s.1.length = d.size by omega, hcut]
      have : (⟨d.data.toList.toArray⟩ : ByteArray) = d := by apply Nm.ba_ext; simp
      rw [this, if_pos hc]

theorem daW_adds (t : Nat) (d : ByteArray) (s : Wst) : ∃ ys, (daW t d s).1 = s.1 ++ ys := by
  rw [daW]
  split
  · exact ⟨_, rfl⟩
  · exact daP_adds _ _ _

theorem set_two (P ys : List UInt8) (a b : UInt8) : ((P ++ [0, 0] ++ ys).set P.length a).set (P.length + 1) b = P ++ [a, b] ++ ys := by
  have e1 : P ++ [0, 0] ++ ys = P ++ (0 :: 0 :: ys) := by simp
  have e2 : P ++ [a, b] ++ ys = P ++ (a :: b :: ys) := by simp
  rw [e1, e2, List.set_append_right _ _ (Nat.le_refl _), Nat.sub_self, List.set_cons_zero, List.set_append_right _ _ (by omega), Nat.add_sub_cancel_left]
  rfl

theorem rrFin_eq {A D : Wst} {P ys : List UInt8} (hA : A.1 = P ++ [0, 0]) (hD : D.1 = A.1 ++ ys) : (rrFin A.1.length D).1 = P ++ put2 ys.length ++ ys := by
  have hl : A.1.length = P.length + 2 := by rw [hA]; simp
  have hn : D.1.length - A.1.length = ys.length := by rw [hD]; simp
  rw [rrFin, hn, hl, show P.length + 2 - 2 = P.length by omega, show P.length + 2 - 1 = P.length + 1 by omega, hD, hA]
  exact set_two P ys _ _

theorem rrS_dec {L : List UInt8} {r : Rr} {s : Wst} (h : rcOK r = true) (hs : StD L s) (hpre : (rrW r s).1 <+: L) : rrS L s.1.length = .ok (rmOf r) (rrW r s).1.length ∧ StD L (rrW r s) := by
  obtain ⟨h1, ⟨t, ht, htl⟩, ⟨c, hc, hcl⟩, h4, h5, h6, h7⟩ := rc_parts h
  rw [ht] at h6
  obtain ⟨ls, hls⟩ := Option.isSome_iff_exists.1 h1
  obtain ⟨xs, hxs⟩ := nmW_adds ls s.1 s.2
  rw [← nmX_of hls s] at hxs
  have hN := nmX_len h1 s
  generalize hNm : nmX r.own s = N at *
  have hA : (rrA r.own t c r.tt s).1 = (N.1 ++ (put2 t ++ put2 c ++ put4 r.tt)) ++ [0, 0] := by simp [rrA, hNm]
  have hA2 : (rrA r.own t c r.tt s).2 = N.2 := by simp [rrA, hNm]
  have hAl : (rrA r.own t c r.tt s).1.length = N.1.length + 10 := by rw [hA]; simp [put2, put4]
  obtain ⟨ys, hys⟩ := daW_adds t r.da (rrA r.own t c r.tt s)
  have hdl := daW_len h6 (rrA r.own t c r.tt s)
  have hyl : ys.length < 65536 := by rw [hys, List.length_append] at hdl; omega
  have hW : (rrW r s).1 = (N.1 ++ (put2 t ++ put2 c ++ put4 r.tt)) ++ put2 ys.length ++ ys := by
    have := rrFin_eq hA hys
    rw [rrW, ht, hc]
    simp only [Int.toNat_natCast]
    exact this
  have hW2 : (rrW r s).2 = (daW t r.da (rrA r.own t c r.tt s)).2 := by rw [rrW, ht, hc]; rfl
  rw [hW] at hpre
  have hag : Has L s.1.length (N.1.drop s.1.length) := by
    rw [hxs, List.drop_left' rfl]
    exact Has.of_pre hpre (ys := s.1) (zs := (put2 t ++ put2 c ++ put4 r.tt) ++ put2 ys.length ++ ys) (by rw [hxs]; simp) rfl
  obtain ⟨d1, d2, d3⟩ := nmX_dec h1 hs.ok hs.pl hs.lt (by rw [hNm]; exact hag)
  rw [hNm] at d1 d2 d3
  have hNk : PlOK N.2 N.1.length := by rw [← hNm]; exact nmX_ok r.own s hs.ok
  have g1 : Has L N.1.length (put2 t) := Has.of_pre hpre (ys := N.1) (zs := put2 c ++ put4 r.tt ++ put2 ys.length ++ ys) (by simp) rfl
  have g2 : Has L (N.1.length + 2) (put2 c) := Has.of_pre hpre (ys := N.1 ++ put2 t) (zs := put4 r.tt ++ put2 ys.length ++ ys) (by simp) (by simp [put2])
  have g3 : Has L (N.1.length + 4) (put4 r.tt) := Has.of_pre hpre (ys := N.1 ++ put2 t ++ put2 c) (zs := put2 ys.length ++ ys) (by simp) (by simp [put2])
  have g4 : Has L (N.1.length + 8) (put2 ys.length) := Has.of_pre hpre (ys := N.1 ++ put2 t ++ put2 c ++ put4 r.tt) (zs := ys) (by simp) (by simp [put2, put4])
  have g5 : Has L (N.1.length + 10) ys := Has.of_pre hpre (ys := N.1 ++ put2 t ++ put2 c ++ put4 r.tt ++ put2 ys.length) (zs := []) (by simp) (by simp [put2, put4])
  have hle : N.1.length + 10 + ys.length ≤ L.length := by
    obtain ⟨z, rfl⟩ := hpre
    simp [put2, put4]
    omega
  have hsA : StD L (rrA r.own t c r.tt s) := by
    refine ⟨rrA_ok _ _ _ _ _ hs.ok, by rw [hA2]; exact d2, fun p hp => ?_⟩
    rw [hA2] at hp
    have := d3 p hp
    rw [hAl]
    omega
  have hagD : Has L (rrA r.own t c r.tt s).1.length ((daW t r.da (rrA r.own t c r.tt s)).1.drop (rrA r.own t c r.tt s).1.length) := by
    rw [hys, List.drop_left' rfl, hAl]
    exact g5
  obtain ⟨e1, e2⟩ := dataS_dec h6 hsA hagD
  have hDl : (daW t r.da (rrA r.own t c r.tt s)).1.length = N.1.length + 10 + ys.length := by rw [hys, List.length_append, hAl]
  rw [hAl, hDl] at e1
  have hRl : (rrW r s).1.length = N.1.length + 10 + ys.length := by rw [hW]; simp [put2, put4]; omega
  refine ⟨?_, ⟨rrW_ok r s hs.ok, by rw [hW2]; exact e2.pl, fun p hp => ?_⟩⟩
  · have q3 := n32_has g3 h4 h5
    rw [rrS, d1]
    simp only
    rw [n16_has g4 hyl, if_pos (by omega), if_pos hle, n16_has g1 htl, n16_has g2 hcl, e1, hRl]
    simp only
    rw [rmOf, ht, hc]
    simp only [Int.toNat_natCast]
    rw [show n32 L (N.1.length + 4) = r.tt.toNat by omega]
  · rw [hW2] at hp
    have := e2.lt p hp
    rw [hDl] at this
    rw [hRl]
    exact this
end Go.Proofs.Ythhagapmcbkeiaa
/- impl.bigBytes by its contract. -/
namespace Go.Proofs.Ythhagapmcbkeiaa
open Go.RowKit

theorem big_set {w W : World} {n cap j : Nat} {xs ys : List Value} {u : Value} (h : w.ownsRow W.heap.size 5 1 (.slice (some ⟨W.heap.size, 0, none⟩) n cap) n xs) (hb : Below W.heap.size W w) (e : xs.set j u = ys) :
    (w.setCell ⟨W.heap.size, j, none⟩ u).ownsRow W.heap.size 5 1 (.slice (some ⟨W.heap.size, 0, none⟩) n cap) n ys ∧ Below W.heap.size W (w.setCell ⟨W.heap.size, j, none⟩ u) := by
  have := (h.stored j u).1
  rw [e] at this
  exact ⟨this, hb.setCell (Nat.le_refl _) _⟩

set_option maxRecDepth 100000 in
set_option maxHeartbeats 800000 in
theorem bigBytes4_any (n : Int) (w : World) (h0 : 0 ≤ n) (h1 : n ≤ 4294967295) :
    Calls Try.prog 29 #[.int .i64 n, .int .i64 4] w fun e w' => e = .returned (.string ⟨(put4 n).toArray⟩) ∧ Below w.heap.size w w' := by
  obtain ⟨i0, hi, hz0, hz1, hz2⟩ := info_parts Try.infoB
  have hcs := put4_cells n
  have e : n / 16777216 % 256 = n / 16777216 := by omega
  rw [e] at hcs
  clear e
  obtain ⟨wm, hmk, hownm, hgrm⟩ := run_make_full (P := Try.prog) w w.heap.size 22 5 i0 (.int .u8 0) 1 Try.underlying22 hi hz0 hz1 .i64 .i64 4 (by rw [hz2]; omega) (by unfold maxLen; omega) (Nat.le_refl _)
  have hbelm : Below w.heap.size w wm := (Below.refl _ _).grown hgrm (Nat.le_refl _) (by simp)
  have hz4 : (madeCells (Value.int .u8 0).cells (4 * 1)).toList = [.int .u8 0, .int .u8 0, .int .u8 0, .int .u8 0] := by kernel_rfl
  rw [hz4] at hownm
  rw [show ((4 : Nat) : Int) = 4 from rfl] at hmk
  clear hgrm hz4
  go_enter Try.func29, Try.ntmps29
  go_wp2
  go_loopw [11] (fun i wr => ∃ j : Nat, j ≤ 4 ∧ i = .int .i64 (j : Int) ∧ wr.ownsRow w.heap.size 5 1 (.slice (some ⟨w.heap.size, 0, none⟩) 4 4) 4 ([Value.int .u8 (n / 16777216), .int .u8 (n / 65536 % 256), .int .u8 (n / 256 % 256), .int .u8 (n % 256)].take j ++ [Value.int .u8 0, .int .u8 0, .int .u8 0, .int .u8 0].drop j) ∧ Below w.heap.size w wr)
    (fun i _ => (4 - intOf i).toNat)
  case atStart => exact ⟨0, by omega, rfl, hownm, hbelm⟩
  case round =>
    obtain ⟨j, hj, rfl, hown, hbel⟩ := hrel
    clear hownm hbelm hmk
    obtain rfl | rfl | rfl | rfl | rfl : j = 0 ∨ j = 1 ∨ j = 2 ∨ j = 3 ∨ j = 4 := by omega
    · simp only [List.take_zero, List.drop_zero, List.nil_append, Int.cast_ofNat_Int] at hown ⊢
      have hc : wr.cell? ⟨w.heap.size, 0, none⟩ = some (.int .u8 0) := (hown.cellAt 0 (by omega)).trans rfl
      have hfz := hown.frozenAt 0
      have R := Nm.hide (big_set (j := 0) (u := .int .u8 (n / 16777216)) hown hbel rfl)
      clear hown hbel
      go_wp2
      go_roundw
      case rel => exact ⟨1, by omega, by go_num, R.out.1, R.out.2⟩
      case measure => simp [intOf]
    · simp only [List.take_succ_cons, List.take_zero, List.drop_succ_cons, List.drop_zero, List.cons_append, List.nil_append, Int.cast_ofNat_Int] at hown ⊢
      have hc : wr.cell? ⟨w.heap.size, 1, none⟩ = some (.int .u8 0) := (hown.cellAt 1 (by omega)).trans rfl
      have hfz := hown.frozenAt 1
      have R := Nm.hide (big_set (j := 1) (u := .int .u8 (n / 65536 % 256)) hown hbel rfl)
      clear hown hbel
      go_wp2
      go_roundw
      case rel => exact ⟨2, by omega, by go_num, R.out.1, R.out.2⟩
      case measure => simp [intOf]
    · simp only [List.take_succ_cons, List.take_zero, List.drop_succ_cons, List.drop_zero, List.cons_append, List.nil_append, Int.cast_ofNat_Int] at hown ⊢
      have hc : wr.cell? ⟨w.heap.size, 2, none⟩ = some (.int .u8 0) := (hown.cellAt 2 (by omega)).trans rfl
      have hfz := hown.frozenAt 2
      have R := Nm.hide (big_set (j := 2) (u := .int .u8 (n / 256 % 256)) hown hbel rfl)
      clear hown hbel
      go_wp2
      go_roundw
      case rel => exact ⟨3, by omega, by go_num, R.out.1, R.out.2⟩
      case measure => simp [intOf]
    · simp only [List.take_succ_cons, List.take_zero, List.drop_succ_cons, List.drop_zero, List.cons_append, List.nil_append, Int.cast_ofNat_Int] at hown ⊢
      have hc : wr.cell? ⟨w.heap.size, 3, none⟩ = some (.int .u8 0) := (hown.cellAt 3 (by omega)).trans rfl
      have hfz := hown.frozenAt 3
      have R := Nm.hide (big_set (j := 3) (u := .int .u8 (n % 256)) hown hbel rfl)
      clear hown hbel
      go_wp2
      go_roundw
      case rel => exact ⟨4, by omega, by go_num, R.out.1, R.out.2⟩
      case measure => simp [intOf]
    · simp only [List.take_succ_cons, List.take_zero, List.drop_succ_cons, List.drop_zero, List.append_nil, Int.cast_ofNat_Int] at hown ⊢
      rw [← hcs] at hown
      have HC := Nm.conv_own (P := Try.prog) (src := 22) (dst := 9) Try.underlying22 Try.underlying5 Try.underlying9 hown (by omega)
      obtain ⟨g, cap, hv, hcv⟩ := HC
      cases hv
      clear hown
      go_wp2
      go_ret
      exact ⟨rfl, hbel⟩
end Go.Proofs.Ythhagapmcbkeiaa
/- impl.bigBytes at width 2 by its contract. -/
namespace Go.Proofs.Ythhagapmcbkeiaa
open Go.RowKit

set_option maxRecDepth 100000 in
set_option maxHeartbeats 800000 in
theorem bigBytes2_any (n : Nat) (w : World) (hn : n < 65536) :
    Calls Try.prog 29 #[.int .i64 (n : Int), .int .i64 2] w fun e w' => e = .returned (.string ⟨(put2 n).toArray⟩) ∧ Below w.heap.size w w' := by
  obtain ⟨i0, hi, hz0, hz1, hz2⟩ := info_parts Try.infoB
  have hcs := put2_cells hn
  have hn' : (n : Int) < 65536 := by omega
  obtain ⟨wm, hmk, hownm, hgrm⟩ := run_make_full (P := Try.prog) w w.heap.size 22 5 i0 (.int .u8 0) 1 Try.underlying22 hi hz0 hz1 .i64 .i64 2 (by rw [hz2]; omega) (by unfold maxLen; omega) (Nat.le_refl _)
  have hbelm : Below w.heap.size w wm := (Below.refl _ _).grown hgrm (Nat.le_refl _) (by simp)
  have hz4 : (madeCells (Value.int .u8 0).cells (2 * 1)).toList = [.int .u8 0, .int .u8 0] := by kernel_rfl
  rw [hz4] at hownm
  rw [show ((2 : Nat) : Int) = 2 from rfl] at hmk
  clear hgrm hz4
  go_enter Try.func29, Try.ntmps29
  go_wp2
  go_loopw [11] (fun i wr => ∃ j : Nat, j ≤ 2 ∧ i = .int .i64 (j : Int) ∧ wr.ownsRow w.heap.size 5 1 (.slice (some ⟨w.heap.size, 0, none⟩) 2 2) 2 ([Value.int .u8 ((n : Int) / 256), .int .u8 ((n : Int) % 256)].take j ++ [Value.int .u8 0, .int .u8 0].drop j) ∧ Below w.heap.size w wr)
    (fun i _ => (2 - intOf i).toNat)
  case atStart => exact ⟨0, by omega, rfl, hownm, hbelm⟩
  case round =>
    obtain ⟨j, hj, rfl, hown, hbel⟩ := hrel
    clear hownm hbelm hmk
    obtain rfl | rfl | rfl : j = 0 ∨ j = 1 ∨ j = 2 := by omega
    · simp only [List.take_zero, List.drop_zero, List.nil_append, Int.cast_ofNat_Int] at hown ⊢
      have hc : wr.cell? ⟨w.heap.size, 0, none⟩ = some (.int .u8 0) := (hown.cellAt 0 (by omega)).trans rfl
      have hfz := hown.frozenAt 0
      have R := Nm.hide (big_set (j := 0) (u := .int .u8 ((n : Int) / 256)) hown hbel rfl)
      clear hown hbel
      go_wp2
      go_roundw
      case rel => exact ⟨1, by omega, by go_num, R.out.1, R.out.2⟩
      case measure => simp [intOf]
    · simp only [List.take_succ_cons, List.take_zero, List.drop_succ_cons, List.drop_zero, List.cons_append, List.nil_append, Int.cast_ofNat_Int] at hown ⊢
      have hc : wr.cell? ⟨w.heap.size, 1, none⟩ = some (.int .u8 0) := (hown.cellAt 1 (by omega)).trans rfl
      have hfz := hown.frozenAt 1
      have R := Nm.hide (big_set (j := 1) (u := .int .u8 ((n : Int) % 256)) hown hbel rfl)
      clear hown hbel
      go_wp2
      go_roundw
      case rel => exact ⟨2, by omega, by go_num, R.out.1, R.out.2⟩
      case measure => simp [intOf]
    · simp only [List.take_succ_cons, List.take_zero, List.drop_succ_cons, List.drop_zero, List.append_nil, Int.cast_ofNat_Int] at hown ⊢
      rw [← hcs] at hown
      have HC := Nm.conv_own (P := Try.prog) (src := 22) (dst := 9) Try.underlying22 Try.underlying5 Try.underlying9 hown (by omega)
      obtain ⟨g, cap, hv, hcv⟩ := HC
      cases hv
      clear hown
      go_wp2
      go_ret
      exact ⟨rfl, hbel⟩
end Go.Proofs.Ythhagapmcbkeiaa
