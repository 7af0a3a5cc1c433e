import Derived.Test.YtehggabhjpiclaaJBitM
import Derived.Test.YtehggabhjpiclaaJStpA
import Derived.Lib.AppendStr
import Derived.Maps.Own
import Derived.StringKeys
/- The program's writer; (*writer).number by its contract. -/
namespace Go.Proofs.Ytehggabhjpiclaa
open Go.RowKit
set_option linter.unusedVariables false

theorem step_append_str {P : Program} {ops : Array Oper} {o : Oper} {a : Act} {w : World} {K : Act → World → Prop} {Q : Exit → Act → World → Prop} {E : Prop} (hgd : o.guard = none) (sl x : Operand) (t u : TypeId)
    (ho : o.op = .call { callee := .builtin .append, args := #[sl, x], argTypes := #[t, u] })
    (base : Nat) (e : TypeId) (i : TypeInfo) (ht : P.underlying t = some (.slice e)) (hu : P.underlying u = some .string) (hi : P.info? e = some i) (hz : i.zero = some (.int .u8 0))
    (hsize : i.size = 1) (hby : i.bytes = 1)
    (v : Value) (n : Nat) (xs : List Value) (hs : a.eval sl = v) (hown : w.ownsRow base e 1 v n xs) (s : ByteArray) (hx : a.eval x = .string s)
    (h63 : n + s.size ≤ maxLen) (hbytes : n + s.size ≤ 140737488355328) (hbase : base ≤ w.heap.size)
    (h : ∀ v' w', w'.ownsRow base e 1 v' (n + s.size) (xs ++ Go.Lib.strCells s) → w.grownBy w' v.ownBlock → K (a.put o.dst v') w') :
    if Region.wanted o (yielded ops a.tmps) = true then Oper.wp P o a w K Q else E := by
  have hw : Region.wanted o (yielded ops a.tmps) = true := by simp [Region.wanted, hgd]
  rw [if_pos hw]
  obtain ⟨v', w', hr, h2, h3, h4⟩ := Go.Lib.run_append_own_string (P := P) w base t u o.type e i ht hu hi hz hsize hby v n xs hown s h63 hbytes hbase
  unfold Oper.wp execOp
  simp only [ho, resolve, invoke, builtin, Sem.run_bind, Sem.run_pure, Result.andThen_ok, List.map_toArray, List.map_cons, List.map_nil, hs, hx, hr]
  exact h v' w' h2 h3

/-- The program's writer lies in block g. -/
structure PW (w : World) (g B : Nat) (bs : List UInt8) (vb vm : Value) : Prop where
  blk : Blk w g #[vb, vm] 81
  rb : w.ownsRow B 5 1 vb bs.length (Nm.bys bs)
  bg : B ≤ g
theorem PW.below {w W : World} {g B : Nat} {bs : List UInt8} {vb vm : Value} (h : PW w g B bs vb vm) (hb : Below w.heap.size w W) : PW W g B bs vb vm := ⟨blk_below h.blk hb, own_below h.rb hb, h.bg⟩

def isCells : Obj → TypeId → Prop
  | .cells _ T _, T' => T = T'
  | _, _ => False
/-- Below B, and objects that are neither bytes nor a writer are as they were. -/
structure Bw (B : Nat) (w w' : World) : Prop where
  be : Below B w w'
  kp : ∀ (k : Nat) (o : Obj), w.heap[k]? = some o → ¬ isCells o 5 → ¬ isCells o 81 → w'.heap[k]? = some o
theorem Bw.refl (B : Nat) (w : World) : Bw B w w := ⟨Below.refl _ _, fun _ _ h _ _ => h⟩
theorem Bw.trans {B : Nat} {a b c : World} (h : Bw B a b) (k : Bw B b c) : Bw B a c := ⟨h.be.trans k.be, fun i o hb h1 h2 => k.kp i o (h.kp i o hb h1 h2) h1 h2⟩
theorem Bw.of {B : Nat} {w w' : World} (h : Below w.heap.size w w') (hB : B ≤ w.heap.size) : Bw B w w' := ⟨h.mono hB, fun i o hb _ _ => (h.block i (Array.getElem?_eq_some_iff.1 hb).1).trans hb⟩
theorem Bw.app {B s n : Nat} {w W W1 : World} {v : Value} {xs : List Value} (h : Bw B w W) (ho : W.ownsRow B 5 s v n xs) (hg : W.grownBy W1 v.ownBlock) (hB : B ≤ W.heap.size) : Bw B w W1 := by
  refine ⟨h.be.grown hg hB (fun q hq => (ho.lt q hq).1), fun i o hb h1 h2 => ?_⟩
  have hb' := h.kp i o hb h1 h2
  refine (hg.block i (Array.getElem?_eq_some_iff.1 hb').1 (fun e => ?_)).trans hb'
  rcases ho.2 with ⟨rfl, _⟩ | ⟨g', cap', cur, rfl, _, hh, _⟩
  · simp [Value.ownBlock] at e
  · simp only [Value.ownBlock, Option.some.injEq] at e
    subst e
    rw [hh] at hb'
    cases hb'
    exact h1 rfl
theorem Bw.set {B g : Nat} {w W : World} {cs : Array Value} (h : Bw B w W) (hb : Blk W g cs 81) (hg : B ≤ g) (i : Nat) (v : Value) : Bw B w (W.setCell ⟨g, i, none⟩ v) := by
  refine ⟨h.be.setCell hg _, fun k o hk h1 h2 => ?_⟩
  have hk' := h.kp k o hk h1 h2
  have hne : k ≠ g := by
    intro e
    subst e
    unfold Blk at hb
    rw [hb] at hk'
    cases hk'
    exact h2 rfl
  rw [heap_setCell_other W ⟨g, i, none⟩ k _ (by simpa using hne)]
  exact hk'
set_option maxRecDepth 100000 in
set_option maxHeartbeats 1600000 in
theorem number_w_any (n k : Int) (PB : ByteArray) (hput : ∀ W, Calls Try.prog 57 #[.int .i64 n, .int .i64 k] W fun e w' => e = .returned (.string PB) ∧ Below W.heap.size W w') (g B : Nat) (bs : List UInt8) (vb vm : Value) (w : World) (h : PW w g B bs vb vm) (hB : B ≤ w.heap.size) (hl : bs.length + PB.size ≤ 100000000) :
    Calls Try.prog 55 #[.pointer (some ⟨g, 0, none⟩), .int .i64 n, .int .i64 k] w fun e w' => e = .returned (.tuple #[]) ∧ ∃ vb', PW w' g B (bs ++ PB.data.toList) vb' vm ∧ Bw B w w' := by
  obtain ⟨i0, hi, hz0, hz1, hz2⟩ := info_parts Try.infoU8w
  obtain ⟨xa, ya, hv⟩ := own_sl h.rb
  subst hv
  have c0 : w.cell? ⟨g, 0, none⟩ = some (.slice xa bs.length ya) := (blk_cell h.blk 0).trans rfl
  go_enter Try.func55, Try.ntmps55
  go_wp2_with fail
  refine wp_region_last (fun W => W.cell? ⟨g, 0, none⟩ = some (.slice xa bs.length ya)) 11 (by kernel_rfl) c0 (fun hHeld => ?_)
  refine wpAnyL_take (i := 0) (v := ?_) rfl (by kernel_rfl) (by kernel_rfl) (by kernel_rfl) (by kernel_rfl) (fun _ _ _ h => h) (Or.inl ⟨by rfl, ?_⟩) (by assumption) ?_
  rotate_left 1
  · (intro w hSw; go_simp; try (with_reducible rfl))
  refine wpAnyL_take (i := 1) (v := ?_) rfl (by kernel_rfl) (by kernel_rfl) (by kernel_rfl) (by kernel_rfl) (fun _ _ _ h => h) (Or.inl ⟨by rfl, ?_⟩) (by assumption) ?_
  rotate_left 1
  · (intro w hSw; go_simp; try (with_reducible rfl))
  refine wpAnyL_take (i := 2) (v := ?_) rfl (by kernel_rfl) (by kernel_rfl) (by kernel_rfl) (by kernel_rfl) (fun _ _ _ h => h) (Or.inl ⟨by rfl, ?_⟩) (by assumption) ?_
  rotate_left 1
  · (intro w hSw; go_simp; try (with_reducible rfl))
  refine wpAnyL_take (i := 3) (v := ?_) rfl (by kernel_rfl) (by kernel_rfl) (by kernel_rfl) (by kernel_rfl) (fun _ _ _ h => h) (Or.inl ⟨by rfl, ?_⟩) (by assumption) ?_
  rotate_left 1
  · (intro w hSw; go_simp; try (with_reducible rfl))
  refine wpAnyL_take (i := 4) (v := ?_) rfl (by kernel_rfl) (by kernel_rfl) (by kernel_rfl) (by kernel_rfl) (fun _ _ _ h => h) (Or.inl ⟨by rfl, ?_⟩) (by assumption) ?_
  rotate_left 1
  · (intro w hSw; go_simp; try (with_reducible rfl))
  refine wpAnyL_take (i := 5) (v := ?_) rfl (by kernel_rfl) (by kernel_rfl) (by kernel_rfl) (by kernel_rfl) (fun _ _ _ h => h) (Or.inl ⟨by rfl, ?_⟩) (by assumption) ?_
  rotate_left 1
  · (intro w hSw; go_simp; try (with_reducible rfl))
  refine wpAnyL_take (i := 6) (v := ?_) rfl (by kernel_rfl) (by kernel_rfl) (by kernel_rfl) (by kernel_rfl) (fun _ _ _ h => h) (Or.inl ⟨by rfl, ?_⟩) (by assumption) ?_
  rotate_left 1
  · (intro w hSw; go_simp; try (with_reducible rfl))
  have hd : PW w.drew g B bs (.slice xa bs.length ya) vm := h.below (Below.refl _ _).drew
  refine wpAnyL_one (i := 7) (by kernel_rfl) rfl (fun K hK => ?_)
  go_simp
  refine (hput _).mono ?_
  rintro e wn ⟨rfl, hbn⟩
  go_wp2_with fail
  have hn := hd.below hbn
  have bn : Bw B w wn := (Bw.of (Below.refl _ _).drew hB).trans (Bw.of hbn hB)
  have hBn : B ≤ wn.heap.size := Nat.le_trans hB hbn.size
  refine hK.out _ _ ((blk_cell hn.blk 0).trans rfl) (fun hH2 => ?_)
  clear hK K
  refine wpAnyL_one (i := 8) (by kernel_rfl) rfl (fun K hK => ?_)
  refine step_append_str rfl (.tmp 10) (.tmp 13) 42 9 rfl B 5 i0 Try.underlying42 Try.underlying9 hi hz0 hz1 hz2 (.slice xa bs.length ya) bs.length (Nm.bys bs) (by rfl) hn.rb PB (by rfl) (by unfold maxLen; omega) (by omega) hBn ?_
  intro va wa hown9 hgrow9
  rw [Nm.bys_str, ← Nm.bys_append] at hown9
  obtain ⟨xb, yb, hvb⟩ := own_sl hown9
  have hblk9 : Blk wa g #[.slice xa bs.length ya, vm] 81 := blk_grown hn.blk hgrow9 (fun e => own_blk hn.rb hn.blk (by decide) e)
  have b9 : Bw B w wa := bn.app hn.rb hgrow9 hBn
  have c9 : wa.cell? ⟨g, 0, none⟩ = some (.slice xa bs.length ya) := (blk_cell hblk9 0).trans rfl
  have f9 := blk_frozen hblk9 0
  rw [hvb]
  refine hK.out _ _ c9 (fun hH3 => ?_)
  clear hK K
  refine wpAnyL_one (i := 9) (by kernel_rfl) rfl (fun K hK => ?_)
  go_simp
  refine hK.out _ _ c9 (fun hH4 => ?_)
  clear hK K
  refine wpAnyL_take (i := 10) (v := ?_) rfl (by kernel_rfl) (by kernel_rfl) (by kernel_rfl) (by kernel_rfl) (fun _ _ _ h => h) (Or.inl ⟨by rfl, ?_⟩) (by assumption) ?_
  rotate_left 1
  · (intro w hSw; go_simp; try (with_reducible rfl))
  refine wpAnyL_end (by kernel_rfl) rfl (by kernel_rfl) (fun K hK => ?_)
  go_simp
  refine hK.out _ _ ?_
  clear hK K
  rw [hvb] at hown9
  have hlen : bs.length + PB.size = (bs ++ PB.data.toList).length := by simp
  have hS10 : PW (wa.setCell ⟨g, 0, none⟩ (.slice xb (bs.length + PB.size) yb)) g B (bs ++ PB.data.toList) (.slice xb (bs.length + PB.size) yb) vm := ⟨blk_set hblk9 0 _, by rw [← hlen]; exact own_far hown9 (own_blk hown9 hblk9 (by decide)), h.bg⟩
  have b10 := b9.set hblk9 h.bg 0 (.slice xb (bs.length + PB.size) yb)
  refine bodyPost_end (v := .tuple #[]) ?_ rfl ⟨rfl, _, hS10, b10⟩
  simp [results, go_sem]
end Go.Proofs.Ytehggabhjpiclaa
/- A map of the call's own with strings as keys and numbers as values: its entries as a list. -/
namespace Go.Proofs.Ytehggabhjpiclaa
open Go Go.Maps Go.MapKept Go.ChangeMaps Go.RowKit
set_option linter.unusedVariables false

def smV (p : ByteArray × Nat) : Value × Value := (.string p.1, .int .i64 (p.2 : Int))
/-- Block r is a map with these entries. -/
def SMap (w : World) (r : Nat) (L : List (ByteArray × Nat)) : Prop := ∃ es clock, w.heap[r]? = some (.map es clock) ∧ es.toList.map (fun e => (e.key, e.val)) = L.map smV ∧
  (∀ p ∈ L, p.1.size ≤ maxLen) ∧ (L.map (·.1)).Nodup

theorem smap_made (w : World) : SMap (w.alloc (.map #[] 0)) w.heap.size [] :=
  ⟨#[], 0, by show (w.heap.push _)[w.heap.size]? = _; simp, rfl, by simp, by simp⟩

theorem grown_blockS (w : World) (r : Nat) (o : Obj) : w.grownBy (setBlock w r o) (some r) :=
  ⟨rfl, rfl, rfl, by simp [setBlock], fun k hk hne => by simp only [setBlock]; rw [Array.getElem?_setIfInBounds_ne (fun e => hne (by rw [e]))]⟩

theorem seenS_mem {L : List (ByteArray × Nat)} (h : (L.map (·.1)).Nodup) {x : ByteArray} {n : Nat} (hm : (x, n) ∈ L) : seenS L x = (n : Int) := by
  induction L with
  | nil => cases hm
  | cons y L ih =>
    simp only [List.map_cons, List.nodup_cons] at h
    rw [seenS]
    rcases List.mem_cons.1 hm with rfl | hm'
    · simp
    · rw [if_neg, ih h.2 hm']
      intro e
      exact h.1 (List.mem_map.2 ⟨(x, n), hm', e.symm⟩)
theorem seenS_none {L : List (ByteArray × Nat)} {x : ByteArray} (h : ∀ p ∈ L, p.1 ≠ x) : seenS L x = -1 := by
  induction L with
  | nil => rfl
  | cons y L ih =>
    rw [seenS, if_neg (h y (List.mem_cons_self ..)), ih (fun p hp => h p (List.mem_cons_of_mem _ hp))]
theorem seenS_not {L : List (ByteArray × Nat)} {x : ByteArray} (h : seenS L x < 0) : ∀ p ∈ L, p.1 ≠ x := by
  induction L with
  | nil => intro p hp; cases hp
  | cons y L ih =>
    rw [seenS] at h
    intro p hp
    by_cases e : y.1 = x
    · rw [if_pos e] at h; omega
    · rw [if_neg e] at h
      rcases List.mem_cons.1 hp with rfl | hp
      · exact e
      · exact ih h p hp

section
variable {P : Program} {w : World} {r : Nat} {L : List (ByteArray × Nat)} {t k e : TypeId}

theorem smap_entry {es : Array MapEntry} (h : es.toList.map (fun e => (e.key, e.val)) = L.map smV) {x : MapEntry} (hx : x ∈ es.toList) : ∃ p ∈ L, x.key = .string p.1 ∧ x.val = .int .i64 (p.2 : Int) := by
  have : (x.key, x.val) ∈ es.toList.map (fun e => (e.key, e.val)) := List.mem_map.2 ⟨x, hx, rfl⟩
  rw [h] at this
  obtain ⟨p, hp, he⟩ := List.mem_map.1 this
  simp only [smV, Prod.mk.injEq] at he
  exact ⟨p, hp, he.1.symm, he.2.symm⟩

theorem SMap.lt (h : SMap w r L) : r < w.heap.size := by
  obtain ⟨es, clock, hb, _⟩ := h
  obtain ⟨hlt, _⟩ := Array.getElem?_eq_some_iff.1 hb
  exact hlt

theorem SMap.kept {w' : World} (h : SMap w r L) (hb : w'.heap[r]? = w.heap[r]?) : SMap w' r L := by
  obtain ⟨es, clock, h1, h2⟩ := h
  exact ⟨es, clock, hb.trans h1, h2⟩

theorem SMap.put (h : SMap w r L) (hk : P.underlying k = some .string) (ht : P.underlying t = some (.map k e)) {x : ByteArray} (hx : x.size ≤ maxLen) (n : Nat) (hn : ∀ p ∈ L, p.1 ≠ x) :
    ∃ w', (Instr.mapUpdate t (.map (some r)) (.string x) (.int .i64 (n : Int))).run P w = .ok () w' ∧ SMap w' r (L ++ [(x, n)]) ∧ w.grownBy w' (some r) := by
  have K : Keyed P k := string_keyed hk
  have hkey := WideMaps.keyOf_string_mk hk hx
  have hlt := h.lt
  obtain ⟨es, clock, hb, hes, hwf, hnd⟩ := h
  rcases K.find w hkey es.toList (fun y hy => by obtain ⟨p, hp, h1, _⟩ := smap_entry hes hy; rw [h1]; exact ⟨_, WideMaps.keyOf_string_mk hk (hwf p hp)⟩) with ⟨h1, h2⟩ | ⟨j, e0, h1, h2, h3⟩
  · refine ⟨setBlock w r (.map (es.push ⟨.string x, .int .i64 (n : Int), clock⟩) (clock + 1)), ?_, ⟨es.push ⟨.string x, .int .i64 (n : Int), clock⟩, clock + 1, ?_, ?_, ?_, ?_⟩, grown_blockS _ _ _⟩
    · simp [Instr.mapUpdate, run_underlying ht, MapKept.run_getObj_map hb, K.check w false hkey, h1, MapKept.run_setObj_map _ hb, Result.andThen, setBlock]
    · simp [setBlock, hlt]
    · rw [Array.toList_push, List.map_append, hes, List.map_append]; rfl
    · intro p hp
      rcases List.mem_append.1 hp with hp | hp
      · exact hwf p hp
      · simp at hp; subst hp; exact hx
    · rw [List.map_append, List.nodup_append]
      refine ⟨hnd, by simp, ?_⟩
      intro a ha b hb2
      simp at hb2
      subst hb2
      obtain ⟨p, hp, rfl⟩ := List.mem_map.1 ha
      exact hn p hp
  · exfalso
    obtain ⟨p, hp, h4, _⟩ := smap_entry hes (List.mem_of_getElem? h2)
    rw [h3] at h4
    simp at h4
    exact hn p hp h4.symm

theorem SMap.get (h : SMap w r L) (hk : P.underlying k = some .string) (ht : P.underlying t = some (.map k e)) (hz : (zeroValue e).run P w = .ok (.int .i64 0) w) {x : ByteArray} (hx : x.size ≤ maxLen) :
    (Instr.lookup t (.map (some r)) (.string x) true).run P w = .ok (.tuple #[.int .i64 (if 0 ≤ seenS L x then seenS L x else 0), .bool (decide (0 ≤ seenS L x))]) w := by
  have K : Keyed P k := string_keyed hk
  have hkey := WideMaps.keyOf_string_mk hk hx
  obtain ⟨es, clock, hb, hes, hwf, hnd⟩ := h
  rcases K.find w hkey es.toList (fun y hy => by obtain ⟨p, hp, h1, _⟩ := smap_entry hes hy; rw [h1]; exact ⟨_, WideMaps.keyOf_string_mk hk (hwf p hp)⟩) with ⟨h1, h2⟩ | ⟨j, e0, h1, h2, h3⟩
  · have hno : seenS L x = -1 := by
      apply seenS_none
      intro p hp hpx
      have : smV p ∈ L.map smV := List.mem_map.2 ⟨p, hp, rfl⟩
      rw [← hes] at this
      obtain ⟨y, hy, hye⟩ := List.mem_map.1 this
      simp only [smV, Prod.mk.injEq] at hye
      exact h2 y hy (by rw [hye.1, hpx])
    rw [hno]
    simp [Instr.lookup, run_underlying ht, MapKept.run_getObj_map hb, K.check w _ hkey, h1, hz, Result.andThen]
  · obtain ⟨p, hp, h4, h5⟩ := smap_entry hes (List.mem_of_getElem? h2)
    rw [h3] at h4
    simp at h4
    have hyes : seenS L x = (p.2 : Int) := by
      apply seenS_mem hnd
      rw [h4]; exact hp
    have h0 : (0 : Int) ≤ (p.2 : Int) := by omega
    rw [hyes, if_pos h0]
    simp [Instr.lookup, run_underlying ht, MapKept.run_getObj_map hb, K.check w _ hkey, h1, Result.andThen, h5]
end

/-- Below B, and blocks of cells of other types than the writer's own are as they were. -/
structure Bp (B : Nat) (w w' : World) : Prop where
  be : Below B w w'
  kp : ∀ k cs T, Blk w k cs T → T ≠ 5 → T ≠ 81 → Blk w' k cs T
theorem Bp.refl (B : Nat) (w : World) : Bp B w w := ⟨Below.refl _ _, fun _ _ _ h _ _ => h⟩
theorem Bp.trans {B : Nat} {a b c : World} (h : Bp B a b) (k : Bp B b c) : Bp B a c := ⟨h.be.trans k.be, fun i cs T hb h1 h2 => k.kp i cs T (h.kp i cs T hb h1 h2) h1 h2⟩
theorem Bp.of {B : Nat} {w w' : World} (h : Below w.heap.size w w') (hB : B ≤ w.heap.size) : Bp B w w' := ⟨h.mono hB, fun i cs T hb _ _ => blk_below hb h⟩
theorem Bp.ofw {B : Nat} {w w' : World} (h : Bw B w w') : Bp B w w' := ⟨h.be, fun i cs T hb h1 h2 => h.kp i _ hb h1 h2⟩
theorem Bp.map {B r : Nat} {w W W1 : World} {L : List (ByteArray × Nat)} (h : Bp B w W) (hm : SMap W r L) (hg : W.grownBy W1 (some r)) (hr : B ≤ r) : Bp B w W1 := by
  have hlt := hm.lt
  refine ⟨h.be.grown hg (by omega) (fun q hq => by cases hq; exact hr), fun i cs T hb h1 h2 => ?_⟩
  have hb' := h.kp i cs T hb h1 h2
  refine blk_grown hb' hg (fun e => ?_)
  cases e
  obtain ⟨es, clock, h3, _⟩ := hm
  unfold Blk at hb'
  rw [h3] at hb'
  cases hb'

/-- The program's writer and its map. -/
structure PM (w : World) (g B r : Nat) (bs : List UInt8) (pls : List (ByteArray × Nat)) (vb : Value) : Prop where
  pw : PW w g B bs vb (.map (some r))
  mp : SMap w r pls
  br : B ≤ r
theorem PM.below {w W : World} {g B r : Nat} {bs : List UInt8} {pls : List (ByteArray × Nat)} {vb : Value} (h : PM w g B r bs pls vb) (hb : Below w.heap.size w W) : PM W g B r bs pls vb := ⟨h.pw.below hb, h.mp.kept (hb.block r h.mp.lt), h.br⟩
theorem PM.after {w W : World} {g B r : Nat} {bs bs' : List UInt8} {pls : List (ByteArray × Nat)} {vb vb' : Value} (h : PM w g B r bs pls vb) (hp : PW W g B bs' vb' (.map (some r))) (hb : Bw B w W) : PM W g B r bs' pls vb' := by
  refine ⟨hp, h.mp.kept ?_, h.br⟩
  obtain ⟨es, clock, h3, _⟩ := h.mp
  rw [h3]
  exact hb.kp r _ h3 (fun e => e) (fun e => e)
theorem PM.put {w W : World} {g B r : Nat} {bs : List UInt8} {pls pls' : List (ByteArray × Nat)} {vb : Value} (h : PM w g B r bs pls vb) (hm : SMap W r pls') (hg : w.grownBy W (some r)) : PM W g B r bs pls' vb := by
  obtain ⟨es, clock, h3, _⟩ := h.mp
  refine ⟨⟨blk_grown h.pw.blk hg (fun e => ?_), h.pw.rb.kept hg ?_, h.pw.bg⟩, hm, h.br⟩
  · cases e
    have := h.pw.blk
    unfold Blk at this
    rw [h3] at this
    cases this
  · rcases h.pw.rb.2 with ⟨rfl, _⟩ | ⟨g', cap', cur, rfl, _, hh, _⟩
    · exact .inl rfl
    · right
      simp only [Value.ownBlock, ne_eq, Option.some.injEq]
      intro e
      subst e
      rw [h3] at hh
      cases hh
end Go.Proofs.Ytehggabhjpiclaa
