import Derived.Test.YtmaopfagkffccaaGreatJMath
import Derived.Test.YtmaopfagkffccaaGreatJMvM
import Derived.Lib.AppendStr
import Derived.Maps.Own
import Derived.StringKeys
import Derived.Test.YtmaopfagkffccaaGreatJPtM
import Derived.Laws.OwnMore
import Derived.Test.YtmaopfagkffccaaGreatJBytesRow
import Derived.Test.YtmaopfagkffccaaGreatRows
import Derived.RegionTactic
import Derived.BigRegion
import Derived.Test.YtmaopfagkffccaaGreatJDataM
import Derived.WalkSpells
import Derived.WalkLawsBesides
/- The program's writer; (*writer).number by its contract. -/
namespace Go.Proofs.YtmaopfagkffccaaGreat
open Go.RowKit
set_option linter.unusedVariables false

theorem step_append_str {P : Program} {ops : Array Oper} {o : Oper} {a : Act} {w : World} {K : Act → World → Prop} {Q : Exit → Act → World → Prop} {E : Prop} (hgd : o.guard = none) (sl x : Operand) (t u : TypeId)
    (ho : o.op = .call { callee := .builtin .append, args := #[sl, x], argTypes := #[t, u] })
    (base : Nat) (e : TypeId) (i : TypeInfo) (ht : P.underlying t = some (.slice e)) (hu : P.underlying u = some .string) (hi : P.info? e = some i) (hz : i.zero = some (.int .u8 0))
    (hsize : i.size = 1) (hby : i.bytes = 1)
    (v : Value) (n : Nat) (xs : List Value) (hs : a.eval sl = v) (hown : w.ownsRow base e 1 v n xs) (s : ByteArray) (hx : a.eval x = .string s)
    (h63 : n + s.size ≤ maxLen) (hbytes : n + s.size ≤ 140737488355328) (hbase : base ≤ w.heap.size)
    (h : ∀ v' w', w'.ownsRow base e 1 v' (n + s.size) (xs ++ Go.Lib.strCells s) → w.grownBy w' v.ownBlock → K (a.put o.dst v') w') :
    if Region.wanted o (yielded ops a.tmps) = true then Oper.wp P o a w K Q else E := by
  have hw : Region.wanted o (yielded ops a.tmps) = true := by simp [Region.wanted, hgd]
  rw [if_pos hw]
  obtain ⟨v', w', hr, h2, h3, h4⟩ := Go.Lib.run_append_own_string (P := P) w base t u o.type e i ht hu hi hz hsize hby v n xs hown s h63 hbytes hbase
  unfold Oper.wp execOp
  simp only [ho, resolve, invoke, builtin, Sem.run_bind, Sem.run_pure, Result.andThen_ok, List.map_toArray, List.map_cons, List.map_nil, hs, hx, hr]
  exact h v' w' h2 h3

/-- The program's writer lies in block g. -/
structure PW (w : World) (g B : Nat) (bs : List UInt8) (vb vm : Value) : Prop where
  blk : Blk w g #[vb, vm] 85
  rb : w.ownsRow B 5 1 vb bs.length (Nm.bys bs)
  bg : B ≤ g
theorem PW.below {w W : World} {g B : Nat} {bs : List UInt8} {vb vm : Value} (h : PW w g B bs vb vm) (hb : Below w.heap.size w W) : PW W g B bs vb vm := ⟨blk_below h.blk hb, own_below h.rb hb, h.bg⟩

def isCells : Obj → TypeId → Prop
  | .cells _ T _, T' => T = T'
  | _, _ => False
/-- Below B, and objects that are neither bytes nor a writer are as they were. -/
structure Bw (B : Nat) (w w' : World) : Prop where
  be : Below B w w'
  kp : ∀ (k : Nat) (o : Obj), w.heap[k]? = some o → ¬ isCells o 5 → ¬ isCells o 85 → w'.heap[k]? = some o
theorem Bw.refl (B : Nat) (w : World) : Bw B w w := ⟨Below.refl _ _, fun _ _ h _ _ => h⟩
theorem Bw.trans {B : Nat} {a b c : World} (h : Bw B a b) (k : Bw B b c) : Bw B a c := ⟨h.be.trans k.be, fun i o hb h1 h2 => k.kp i o (h.kp i o hb h1 h2) h1 h2⟩
theorem Bw.of {B : Nat} {w w' : World} (h : Below w.heap.size w w') (hB : B ≤ w.heap.size) : Bw B w w' := ⟨h.mono hB, fun i o hb _ _ => (h.block i (Array.getElem?_eq_some_iff.1 hb).1).trans hb⟩
theorem Bw.app {B s n : Nat} {w W W1 : World} {v : Value} {xs : List Value} (h : Bw B w W) (ho : W.ownsRow B 5 s v n xs) (hg : W.grownBy W1 v.ownBlock) (hB : B ≤ W.heap.size) : Bw B w W1 := by
  refine ⟨h.be.grown hg hB (fun q hq => (ho.lt q hq).1), fun i o hb h1 h2 => ?_⟩
  have hb' := h.kp i o hb h1 h2
  refine (hg.block i (Array.getElem?_eq_some_iff.1 hb').1 (fun e => ?_)).trans hb'
  rcases ho.2 with ⟨rfl, _⟩ | ⟨g', cap', cur, rfl, _, hh, _⟩
  · simp [Value.ownBlock] at e
  · simp only [Value.ownBlock, Option.some.injEq] at e
    subst e
    rw [hh] at hb'
    cases hb'
    exact h1 rfl
theorem Bw.set {B g : Nat} {w W : World} {cs : Array Value} (h : Bw B w W) (hb : Blk W g cs 85) (hg : B ≤ g) (i : Nat) (v : Value) : Bw B w (W.setCell ⟨g, i, none⟩ v) := by
  refine ⟨h.be.setCell hg _, fun k o hk h1 h2 => ?_⟩
  have hk' := h.kp k o hk h1 h2
  have hne : k ≠ g := by
    intro e
    subst e
    unfold Blk at hb
    rw [hb] at hk'
    cases hk'
    exact h2 rfl
  rw [heap_setCell_other W ⟨g, i, none⟩ k _ (by simpa using hne)]
  exact hk'
set_option maxRecDepth 100000 in
set_option maxHeartbeats 1600000 in
theorem number_w_any (n k : Int) (PB : ByteArray) (hput : ∀ W, Calls Tryz.prog 72 #[.int .i64 n, .int .i64 k] W fun e w' => e = .returned (.string PB) ∧ Below W.heap.size W w') (g B : Nat) (bs : List UInt8) (vb vm : Value) (w : World) (h : PW w g B bs vb vm) (hB : B ≤ w.heap.size) (hl : bs.length + PB.size ≤ 100000000) :
    Calls Tryz.prog 70 #[.pointer (some ⟨g, 0, none⟩), .int .i64 n, .int .i64 k] w fun e w' => e = .returned (.tuple #[]) ∧ ∃ vb', PW w' g B (bs ++ PB.data.toList) vb' vm ∧ Bw B w w' := by
  obtain ⟨i0, hi, hz0, hz1, hz2⟩ := info_parts Tryz.infoU8w
  obtain ⟨xa, ya, hv⟩ := own_sl h.rb
  subst hv
  have c0 : w.cell? ⟨g, 0, none⟩ = some (.slice xa bs.length ya) := (blk_cell h.blk 0).trans rfl
  go_enter Tryz.func70, Tryz.ntmps70
  go_wp2_with fail
  refine wp_region_last (fun W => W.cell? ⟨g, 0, none⟩ = some (.slice xa bs.length ya)) 11 (by kernel_rfl) c0 (fun hHeld => ?_)
  refine wpAnyL_take (i := 0) (v := ?_) rfl (by kernel_rfl) (by kernel_rfl) (by kernel_rfl) (by kernel_rfl) (fun _ _ _ h => h) (Or.inl ⟨by rfl, ?_⟩) (by assumption) ?_
  rotate_left 1
  · (intro w hSw; go_simp; try (with_reducible rfl))
  refine wpAnyL_take (i := 1) (v := ?_) rfl (by kernel_rfl) (by kernel_rfl) (by kernel_rfl) (by kernel_rfl) (fun _ _ _ h => h) (Or.inl ⟨by rfl, ?_⟩) (by assumption) ?_
  rotate_left 1
  · (intro w hSw; go_simp; try (with_reducible rfl))
  refine wpAnyL_take (i := 2) (v := ?_) rfl (by kernel_rfl) (by kernel_rfl) (by kernel_rfl) (by kernel_rfl) (fun _ _ _ h => h) (Or.inl ⟨by rfl, ?_⟩) (by assumption) ?_
  rotate_left 1
  · (intro w hSw; go_simp; try (with_reducible rfl))
  refine wpAnyL_take (i := 3) (v := ?_) rfl (by kernel_rfl) (by kernel_rfl) (by kernel_rfl) (by kernel_rfl) (fun _ _ _ h => h) (Or.inl ⟨by rfl, ?_⟩) (by assumption) ?_
  rotate_left 1
  · (intro w hSw; go_simp; try (with_reducible rfl))
  refine wpAnyL_take (i := 4) (v := ?_) rfl (by kernel_rfl) (by kernel_rfl) (by kernel_rfl) (by kernel_rfl) (fun _ _ _ h => h) (Or.inl ⟨by rfl, ?_⟩) (by assumption) ?_
  rotate_left 1
  · (intro w hSw; go_simp; try (with_reducible rfl))
  refine wpAnyL_take (i := 5) (v := ?_) rfl (by kernel_rfl) (by kernel_rfl) (by kernel_rfl) (by kernel_rfl) (fun _ _ _ h => h) (Or.inl ⟨by rfl, ?_⟩) (by assumption) ?_
  rotate_left 1
  · (intro w hSw; go_simp; try (with_reducible rfl))
  refine wpAnyL_take (i := 6) (v := ?_) rfl (by kernel_rfl) (by kernel_rfl) (by kernel_rfl) (by kernel_rfl) (fun _ _ _ h => h) (Or.inl ⟨by rfl, ?_⟩) (by assumption) ?_
  rotate_left 1
  · (intro w hSw; go_simp; try (with_reducible rfl))
  have hd : PW w.drew g B bs (.slice xa bs.length ya) vm := h.below (Below.refl _ _).drew
  refine wpAnyL_one (i := 7) (by kernel_rfl) rfl (fun K hK => ?_)
  go_simp
  refine (hput _).mono ?_
  rintro e wn ⟨rfl, hbn⟩
  go_wp2_with fail
  have hn := hd.below hbn
  have bn : Bw B w wn := (Bw.of (Below.refl _ _).drew hB).trans (Bw.of hbn hB)
  have hBn : B ≤ wn.heap.size := Nat.le_trans hB hbn.size
  refine hK.out _ _ ((blk_cell hn.blk 0).trans rfl) (fun hH2 => ?_)
  clear hK K
  refine wpAnyL_one (i := 8) (by kernel_rfl) rfl (fun K hK => ?_)
  refine step_append_str rfl (.tmp 10) (.tmp 13) 66 9 rfl B 5 i0 Tryz.underlying66 Tryz.underlying9 hi hz0 hz1 hz2 (.slice xa bs.length ya) bs.length (Nm.bys bs) (by rfl) hn.rb PB (by rfl) (by unfold maxLen; omega) (by omega) hBn ?_
  intro va wa hown9 hgrow9
  rw [Nm.bys_str, ← Nm.bys_append] at hown9
  obtain ⟨xb, yb, hvb⟩ := own_sl hown9
  have hblk9 : Blk wa g #[.slice xa bs.length ya, vm] 85 := blk_grown hn.blk hgrow9 (fun e => own_blk hn.rb hn.blk (by decide) e)
  have b9 : Bw B w wa := bn.app hn.rb hgrow9 hBn
  have c9 : wa.cell? ⟨g, 0, none⟩ = some (.slice xa bs.length ya) := (blk_cell hblk9 0).trans rfl
  have f9 := blk_frozen hblk9 0
  rw [hvb]
  refine hK.out _ _ c9 (fun hH3 => ?_)
  clear hK K
  refine wpAnyL_one (i := 9) (by kernel_rfl) rfl (fun K hK => ?_)
  go_simp
  refine hK.out _ _ c9 (fun hH4 => ?_)
  clear hK K
  refine wpAnyL_take (i := 10) (v := ?_) rfl (by kernel_rfl) (by kernel_rfl) (by kernel_rfl) (by kernel_rfl) (fun _ _ _ h => h) (Or.inl ⟨by rfl, ?_⟩) (by assumption) ?_
  rotate_left 1
  · (intro w hSw; go_simp; try (with_reducible rfl))
  refine wpAnyL_end (by kernel_rfl) rfl (by kernel_rfl) (fun K hK => ?_)
  go_simp
  refine hK.out _ _ ?_
  clear hK K
  rw [hvb] at hown9
  have hlen : bs.length + PB.size = (bs ++ PB.data.toList).length := by simp
  have hS10 : PW (wa.setCell ⟨g, 0, none⟩ (.slice xb (bs.length + PB.size) yb)) g B (bs ++ PB.data.toList) (.slice xb (bs.length + PB.size) yb) vm := ⟨blk_set hblk9 0 _, by rw [← hlen]; exact own_far hown9 (own_blk hown9 hblk9 (by decide)), h.bg⟩
  have b10 := b9.set hblk9 h.bg 0 (.slice xb (bs.length + PB.size) yb)
  refine bodyPost_end (v := .tuple #[]) ?_ rfl ⟨rfl, _, hS10, b10⟩
  simp [results, go_sem]
end Go.Proofs.YtmaopfagkffccaaGreat
/- A map of the call's own with strings as keys and numbers as values: its entries as a list. -/
namespace Go.Proofs.YtmaopfagkffccaaGreat
open Go Go.Maps Go.MapKept Go.ChangeMaps Go.RowKit
set_option linter.unusedVariables false

def smV (p : ByteArray × Nat) : Value × Value := (.string p.1, .int .i64 (p.2 : Int))
/-- Block r is a map with these entries. -/
def SMap (w : World) (r : Nat) (L : List (ByteArray × Nat)) : Prop := ∃ es clock, w.heap[r]? = some (.map es clock) ∧ es.toList.map (fun e => (e.key, e.val)) = L.map smV ∧
  (∀ p ∈ L, p.1.size ≤ maxLen) ∧ (L.map (·.1)).Nodup

theorem smap_made (w : World) : SMap (w.alloc (.map #[] 0)) w.heap.size [] :=
  ⟨#[], 0, by show (w.heap.push _)[w.heap.size]? = _; simp, rfl, by simp, by simp⟩

theorem grown_blockS (w : World) (r : Nat) (o : Obj) : w.grownBy (setBlock w r o) (some r) :=
  ⟨rfl, rfl, rfl, by simp [setBlock], fun k hk hne => by simp only [setBlock]; rw [Array.getElem?_setIfInBounds_ne (fun e => hne (by rw [e]))]⟩

theorem seenS_mem {L : List (ByteArray × Nat)} (h : (L.map (·.1)).Nodup) {x : ByteArray} {n : Nat} (hm : (x, n) ∈ L) : seenS L x = (n : Int) := by
  induction L with
  | nil => cases hm
  | cons y L ih =>
    simp only [List.map_cons, List.nodup_cons] at h
    rw [seenS]
    rcases List.mem_cons.1 hm with rfl | hm'
    · simp
    · rw [if_neg, ih h.2 hm']
      intro e
      exact h.1 (List.mem_map.2 ⟨(x, n), hm', e.symm⟩)
theorem seenS_none {L : List (ByteArray × Nat)} {x : ByteArray} (h : ∀ p ∈ L, p.1 ≠ x) : seenS L x = -1 := by
  induction L with
  | nil => rfl
  | cons y L ih =>
    rw [seenS, if_neg (h y (List.mem_cons_self ..)), ih (fun p hp => h p (List.mem_cons_of_mem _ hp))]
theorem seenS_not {L : List (ByteArray × Nat)} {x : ByteArray} (h : seenS L x < 0) : ∀ p ∈ L, p.1 ≠ x := by
  induction L with
  | nil => intro p hp; cases hp
  | cons y L ih =>
    rw [seenS] at h
    intro p hp
    by_cases e : y.1 = x
    · rw [if_pos e] at h; omega
    · rw [if_neg e] at h
      rcases List.mem_cons.1 hp with rfl | hp
      · exact e
      · exact ih h p hp

section
variable {P : Program} {w : World} {r : Nat} {L : List (ByteArray × Nat)} {t k e : TypeId}

theorem smap_entry {es : Array MapEntry} (h : es.toList.map (fun e => (e.key, e.val)) = L.map smV) {x : MapEntry} (hx : x ∈ es.toList) : ∃ p ∈ L, x.key = .string p.1 ∧ x.val = .int .i64 (p.2 : Int) := by
  have : (x.key, x.val) ∈ es.toList.map (fun e => (e.key, e.val)) := List.mem_map.2 ⟨x, hx, rfl⟩
  rw [h] at this
  obtain ⟨p, hp, he⟩ := List.mem_map.1 this
  simp only [smV, Prod.mk.injEq] at he
  exact ⟨p, hp, he.1.symm, he.2.symm⟩

theorem SMap.lt (h : SMap w r L) : r < w.heap.size := by
  obtain ⟨es, clock, hb, _⟩ := h
  obtain ⟨hlt, _⟩ := Array.getElem?_eq_some_iff.1 hb
  exact hlt

theorem SMap.kept {w' : World} (h : SMap w r L) (hb : w'.heap[r]? = w.heap[r]?) : SMap w' r L := by
  obtain ⟨es, clock, h1, h2⟩ := h
  exact ⟨es, clock, hb.trans h1, h2⟩

theorem SMap.put (h : SMap w r L) (hk : P.underlying k = some .string) (ht : P.underlying t = some (.map k e)) {x : ByteArray} (hx : x.size ≤ maxLen) (n : Nat) (hn : ∀ p ∈ L, p.1 ≠ x) :
    ∃ w', (Instr.mapUpdate t (.map (some r)) (.string x) (.int .i64 (n : Int))).run P w = .ok () w' ∧ SMap w' r (L ++ [(x, n)]) ∧ w.grownBy w' (some r) := by
  have K : Keyed P k := string_keyed hk
  have hkey := WideMaps.keyOf_string_mk hk hx
  have hlt := h.lt
  obtain ⟨es, clock, hb, hes, hwf, hnd⟩ := h
  rcases K.find w hkey es.toList (fun y hy => by obtain ⟨p, hp, h1, _⟩ := smap_entry hes hy; rw [h1]; exact ⟨_, WideMaps.keyOf_string_mk hk (hwf p hp)⟩) with ⟨h1, h2⟩ | ⟨j, e0, h1, h2, h3⟩
  · refine ⟨setBlock w r (.map (es.push ⟨.string x, .int .i64 (n : Int), clock⟩) (clock + 1)), ?_, ⟨es.push ⟨.string x, .int .i64 (n : Int), clock⟩, clock + 1, ?_, ?_, ?_, ?_⟩, grown_blockS _ _ _⟩
    · simp [Instr.mapUpdate, run_underlying ht, MapKept.run_getObj_map hb, K.check w false hkey, h1, MapKept.run_setObj_map _ hb, Result.andThen, setBlock]
    · simp [setBlock, hlt]
    · rw [Array.toList_push, List.map_append, hes, List.map_append]; rfl
    · intro p hp
      rcases List.mem_append.1 hp with hp | hp
      · exact hwf p hp
      · simp at hp; subst hp; exact hx
    · rw [List.map_append, List.nodup_append]
      refine ⟨hnd, by simp, ?_⟩
      intro a ha b hb2
      simp at hb2
      subst hb2
      obtain ⟨p, hp, rfl⟩ := List.mem_map.1 ha
      exact hn p hp
  · exfalso
    obtain ⟨p, hp, h4, _⟩ := smap_entry hes (List.mem_of_getElem? h2)
    rw [h3] at h4
    simp at h4
    exact hn p hp h4.symm

theorem SMap.get (h : SMap w r L) (hk : P.underlying k = some .string) (ht : P.underlying t = some (.map k e)) (hz : (zeroValue e).run P w = .ok (.int .i64 0) w) {x : ByteArray} (hx : x.size ≤ maxLen) :
    (Instr.lookup t (.map (some r)) (.string x) true).run P w = .ok (.tuple #[.int .i64 (if 0 ≤ seenS L x then seenS L x else 0), .bool (decide (0 ≤ seenS L x))]) w := by
  have K : Keyed P k := string_keyed hk
  have hkey := WideMaps.keyOf_string_mk hk hx
  obtain ⟨es, clock, hb, hes, hwf, hnd⟩ := h
  rcases K.find w hkey es.toList (fun y hy => by obtain ⟨p, hp, h1, _⟩ := smap_entry hes hy; rw [h1]; exact ⟨_, WideMaps.keyOf_string_mk hk (hwf p hp)⟩) with ⟨h1, h2⟩ | ⟨j, e0, h1, h2, h3⟩
  · have hno : seenS L x = -1 := by
      apply seenS_none
      intro p hp hpx
      have : smV p ∈ L.map smV := List.mem_map.2 ⟨p, hp, rfl⟩
      rw [← hes] at this
      obtain ⟨y, hy, hye⟩ := List.mem_map.1 this
      simp only [smV, Prod.mk.injEq] at hye
      exact h2 y hy (by rw [hye.1, hpx])
    rw [hno]
    simp [Instr.lookup, run_underlying ht, MapKept.run_getObj_map hb, K.check w _ hkey, h1, hz, Result.andThen]
  · obtain ⟨p, hp, h4, h5⟩ := smap_entry hes (List.mem_of_getElem? h2)
    rw [h3] at h4
    simp at h4
    have hyes : seenS L x = (p.2 : Int) := by
      apply seenS_mem hnd
      rw [h4]; exact hp
    have h0 : (0 : Int) ≤ (p.2 : Int) := by omega
    rw [hyes, if_pos h0]
    simp [Instr.lookup, run_underlying ht, MapKept.run_getObj_map hb, K.check w _ hkey, h1, Result.andThen, h5]
end

/-- Below B, and blocks of cells of other types than the writer's own are as they were. -/
structure Bp (B : Nat) (w w' : World) : Prop where
  be : Below B w w'
  kp : ∀ k cs T, Blk w k cs T → T ≠ 5 → T ≠ 85 → Blk w' k cs T
theorem Bp.refl (B : Nat) (w : World) : Bp B w w := ⟨Below.refl _ _, fun _ _ _ h _ _ => h⟩
theorem Bp.trans {B : Nat} {a b c : World} (h : Bp B a b) (k : Bp B b c) : Bp B a c := ⟨h.be.trans k.be, fun i cs T hb h1 h2 => k.kp i cs T (h.kp i cs T hb h1 h2) h1 h2⟩
theorem Bp.of {B : Nat} {w w' : World} (h : Below w.heap.size w w') (hB : B ≤ w.heap.size) : Bp B w w' := ⟨h.mono hB, fun i cs T hb _ _ => blk_below hb h⟩
theorem Bp.ofw {B : Nat} {w w' : World} (h : Bw B w w') : Bp B w w' := ⟨h.be, fun i cs T hb h1 h2 => h.kp i _ hb h1 h2⟩
theorem Bp.map {B r : Nat} {w W W1 : World} {L : List (ByteArray × Nat)} (h : Bp B w W) (hm : SMap W r L) (hg : W.grownBy W1 (some r)) (hr : B ≤ r) : Bp B w W1 := by
  have hlt := hm.lt
  refine ⟨h.be.grown hg (by omega) (fun q hq => by cases hq; exact hr), fun i cs T hb h1 h2 => ?_⟩
  have hb' := h.kp i cs T hb h1 h2
  refine blk_grown hb' hg (fun e => ?_)
  cases e
  obtain ⟨es, clock, h3, _⟩ := hm
  unfold Blk at hb'
  rw [h3] at hb'
  cases hb'

/-- The program's writer and its map. -/
structure PM (w : World) (g B r : Nat) (bs : List UInt8) (pls : List (ByteArray × Nat)) (vb : Value) : Prop where
  pw : PW w g B bs vb (.map (some r))
  mp : SMap w r pls
  br : B ≤ r
theorem PM.below {w W : World} {g B r : Nat} {bs : List UInt8} {pls : List (ByteArray × Nat)} {vb : Value} (h : PM w g B r bs pls vb) (hb : Below w.heap.size w W) : PM W g B r bs pls vb := ⟨h.pw.below hb, h.mp.kept (hb.block r h.mp.lt), h.br⟩
theorem PM.after {w W : World} {g B r : Nat} {bs bs' : List UInt8} {pls : List (ByteArray × Nat)} {vb vb' : Value} (h : PM w g B r bs pls vb) (hp : PW W g B bs' vb' (.map (some r))) (hb : Bw B w W) : PM W g B r bs' pls vb' := by
  refine ⟨hp, h.mp.kept ?_, h.br⟩
  obtain ⟨es, clock, h3, _⟩ := h.mp
  rw [h3]
  exact hb.kp r _ h3 (fun e => e) (fun e => e)
theorem PM.put {w W : World} {g B r : Nat} {bs : List UInt8} {pls pls' : List (ByteArray × Nat)} {vb : Value} (h : PM w g B r bs pls vb) (hm : SMap W r pls') (hg : w.grownBy W (some r)) : PM W g B r bs pls' vb := by
  obtain ⟨es, clock, h3, _⟩ := h.mp
  refine ⟨⟨blk_grown h.pw.blk hg (fun e => ?_), h.pw.rb.kept hg ?_, h.pw.bg⟩, hm, h.br⟩
  · cases e
    have := h.pw.blk
    unfold Blk at this
    rw [h3] at this
    cases this
  · rcases h.pw.rb.2 with ⟨rfl, _⟩ | ⟨g', cap', cur, rfl, _, hh, _⟩
    · exact .inl rfl
    · right
      simp only [Value.ownBlock, ne_eq, Option.some.injEq]
      intro e
      subst e
      rw [h3] at hh
      cases hh
end Go.Proofs.YtmaopfagkffccaaGreat
/- Data by the places of its names: mathematics. -/
namespace Go.Proofs.YtmaopfagkffccaaGreat
open Go.RowKit
set_option linter.unusedVariables false

/-- The places rise from a place on, and names stand there. -/
def SpOK (d : ByteArray) : List (Nat × Nat) → Nat → Prop
  | [], a => a ≤ d.size
  | (f, t) :: r, a => a ≤ f ∧ f ≤ t ∧ t ≤ d.size ∧ (Nm.split (d.extract f t)).isSome = true ∧ SpOK d r t

theorem spok_parts : ∀ (fs : List Dt.Pc) (ps : List ByteArray) (a a0 : Nat) (d : ByteArray), fs.length = ps.length → a0 ≤ a → a ≤ d.size → Dt.catL ps = d.data.toList.drop a → NmOK fs ps → SpOK d (Dt.spansOf fs ps a) a0 := by
  intro fs
  induction fs with
  | nil =>
    intro ps a a0 d hl h0 h1 hc hn
    obtain rfl : ps = [] := List.length_eq_zero_iff.1 (by simpa using hl.symm)
    show a0 ≤ d.size
    omega
  | cons p fs ih =>
    intro ps a a0 d hl h0 h1 hc hn
    cases ps with
    | nil => simp at hl
    | cons x xs =>
      have e : Dt.catL (x :: xs) = x.data.toList ++ Dt.catL xs := by simp [Dt.catL]
      rw [e] at hc
      have hxl : x.data.toList.length = x.size := by simp
      have hsz : x.size + (Dt.catL xs).length = d.size - a := by
        have := congrArg List.length hc
        simp at this
        simpa using this
      have hc2 : Dt.catL xs = d.data.toList.drop (a + x.size) := by
        rw [← List.drop_drop, ← hc, List.drop_left' hxl]
      have hx : d.extract a (a + x.size) = x := by
        apply Nm.ba_ext
        rw [ex_list, ← hc, show a + x.size - a = x.size by omega, List.take_left' hxl]
      have hl2 : fs.length = xs.length := by simpa using hl
      rw [Dt.spansOf]
      cases hN : p.isN with
      | true =>
        simp only [if_true]
        exact ⟨h0, by omega, by omega, by rw [hx]; exact hn 0 p x rfl rfl hN, ih xs (a + x.size) (a + x.size) d hl2 (Nat.le_refl _) (by omega) hc2 hn.tail⟩
      | false =>
        simp only [Bool.false_eq_true, if_false]
        exact ih xs (a + x.size) a0 d hl2 (by omega) (by omega) hc2 hn.tail

theorem spok_end {d : ByteArray} : ∀ (sp : List (Nat × Nat)) (a : Nat), SpOK d sp a → a ≤ d.size := by
  intro sp
  induction sp with
  | nil => intro a h; exact h
  | cons p r ih => intro a h; obtain ⟨f, t⟩ := p; have := h.1; have := h.2.1; have := h.2.2.1; omega

theorem empty_none {t : Nat} {d : ByteArray} (hp : pointed t) (hd : d.size = 0) : cutS t d = none := by
  cases hc : cutS (t : Int) d with
  | none => rfl
  | some sp =>
    exfalso
    have hcc := code_zero.2 ⟨sp, hc⟩
    obtain ⟨ps, h1, _, _⟩ := good_parts hcc
    have hn := Dt.name_le d
    have hn0 : (Dt.nameAtS d).size = 0 := by omega
    rcases hp with rfl | rfl | rfl | rfl | rfl
    all_goals
      simp [Dt.specP, Dt.formS, Dt.letP, Dt.parts, Dt.sz, hn0, hd] at h1

/-- What the program does with data: by its places, or whole. -/
theorem daS_daW {t : Nat} {d : ByteArray} (h : d.size = 0 ∨ cutCode t d = 0) (s : Wst) :
    (pointed t → daS ((cutS t d).getD []) 0 d s = daW t d s ∧ SpOK d ((cutS t d).getD []) 0) ∧ (¬ pointed t → daS [] 0 d s = daW t d s) := by
  have hall : (d.extract 0 d.size).data.toList = d.data.toList := by rw [Dt.ext_all]
  constructor
  · intro hp
    by_cases hd : d.size = 0
    · rw [empty_none hp hd, daW, if_pos (.inl hd), Option.getD_none, daS, hall]
      exact ⟨rfl, Nat.zero_le _⟩
    · obtain ⟨ps, h1, h2, _⟩ := good_parts (h.resolve_left hd)
      obtain ⟨p1, p2, p3⟩ := Dt.parts_cat _ _ _ h1
      rw [h2, Option.getD_some, daW, if_neg (by simp [hd, hp]), h1, daS_parts _ _ _ _ _ _ p1 (Nat.le_refl _) (Nat.zero_le _) (by simpa using p2)]
      refine ⟨?_, spok_parts _ _ _ _ _ p1 (Nat.le_refl _) (Nat.zero_le _) (by simpa using p2) p3⟩
      have : (d.extract 0 0).data.toList = [] := by rw [ex_list]; simp
      rw [this, List.append_nil]
      rfl
  · intro hp
    rw [daW, if_pos (.inr hp), daS, hall]

theorem Bp.row {B b e s n : Nat} {w w' : World} {v : Value} {xs : List Value} (h : Bp B w w') (ho : w.ownsRow b e s v n xs) (h1 : e ≠ 5) (h2 : e ≠ 85) : w'.ownsRow b e s v n xs := by
  refine ⟨ho.1, ?_⟩
  rcases ho.2 with hn | ⟨g, cap, cur, rfl, hb, hh, r⟩
  · exact .inl hn
  · exact .inr ⟨g, cap, cur, rfl, hb, h.kp g cur e hh h1 h2, r⟩
end Go.Proofs.YtmaopfagkffccaaGreat
/- impl.bigBytes by its contract. -/
namespace Go.Proofs.YtmaopfagkffccaaGreat
open Go.RowKit

theorem big_set {w W : World} {n cap j : Nat} {xs ys : List Value} {u : Value} (h : w.ownsRow W.heap.size 5 1 (.slice (some ⟨W.heap.size, 0, none⟩) n cap) n xs) (hb : Below W.heap.size W w) (e : xs.set j u = ys) :
    (w.setCell ⟨W.heap.size, j, none⟩ u).ownsRow W.heap.size 5 1 (.slice (some ⟨W.heap.size, 0, none⟩) n cap) n ys ∧ Below W.heap.size W (w.setCell ⟨W.heap.size, j, none⟩ u) := by
  have := (h.stored j u).1
  rw [e] at this
  exact ⟨this, hb.setCell (Nat.le_refl _) _⟩

set_option maxRecDepth 100000 in
set_option maxHeartbeats 800000 in
theorem bigBytes4_any (n : Int) (w : World) (h0 : 0 ≤ n) (h1 : n ≤ 4294967295) :
    Calls Tryz.prog 72 #[.int .i64 n, .int .i64 4] w fun e w' => e = .returned (.string ⟨(put4 n).toArray⟩) ∧ Below w.heap.size w w' := by
  obtain ⟨i0, hi, hz0, hz1, hz2⟩ := info_parts Tryz.infoB
  have hcs := put4_cells n
  have e : n / 16777216 % 256 = n / 16777216 := by omega
  rw [e] at hcs
  clear e
  obtain ⟨wm, hmk, hownm, hgrm⟩ := run_make_full (P := Tryz.prog) w w.heap.size 66 5 i0 (.int .u8 0) 1 Tryz.underlying66 hi hz0 hz1 .i64 .i64 4 (by rw [hz2]; omega) (by unfold maxLen; omega) (Nat.le_refl _)
  have hbelm : Below w.heap.size w wm := (Below.refl _ _).grown hgrm (Nat.le_refl _) (by simp)
  have hz4 : (madeCells (Value.int .u8 0).cells (4 * 1)).toList = [.int .u8 0, .int .u8 0, .int .u8 0, .int .u8 0] := by kernel_rfl
  rw [hz4] at hownm
  rw [show ((4 : Nat) : Int) = 4 from rfl] at hmk
  clear hgrm hz4
  go_enter Tryz.func72, Tryz.ntmps72
  go_wp2
  go_loopw [11] (fun i wr => ∃ j : Nat, j ≤ 4 ∧ i = .int .i64 (j : Int) ∧ wr.ownsRow w.heap.size 5 1 (.slice (some ⟨w.heap.size, 0, none⟩) 4 4) 4 ([Value.int .u8 (n / 16777216), .int .u8 (n / 65536 % 256), .int .u8 (n / 256 % 256), .int .u8 (n % 256)].take j ++ [Value.int .u8 0, .int .u8 0, .int .u8 0, .int .u8 0].drop j) ∧ Below w.heap.size w wr)
    (fun i _ => (4 - intOf i).toNat)
  case atStart => exact ⟨0, by omega, rfl, hownm, hbelm⟩
  case round =>
    obtain ⟨j, hj, rfl, hown, hbel⟩ := hrel
    clear hownm hbelm hmk
    obtain rfl | rfl | rfl | rfl | rfl : j = 0 ∨ j = 1 ∨ j = 2 ∨ j = 3 ∨ j = 4 := by omega
    · simp only [List.take_zero, List.drop_zero, List.nil_append, Int.cast_ofNat_Int] at hown ⊢
      have hc : wr.cell? ⟨w.heap.size, 0, none⟩ = some (.int .u8 0) := (hown.cellAt 0 (by omega)).trans rfl
      have hfz := hown.frozenAt 0
      have R := Nm.hide (big_set (j := 0) (u := .int .u8 (n / 16777216)) hown hbel rfl)
      clear hown hbel
      go_wp2
      go_roundw
      case rel => exact ⟨1, by omega, by go_num, R.out.1, R.out.2⟩
      case measure => simp [intOf]
    · simp only [List.take_succ_cons, List.take_zero, List.drop_succ_cons, List.drop_zero, List.cons_append, List.nil_append, Int.cast_ofNat_Int] at hown ⊢
      have hc : wr.cell? ⟨w.heap.size, 1, none⟩ = some (.int .u8 0) := (hown.cellAt 1 (by omega)).trans rfl
      have hfz := hown.frozenAt 1
      have R := Nm.hide (big_set (j := 1) (u := .int .u8 (n / 65536 % 256)) hown hbel rfl)
      clear hown hbel
      go_wp2
      go_roundw
      case rel => exact ⟨2, by omega, by go_num, R.out.1, R.out.2⟩
      case measure => simp [intOf]
    · simp only [List.take_succ_cons, List.take_zero, List.drop_succ_cons, List.drop_zero, List.cons_append, List.nil_append, Int.cast_ofNat_Int] at hown ⊢
      have hc : wr.cell? ⟨w.heap.size, 2, none⟩ = some (.int .u8 0) := (hown.cellAt 2 (by omega)).trans rfl
      have hfz := hown.frozenAt 2
      have R := Nm.hide (big_set (j := 2) (u := .int .u8 (n / 256 % 256)) hown hbel rfl)
      clear hown hbel
      go_wp2
      go_roundw
      case rel => exact ⟨3, by omega, by go_num, R.out.1, R.out.2⟩
      case measure => simp [intOf]
    · simp only [List.take_succ_cons, List.take_zero, List.drop_succ_cons, List.drop_zero, List.cons_append, List.nil_append, Int.cast_ofNat_Int] at hown ⊢
      have hc : wr.cell? ⟨w.heap.size, 3, none⟩ = some (.int .u8 0) := (hown.cellAt 3 (by omega)).trans rfl
      have hfz := hown.frozenAt 3
      have R := Nm.hide (big_set (j := 3) (u := .int .u8 (n % 256)) hown hbel rfl)
      clear hown hbel
      go_wp2
      go_roundw
      case rel => exact ⟨4, by omega, by go_num, R.out.1, R.out.2⟩
      case measure => simp [intOf]
    · simp only [List.take_succ_cons, List.take_zero, List.drop_succ_cons, List.drop_zero, List.append_nil, Int.cast_ofNat_Int] at hown ⊢
      rw [← hcs] at hown
      have HC := Nm.conv_own (P := Tryz.prog) (src := 66) (dst := 9) Tryz.underlying66 Tryz.underlying5 Tryz.underlying9 hown (by omega)
      obtain ⟨g, cap, hv, hcv⟩ := HC
      cases hv
      clear hown
      go_wp2
      go_ret
      exact ⟨rfl, hbel⟩
end Go.Proofs.YtmaopfagkffccaaGreat
/- impl.bigBytes at width 2 by its contract. -/
namespace Go.Proofs.YtmaopfagkffccaaGreat
open Go.RowKit

set_option maxRecDepth 100000 in
set_option maxHeartbeats 800000 in
theorem bigBytes2_any (n : Nat) (w : World) (hn : n < 65536) :
    Calls Tryz.prog 72 #[.int .i64 (n : Int), .int .i64 2] w fun e w' => e = .returned (.string ⟨(put2 n).toArray⟩) ∧ Below w.heap.size w w' := by
  obtain ⟨i0, hi, hz0, hz1, hz2⟩ := info_parts Tryz.infoB
  have hcs := put2_cells hn
  have hn' : (n : Int) < 65536 := by omega
  obtain ⟨wm, hmk, hownm, hgrm⟩ := run_make_full (P := Tryz.prog) w w.heap.size 66 5 i0 (.int .u8 0) 1 Tryz.underlying66 hi hz0 hz1 .i64 .i64 2 (by rw [hz2]; omega) (by unfold maxLen; omega) (Nat.le_refl _)
  have hbelm : Below w.heap.size w wm := (Below.refl _ _).grown hgrm (Nat.le_refl _) (by simp)
  have hz4 : (madeCells (Value.int .u8 0).cells (2 * 1)).toList = [.int .u8 0, .int .u8 0] := by kernel_rfl
  rw [hz4] at hownm
  rw [show ((2 : Nat) : Int) = 2 from rfl] at hmk
  clear hgrm hz4
  go_enter Tryz.func72, Tryz.ntmps72
  go_wp2
  go_loopw [11] (fun i wr => ∃ j : Nat, j ≤ 2 ∧ i = .int .i64 (j : Int) ∧ wr.ownsRow w.heap.size 5 1 (.slice (some ⟨w.heap.size, 0, none⟩) 2 2) 2 ([Value.int .u8 ((n : Int) / 256), .int .u8 ((n : Int) % 256)].take j ++ [Value.int .u8 0, .int .u8 0].drop j) ∧ Below w.heap.size w wr)
    (fun i _ => (2 - intOf i).toNat)
  case atStart => exact ⟨0, by omega, rfl, hownm, hbelm⟩
  case round =>
    obtain ⟨j, hj, rfl, hown, hbel⟩ := hrel
    clear hownm hbelm hmk
    obtain rfl | rfl | rfl : j = 0 ∨ j = 1 ∨ j = 2 := by omega
    · simp only [List.take_zero, List.drop_zero, List.nil_append, Int.cast_ofNat_Int] at hown ⊢
      have hc : wr.cell? ⟨w.heap.size, 0, none⟩ = some (.int .u8 0) := (hown.cellAt 0 (by omega)).trans rfl
      have hfz := hown.frozenAt 0
      have R := Nm.hide (big_set (j := 0) (u := .int .u8 ((n : Int) / 256)) hown hbel rfl)
      clear hown hbel
      go_wp2
      go_roundw
      case rel => exact ⟨1, by omega, by go_num, R.out.1, R.out.2⟩
      case measure => simp [intOf]
    · simp only [List.take_succ_cons, List.take_zero, List.drop_succ_cons, List.drop_zero, List.cons_append, List.nil_append, Int.cast_ofNat_Int] at hown ⊢
      have hc : wr.cell? ⟨w.heap.size, 1, none⟩ = some (.int .u8 0) := (hown.cellAt 1 (by omega)).trans rfl
      have hfz := hown.frozenAt 1
      have R := Nm.hide (big_set (j := 1) (u := .int .u8 ((n : Int) % 256)) hown hbel rfl)
      clear hown hbel
      go_wp2
      go_roundw
      case rel => exact ⟨2, by omega, by go_num, R.out.1, R.out.2⟩
      case measure => simp [intOf]
    · simp only [List.take_succ_cons, List.take_zero, List.drop_succ_cons, List.drop_zero, List.append_nil, Int.cast_ofNat_Int] at hown ⊢
      rw [← hcs] at hown
      have HC := Nm.conv_own (P := Tryz.prog) (src := 66) (dst := 9) Tryz.underlying66 Tryz.underlying5 Tryz.underlying9 hown (by omega)
      obtain ⟨g, cap, hv, hcv⟩ := HC
      cases hv
      clear hown
      go_wp2
      go_ret
      exact ⟨rfl, hbel⟩
end Go.Proofs.YtmaopfagkffccaaGreat
/- (*writer).name by its contract. -/
namespace Go.Proofs.YtmaopfagkffccaaGreat
open Go.RowKit
set_option linter.unusedVariables false

theorem zeroI (w : World) : (zeroValue 3).run Tryz.prog w = .ok (.int .i64 0) w := by kernel_rfl
theorem map_look {w : World} {r : Nat} {L : List (ByteArray × Nat)} (h : SMap w r L) {x : ByteArray} (hx : x.size ≤ maxLen) :
    (Instr.lookup 83 (.map (some r)) (.string x) true).run Tryz.prog w = .ok (.tuple #[.int .i64 (if 0 ≤ seenS L x then seenS L x else 0), .bool (decide (0 ≤ seenS L x))]) w :=
  h.get (k := 9) (e := 3) Tryz.underlying9 Tryz.underlying83 (zeroI w) hx
theorem map_put {w : World} {r : Nat} {L : List (ByteArray × Nat)} (h : SMap w r L) {x : ByteArray} (hx : x.size ≤ maxLen) (n : Nat) (hn : seenS L x < 0) :
    ∃ w', (Instr.mapUpdate 83 (.map (some r)) (.string x) (.int .i64 (n : Int))).run Tryz.prog w = .ok () w' ∧ SMap w' r (L ++ [(x, n)]) ∧ w.grownBy w' (some r) :=
  h.put (k := 9) (e := 3) Tryz.underlying9 Tryz.underlying83 hx n (seenS_not hn)

set_option maxRecDepth 100000 in
set_option maxHeartbeats 3200000 in
theorem name_w_any (s : ByteArray) (ls0 : List ByteArray) (hs : Nm.split s = some ls0) (g B r : Nat) (bs : List UInt8) (pls : List (ByteArray × Nat)) (vb : Value) (w : World) (h : PM w g B r bs pls vb) (hB : B ≤ w.heap.size) (hl : bs.length + 256 ≤ 50000000) (hok : PlOK pls bs.length) :
    Calls Tryz.prog 69 #[.pointer (some ⟨g, 0, none⟩), .string s] w fun e w' => e = .returned (.tuple #[]) ∧ ∃ vb', PM w' g B r (nmW ls0 bs pls).1 (nmW ls0 bs pls).2 vb' ∧ Bp B w w' := by
  obtain ⟨i0, hi, hz0, hz1, hz2⟩ := info_parts Tryz.infoU8w
  have hsz := Nm.split_size hs
  have hxs := (Nm.split_join hs).2
  obtain rfl := nmB_split hs
  generalize hRES : nmW ls0 bs pls = RES
  have hbd : bs.length + Nm.wsum ls0 + 1 ≤ 50000000 := by omega
  have hws0 : Nm.wsum ls0 ≤ 254 := by omega
  clear hsz hs hl
  go_enter Tryz.func69, Tryz.ntmps69
  go_wp2
  go_loopw [4] (fun nv wr => ∃ (ls : List ByteArray) (bs' : List UInt8) (pls' : List (ByteArray × Nat)) (vb' : Value), nv = .string (nmB ls) ∧ PM wr g B r bs' pls' vb' ∧ B ≤ wr.heap.size ∧ Bp B w wr ∧ PlOK pls' bs'.length ∧ (∀ x ∈ ls, 1 ≤ x.size ∧ x.size ≤ 63) ∧ bs'.length + Nm.wsum ls + 1 ≤ 50000000 ∧ Nm.wsum ls ≤ 254 ∧ Hid (nmW ls bs' pls' = RES)) (fun nv _ => match nv with | .string t => t.size | _ => 0)
  case atStart => exact ⟨ls0, bs, pls, vb, rfl, h, hB, Bp.refl _ _, hok, hxs, hbd, hws0, hRES⟩
  case round =>
    obtain ⟨ls, bs', pls', vb', rfl, hS, hBw, hbel, hok', hxs', hbd', hws', HR⟩ := hrel
    clear h hB hok hxs hbd hRES hws0
    obtain ⟨xa, ya, hv⟩ := own_sl hS.pw.rb
    subst hv
    have c0 : wr.cell? ⟨g, 0, none⟩ = some (.slice xa bs'.length ya) := (blk_cell hS.pw.blk 0).trans rfl
    have c1 : wr.cell? ⟨g, 1, none⟩ = some (.map (some r)) := (blk_cell hS.pw.blk 1).trans rfl
    have f0 := blk_frozen hS.pw.blk 0
    cases ls with
    | nil =>
      have e1 := nmB_nil
      obtain rfl : (bs' ++ [0], pls') = RES := HR.out
      clear HR
      generalize nmB [] = N0 at *
      go_wp2_with (at_builtin; refine Go.Lib.wpList_append_own_string _ rfl (.tmp 63) _ 66 9 rfl B 5 i0 Tryz.underlying66 Tryz.underlying9 hi hz0 hz1 hz2 _ _ _ rfl hS.pw.rb ⟨#[0]⟩ rfl (by unfold maxLen; show bs'.length + 1 ≤ _; omega) (by show bs'.length + 1 ≤ _; omega) hBw ?_)
      intro va wa hown9 hgrow9 hnl9
      clear hnl9
      rw [Nm.bys_str, ← Nm.bys_append] at hown9
      obtain ⟨xb, yb, hvb⟩ := own_sl hown9
      have hblk9 := blk_grown hS.pw.blk hgrow9 (fun e => own_blk hS.pw.rb hS.pw.blk (by decide) e)
      have b9 : Bw B wr wa := (Bw.refl B wr).app hS.pw.rb hgrow9 hBw
      have c9 : wa.cell? ⟨g, 0, none⟩ = some (.slice xa bs'.length ya) := (blk_cell hblk9 0).trans rfl
      have f9 := blk_frozen hblk9 0
      rw [hvb] at hown9 ⊢
      have hlen : bs'.length + (⟨#[0]⟩ : ByteArray).size = (bs' ++ [0]).length := by simp; rfl
      have hS10 : PW (wa.setCell ⟨g, 0, none⟩ (.slice xb (bs'.length + (⟨#[0]⟩ : ByteArray).size) yb)) g B (bs' ++ [0]) (.slice xb (bs'.length + (⟨#[0]⟩ : ByteArray).size) yb) (.map (some r)) := ⟨blk_set hblk9 0 _, by rw [← hlen]; exact own_far hown9 (own_blk hown9 hblk9 (by decide)), hS.pw.bg⟩
      have b10 := b9.set hblk9 hS.pw.bg 0 (.slice xb (bs'.length + (⟨#[0]⟩ : ByteArray).size) yb)
      have hM10 := hS.after hS10 b10
      have k10 := hbel.trans (Bp.ofw b10)
      clear hown9 hgrow9 hblk9 b9 hS10 b10
      go_wp2
      refine bodyPost_end (v := .tuple #[]) ?_ rfl ⟨rfl, ⟨_, hM10⟩, k10⟩
      simp [results, go_sem]
    | cons l ls =>
      obtain ⟨x1, x2⟩ := hxs' l (List.mem_cons_self ..)
      have e1 := nmB_ne l ls x1
      have hws : Nm.wsum (l :: ls) = 1 + l.size + Nm.wsum ls := by simp [Nm.wsum]
      have hnz := nmB_size (l :: ls)
      have hnm : (nmB (l :: ls)).size ≤ maxLen := by unfold maxLen; omega
      have hget := map_look hS.mp hnm
      obtain ⟨s1, s2⟩ := seenS_lt hok' (nmB (l :: ls))
      by_cases hsn : 0 ≤ seenS pls' (nmB (l :: ls))
      · obtain ⟨q, hq⟩ : ∃ q : Nat, seenS pls' (nmB (l :: ls)) = (q : Int) := ⟨_, (Int.toNat_of_nonneg hsn).symm⟩
        have HE : (bs' ++ put2 (49152 + q), pls') = RES := by
          rw [← HR.out, nmW, if_pos hsn, hq, Int.toNat_natCast]
        clear HR
        subst HE
        have hq2 : (q : Int) ≤ 16383 := by omega
        have hq0 : (0 : Int) ≤ (q : Int) := by omega
        rw [hq, if_pos hq0, decide_eq_true hq0] at hget
        have hput : ∀ W, Calls Tryz.prog 72 #[.int .i64 (49152 + (q : Int)), .int .i64 2] W fun e w' => e = .returned (.string ⟨(put2 (49152 + q)).toArray⟩) ∧ Below W.heap.size W w' := by
          intro W
          have := bigBytes2_any (49152 + q) W (by omega)
          rw [Int.natCast_add] at this
          exact this
        have hcall := number_w_any _ _ _ hput g B bs' _ (.map (some r)) wr hS.pw hBw (by show bs'.length + (put2 _).toArray.size ≤ _; simp [put2]; omega)
        have HP : (ByteArray.mk (put2 (49152 + q)).toArray).data.toList = put2 (49152 + q) := by simp
        rw [HP] at hcall
        clear HP s1 s2 hsn hq hxs' hput
        generalize nmB (l :: ls) = NB at *
        go_wp2_with (go_at_call 70; refine hcall.mono ?_; rintro e w6 ⟨rfl, vb6, hS6, hb6⟩)
        refine bodyPost_ret (v := .tuple #[]) ?_ rfl ⟨rfl, ⟨_, hS.after hS6 hb6⟩, hbel.trans (Bp.ofw hb6)⟩
        simp [results, go_sem]
      · have HR2 : Hid (nmW ls (bs' ++ (UInt8.ofNat l.size :: l.data.toList)) (if bs'.length ≤ 16383 then pls' ++ [(nmB (l :: ls), bs'.length)] else pls') = RES) := by
          have := HR.out
          rw [nmW, if_neg hsn] at this
          exact this
        rw [if_neg hsn, decide_eq_false hsn] at hget
        have hn0 : 0 < (nmB (l :: ls)).size := by omega
        have hidx := fun W => idx0 (nmB (l :: ls)) hn0 W
        rw [nmB_0 l ls x2 hn0] at hidx
        have hpre := nmB_pre l ls
        have hrest := nmB_rest l ls
        rw [Nat.add_comm l.size 1] at hpre hrest
        have hpz : ((nmB (l :: ls)).extract 0 (1 + l.size)).size = 1 + l.size := by rw [ByteArray.size_extract]; omega
        have hzl : (bs' ++ (UInt8.ofNat l.size :: l.data.toList)).length = bs'.length + (1 + l.size) := by simp; omega
        have hnz' : ((nmB (l :: ls)).size : Int) = 1 + l.size + Nm.wsum ls + 1 := by rw [hnz, hws]; omega
        have hxs2 : ∀ x ∈ ls, 1 ≤ x.size ∧ x.size ≤ 63 := fun x hx => hxs' x (List.mem_cons_of_mem _ hx)
        have hgt : ¬ (nmB ls).size ≥ (nmB (l :: ls)).size := by rw [hnz, hws, nmB_size]; omega
        clear HR s1 s2 hxs' hn0
        generalize nmB (l :: ls) = NB at *
        have hcr : 1 + (l.size : Int) ≤ (NB.size : Int) := by omega
        have hle0 : 0 ≤ 1 + (l.size : Int) := by omega
        have hto : (1 + (l.size : Int)).toNat = 1 + l.size := by omega
        clear hnz hnz'
        by_cases hsh : bs'.length ≤ 16383
        · rw [if_pos hsh] at HR2
          have hsh' : (bs'.length : Int) ≤ 16383 := by omega
          have hok2 := (hok'.put (p := (NB, bs'.length)) hsh).mono (m := (bs' ++ (UInt8.ofNat l.size :: l.data.toList)).length) (by simp)
          have hmp := map_put (hS.below (Below.refl _ _).drew).mp hnm bs'.length (by omega)
          obtain ⟨w5, hup, hm5, hg5⟩ := hmp
          have hS5 := (hS.below (Below.refl _ _).drew).put hm5 hg5
          have k5 := (hbel.trans (Bp.of (Below.refl _ _).drew hBw)).map (hS.below (Below.refl _ _).drew).mp hg5 hS.br
          have hB5 : B ≤ w5.heap.size := by have := blk_lt hS5.pw.blk; have := hS5.pw.bg; omega
          have c5 : w5.cell? ⟨g, 0, none⟩ = some (.slice xa bs'.length ya) := (blk_cell hS5.pw.blk 0).trans rfl
          have d5 : w5.cell? ⟨g, 1, none⟩ = some (.map (some r)) := (blk_cell hS5.pw.blk 1).trans rfl
          clear hm5 hg5
          go_wp2_with fail
          refine wp_region_last (fun W => W.cell? ⟨g, 0, none⟩ = some (.slice xa bs'.length ya) ∧ W.cell? ⟨g, 1, none⟩ = some (.map (some r))) 10 (by kernel_rfl) ⟨c0, c1⟩ (fun hHeld => ?_)
          refine wpAnyL_take (i := 0) (v := ?_) rfl (by kernel_rfl) (by kernel_rfl) (by kernel_rfl) (by kernel_rfl) (fun _ _ _ h => h) (Or.inl ⟨by rfl, ?_⟩) (by assumption) ?_
          rotate_left 1
          · (rintro w ⟨hSw1, hSw2⟩; go_simp; try (with_reducible rfl))
          refine wpAnyL_take (i := 1) (v := ?_) rfl (by kernel_rfl) (by kernel_rfl) (by kernel_rfl) (by kernel_rfl) (fun _ _ _ h => h) (Or.inl ⟨by rfl, ?_⟩) (by assumption) ?_
          rotate_left 1
          · (rintro w ⟨hSw1, hSw2⟩; go_simp; try (with_reducible rfl))
          refine wpAnyL_take (i := 2) (v := ?_) rfl (by kernel_rfl) (by kernel_rfl) (by kernel_rfl) (by kernel_rfl) (fun _ _ _ h => h) (Or.inl ⟨by rfl, ?_⟩) (by assumption) ?_
          rotate_left 1
          · (rintro w ⟨hSw1, hSw2⟩; go_simp; try (with_reducible rfl))
          refine wpAnyL_take (i := 3) (v := ?_) rfl (by kernel_rfl) (by kernel_rfl) (by kernel_rfl) (by kernel_rfl) (fun _ _ _ h => h) (Or.inl ⟨by rfl, ?_⟩) (by assumption) ?_
          rotate_left 1
          · (rintro w ⟨hSw1, hSw2⟩; go_simp; try (with_reducible rfl))
          refine wpAnyL_take (i := 4) (v := ?_) rfl (by kernel_rfl) (by kernel_rfl) (by kernel_rfl) (by kernel_rfl) (fun _ _ _ h => h) (Or.inl ⟨by rfl, ?_⟩) (by assumption) ?_
          rotate_left 1
          · (rintro w ⟨hSw1, hSw2⟩; go_simp; try (with_reducible rfl))
          refine wpAnyL_take (i := 5) (v := ?_) rfl (by kernel_rfl) (by kernel_rfl) (by kernel_rfl) (by kernel_rfl) (fun _ _ _ h => h) (Or.inl ⟨by rfl, ?_⟩) (by assumption) ?_
          rotate_left 1
          · (rintro w ⟨hSw1, hSw2⟩; go_simp; try (with_reducible rfl))
          refine wpAnyL_take (i := 6) (v := ?_) rfl (by kernel_rfl) (by kernel_rfl) (by kernel_rfl) (by kernel_rfl) (fun _ _ _ h => h) (Or.inl ⟨by rfl, ?_⟩) (by assumption) ?_
          rotate_left 1
          · (rintro w ⟨hSw1, hSw2⟩; go_simp; try (with_reducible rfl))
          refine wpAnyL_take (i := 7) (v := ?_) rfl (by kernel_rfl) (by kernel_rfl) (by kernel_rfl) (by kernel_rfl) (fun _ _ _ h => h) (Or.inl ⟨by rfl, ?_⟩) (by assumption) ?_
          rotate_left 1
          · (rintro w ⟨hSw1, hSw2⟩; go_simp; try (with_reducible rfl))
          refine wpAnyL_take (i := 8) (v := ?_) rfl (by kernel_rfl) (by kernel_rfl) (by kernel_rfl) (by kernel_rfl) (fun _ _ _ h => h) (Or.inl ⟨by rfl, ?_⟩) (by assumption) ?_
          rotate_left 1
          · (rintro w ⟨hSw1, hSw2⟩; go_simp; try (with_reducible rfl))
          refine wpAnyL_take (i := 9) (v := ?_) rfl (by kernel_rfl) (by kernel_rfl) (by kernel_rfl) (by kernel_rfl) (fun _ _ _ h => h) (Or.inl ⟨by rfl, ?_⟩) (by assumption) ?_
          rotate_left 1
          · (rintro w ⟨hSw1, hSw2⟩; go_simp; try (with_reducible rfl))
          refine wpAnyL_end (by kernel_rfl) rfl (by kernel_rfl) (fun K hK => ?_)
          go_simp
          refine hK.out _ _ ?_
          clear hK K hHeld
          go_wp2_with fail
          refine wp_region_last (fun W => W.cell? ⟨g, 0, none⟩ = some (.slice xa bs'.length ya) ∧ W.cell? ⟨g, 1, none⟩ = some (.map (some r))) 11 (by kernel_rfl) ⟨c5, d5⟩ (fun hHeld => ?_)
          refine wpAnyL_take (i := 0) (v := ?_) rfl (by kernel_rfl) (by kernel_rfl) (by kernel_rfl) (by kernel_rfl) (fun _ _ _ h => h) (Or.inl ⟨by rfl, ?_⟩) (by assumption) ?_
          rotate_left 1
          · (rintro w ⟨hSw1, hSw2⟩; go_simp; try (with_reducible rfl))
          refine wpAnyL_take (i := 1) (v := ?_) rfl (by kernel_rfl) (by kernel_rfl) (by kernel_rfl) (by kernel_rfl) (fun _ _ _ h => h) (Or.inl ⟨by rfl, ?_⟩) (by assumption) ?_
          rotate_left 1
          · (rintro w ⟨hSw1, hSw2⟩; go_simp; try (with_reducible rfl))
          refine wpAnyL_take (i := 2) (v := ?_) rfl (by kernel_rfl) (by kernel_rfl) (by kernel_rfl) (by kernel_rfl) (fun _ _ _ h => h) (Or.inl ⟨by rfl, ?_⟩) (by assumption) ?_
          rotate_left 1
          · (rintro w ⟨hSw1, hSw2⟩; go_simp; try (with_reducible rfl))
          refine wpAnyL_take (i := 3) (v := ?_) rfl (by kernel_rfl) (by kernel_rfl) (by kernel_rfl) (by kernel_rfl) (fun _ _ _ h => h) (Or.inl ⟨by rfl, ?_⟩) (by assumption) ?_
          rotate_left 1
          · (rintro w ⟨hSw1, hSw2⟩; go_simp; try (with_reducible rfl))
          refine wpAnyL_take (i := 4) (v := ?_) rfl (by kernel_rfl) (by kernel_rfl) (by kernel_rfl) (by kernel_rfl) (fun _ _ _ h => h) (Or.inl ⟨by rfl, ?_⟩) (by assumption) ?_
          rotate_left 1
          · (rintro w ⟨hSw1, hSw2⟩; go_simp; try (with_reducible rfl))
          refine wpAnyL_take (i := 5) (v := ?_) rfl (by kernel_rfl) (by kernel_rfl) (by kernel_rfl) (by kernel_rfl) (fun _ _ _ h => h) (Or.inl ⟨by rfl, ?_⟩) (by assumption) ?_
          rotate_left 1
          · (rintro w ⟨hSw1, hSw2⟩; go_simp; try (with_reducible rfl))
          refine wpAnyL_take (i := 6) (v := ?_) rfl (by kernel_rfl) (by kernel_rfl) (by kernel_rfl) (by kernel_rfl) (fun _ _ _ h => h) (Or.inl ⟨by rfl, ?_⟩) (by assumption) ?_
          rotate_left 1
          · (rintro w ⟨hSw1, hSw2⟩; go_simp; try (with_reducible rfl))
          refine wpAnyL_take (i := 7) (v := .string (NB.extract 0 (1 + l.size))) rfl (by kernel_rfl) (by kernel_rfl) (by kernel_rfl) (by kernel_rfl) (fun _ _ _ h => h) (Or.inl ⟨by rfl, ?_⟩) (by assumption) ?_
          · rintro w ⟨hSw1, hSw2⟩
            go_simp
            try rw [if_pos hle0]
          have hSd := hS5.below (Below.refl _ _).drew
          refine wpAnyL_one (i := 8) (by kernel_rfl) rfl (fun K hK => ?_)
          refine step_append_str rfl (.tmp 49) (.tmp 52) 66 9 rfl B 5 i0 Tryz.underlying66 Tryz.underlying9 hi hz0 hz1 hz2 (.slice xa bs'.length ya) bs'.length (Nm.bys bs') (by go_simp) hSd.pw.rb (NB.extract 0 (1 + l.size)) (by go_simp) (by rw [hpz]; unfold maxLen; omega) (by rw [hpz]; omega) hB5 ?_
          intro va wa hown9 hgrow9
          rw [Nm.bys_str, ← Nm.bys_append, hpre, hpz] at hown9
          obtain ⟨xb, yb, hvb⟩ := own_sl hown9
          have hblk9 := blk_grown hSd.pw.blk hgrow9 (fun e => own_blk hSd.pw.rb hSd.pw.blk (by decide) e)
          have b9 : Bw B w5 wa := (Bw.of (Below.refl _ _).drew hB5).app hSd.pw.rb hgrow9 hB5
          have c9 : wa.cell? ⟨g, 0, none⟩ = some (.slice xa bs'.length ya) := (blk_cell hblk9 0).trans rfl
          have d9 : wa.cell? ⟨g, 1, none⟩ = some (.map (some r)) := (blk_cell hblk9 1).trans rfl
          have f9 := blk_frozen hblk9 0
          rw [hvb] at hown9 ⊢
          refine hK.out _ _ ⟨c9, d9⟩ (fun hH3 => ?_)
          clear hK K
          refine wpAnyL_one (i := 9) (by kernel_rfl) rfl (fun K hK => ?_)
          go_simp
          refine hK.out _ _ ⟨c9, d9⟩ (fun hH4 => ?_)
          clear hK K
          refine wpAnyL_take (i := 10) (v := ?_) rfl (by kernel_rfl) (by kernel_rfl) (by kernel_rfl) (by kernel_rfl) (fun _ _ _ h => h) (Or.inl ⟨by rfl, ?_⟩) (by assumption) ?_
          rotate_left 1
          · (rintro w ⟨hSw1, hSw2⟩; go_simp; try (with_reducible rfl))
          refine wpAnyL_end (by kernel_rfl) rfl (by kernel_rfl) (fun K hK => ?_)
          go_simp
          refine hK.out _ _ ?_
          clear hK K
          have hS10 : PW (wa.setCell ⟨g, 0, none⟩ (.slice xb (bs'.length + (1 + l.size)) yb)) g B (bs' ++ (UInt8.ofNat l.size :: l.data.toList)) (.slice xb (bs'.length + (1 + l.size)) yb) (.map (some r)) := ⟨blk_set hblk9 0 _, by rw [hzl]; exact own_far hown9 (own_blk hown9 hblk9 (by decide)), hS.pw.bg⟩
          have b10 := b9.set hblk9 hS.pw.bg 0 (.slice xb (bs'.length + (1 + l.size)) yb)
          have hM10 := hS5.after hS10 b10
          have k10 := k5.trans (Bp.ofw b10)
          have hB10 := Nat.le_trans hB5 b10.be.size
          generalize wa.setCell ⟨g, 0, none⟩ (.slice xb (bs'.length + (1 + l.size)) yb) = W10 at *
          clear hown9 hgrow9 hblk9 b9 hS10 b10 hSd c9 d9 f9 hH3 hH4 hHeld
          go_wp2
          go_roundw
          case rel => exact ⟨ls, _, _, _, rfl, hM10, hB10, k10, hok2, hxs2, by rw [hzl]; omega, by omega, HR2⟩
          case measure => simp; omega
        · rw [if_neg hsh] at HR2
          have hsh' : (16383 : Int) < (bs'.length : Int) := by omega
          have hok2 := hok'.mono (m := (bs' ++ (UInt8.ofNat l.size :: l.data.toList)).length) (by simp)
          have hS5 := hS
          have k5 := hbel
          have hB5 := hBw
          have c5 := c0
          have d5 := c1
          go_wp2_with fail
          refine wp_region_last (fun W => W.cell? ⟨g, 0, none⟩ = some (.slice xa bs'.length ya) ∧ W.cell? ⟨g, 1, none⟩ = some (.map (some r))) 11 (by kernel_rfl) ⟨c5, d5⟩ (fun hHeld => ?_)
          refine wpAnyL_take (i := 0) (v := ?_) rfl (by kernel_rfl) (by kernel_rfl) (by kernel_rfl) (by kernel_rfl) (fun _ _ _ h => h) (Or.inl ⟨by rfl, ?_⟩) (by assumption) ?_
          rotate_left 1
          · (rintro w ⟨hSw1, hSw2⟩; go_simp; try (with_reducible rfl))
          refine wpAnyL_take (i := 1) (v := ?_) rfl (by kernel_rfl) (by kernel_rfl) (by kernel_rfl) (by kernel_rfl) (fun _ _ _ h => h) (Or.inl ⟨by rfl, ?_⟩) (by assumption) ?_
          rotate_left 1
          · (rintro w ⟨hSw1, hSw2⟩; go_simp; try (with_reducible rfl))
          refine wpAnyL_take (i := 2) (v := ?_) rfl (by kernel_rfl) (by kernel_rfl) (by kernel_rfl) (by kernel_rfl) (fun _ _ _ h => h) (Or.inl ⟨by rfl, ?_⟩) (by assumption) ?_
          rotate_left 1
          · (rintro w ⟨hSw1, hSw2⟩; go_simp; try (with_reducible rfl))
          refine wpAnyL_take (i := 3) (v := ?_) rfl (by kernel_rfl) (by kernel_rfl) (by kernel_rfl) (by kernel_rfl) (fun _ _ _ h => h) (Or.inl ⟨by rfl, ?_⟩) (by assumption) ?_
          rotate_left 1
          · (rintro w ⟨hSw1, hSw2⟩; go_simp; try (with_reducible rfl))
          refine wpAnyL_take (i := 4) (v := ?_) rfl (by kernel_rfl) (by kernel_rfl) (by kernel_rfl) (by kernel_rfl) (fun _ _ _ h => h) (Or.inl ⟨by rfl, ?_⟩) (by assumption) ?_
          rotate_left 1
          · (rintro w ⟨hSw1, hSw2⟩; go_simp; try (with_reducible rfl))
          refine wpAnyL_take (i := 5) (v := ?_) rfl (by kernel_rfl) (by kernel_rfl) (by kernel_rfl) (by kernel_rfl) (fun _ _ _ h => h) (Or.inl ⟨by rfl, ?_⟩) (by assumption) ?_
          rotate_left 1
          · (rintro w ⟨hSw1, hSw2⟩; go_simp; try (with_reducible rfl))
          refine wpAnyL_take (i := 6) (v := ?_) rfl (by kernel_rfl) (by kernel_rfl) (by kernel_rfl) (by kernel_rfl) (fun _ _ _ h => h) (Or.inl ⟨by rfl, ?_⟩) (by assumption) ?_
          rotate_left 1
          · (rintro w ⟨hSw1, hSw2⟩; go_simp; try (with_reducible rfl))
          refine wpAnyL_take (i := 7) (v := .string (NB.extract 0 (1 + l.size))) rfl (by kernel_rfl) (by kernel_rfl) (by kernel_rfl) (by kernel_rfl) (fun _ _ _ h => h) (Or.inl ⟨by rfl, ?_⟩) (by assumption) ?_
          · rintro w ⟨hSw1, hSw2⟩
            go_simp
            try rw [if_pos hle0]
          have hSd := hS5.below (Below.refl _ _).drew
          refine wpAnyL_one (i := 8) (by kernel_rfl) rfl (fun K hK => ?_)
          refine step_append_str rfl (.tmp 49) (.tmp 52) 66 9 rfl B 5 i0 Tryz.underlying66 Tryz.underlying9 hi hz0 hz1 hz2 (.slice xa bs'.length ya) bs'.length (Nm.bys bs') (by go_simp) hSd.pw.rb (NB.extract 0 (1 + l.size)) (by go_simp) (by rw [hpz]; unfold maxLen; omega) (by rw [hpz]; omega) hB5 ?_
          intro va wa hown9 hgrow9
          rw [Nm.bys_str, ← Nm.bys_append, hpre, hpz] at hown9
          obtain ⟨xb, yb, hvb⟩ := own_sl hown9
          have hblk9 := blk_grown hSd.pw.blk hgrow9 (fun e => own_blk hSd.pw.rb hSd.pw.blk (by decide) e)
          have b9 : Bw B wr wa := (Bw.of (Below.refl _ _).drew hB5).app hSd.pw.rb hgrow9 hB5
          have c9 : wa.cell? ⟨g, 0, none⟩ = some (.slice xa bs'.length ya) := (blk_cell hblk9 0).trans rfl
          have d9 : wa.cell? ⟨g, 1, none⟩ = some (.map (some r)) := (blk_cell hblk9 1).trans rfl
          have f9 := blk_frozen hblk9 0
          rw [hvb] at hown9 ⊢
          refine hK.out _ _ ⟨c9, d9⟩ (fun hH3 => ?_)
          clear hK K
          refine wpAnyL_one (i := 9) (by kernel_rfl) rfl (fun K hK => ?_)
          go_simp
          refine hK.out _ _ ⟨c9, d9⟩ (fun hH4 => ?_)
          clear hK K
          refine wpAnyL_take (i := 10) (v := ?_) rfl (by kernel_rfl) (by kernel_rfl) (by kernel_rfl) (by kernel_rfl) (fun _ _ _ h => h) (Or.inl ⟨by rfl, ?_⟩) (by assumption) ?_
          rotate_left 1
          · (rintro w ⟨hSw1, hSw2⟩; go_simp; try (with_reducible rfl))
          refine wpAnyL_end (by kernel_rfl) rfl (by kernel_rfl) (fun K hK => ?_)
          go_simp
          refine hK.out _ _ ?_
          clear hK K
          have hS10 : PW (wa.setCell ⟨g, 0, none⟩ (.slice xb (bs'.length + (1 + l.size)) yb)) g B (bs' ++ (UInt8.ofNat l.size :: l.data.toList)) (.slice xb (bs'.length + (1 + l.size)) yb) (.map (some r)) := ⟨blk_set hblk9 0 _, by rw [hzl]; exact own_far hown9 (own_blk hown9 hblk9 (by decide)), hS.pw.bg⟩
          have b10 := b9.set hblk9 hS.pw.bg 0 (.slice xb (bs'.length + (1 + l.size)) yb)
          have hM10 := hS5.after hS10 b10
          have k10 := k5.trans (Bp.ofw b10)
          have hB10 := Nat.le_trans hB5 b10.be.size
          generalize wa.setCell ⟨g, 0, none⟩ (.slice xb (bs'.length + (1 + l.size)) yb) = W10 at *
          clear hown9 hgrow9 hblk9 b9 hS10 b10 hSd c9 d9 f9 hH3 hH4 hHeld
          go_wp2
          go_roundw
          case rel => exact ⟨ls, _, _, _, rfl, hM10, hB10, k10, hok2, hxs2, by rw [hzl]; omega, by omega, HR2⟩
          case measure => simp; omega
end Go.Proofs.YtmaopfagkffccaaGreat
/- impl.mayPoint by its contract. -/
namespace Go.Proofs.YtmaopfagkffccaaGreat
open Go.RowKit
set_option linter.unusedVariables false

set_option maxRecDepth 100000 in
set_option maxHeartbeats 800000 in
theorem mayPoint_any (t : Nat) (w : World) :
    Calls Tryz.prog 85 #[.int .i64 t] w fun e w' => e = .returned (.bool (decide (pointed t))) ∧ w' = w := by
  by_cases h : pointed t
  · have HD : Hid (decide (pointed t) = true) := by exact decide_eq_true h
    rcases h with rfl | rfl | rfl | rfl | rfl
    all_goals
      go_enter Tryz.func85, Tryz.ntmps85
      go_wp2
      go_ret
      exact ⟨rfl, rfl⟩
  · have HD : Hid (decide (pointed t) = false) := by exact decide_eq_false h
    unfold pointed at h
    have b2 : ((t : Int) == 2) = false := by rw [beq_eq_false_iff_ne]; omega
    have b5 : ((t : Int) == 5) = false := by rw [beq_eq_false_iff_ne]; omega
    have b6 : ((t : Int) == 6) = false := by rw [beq_eq_false_iff_ne]; omega
    have b12 : ((t : Int) == 12) = false := by rw [beq_eq_false_iff_ne]; omega
    have b15 : ((t : Int) == 15) = false := by rw [beq_eq_false_iff_ne]; omega
    clear h
    go_enter Tryz.func85, Tryz.ntmps85
    go_wp2
    go_ret
    rw [HD.out]
    exact ⟨rfl, rfl⟩
end Go.Proofs.YtmaopfagkffccaaGreat
/- impl.foldByte by its contract. -/
namespace Go.Proofs.YtmaopfagkffccaaGreat
open Go.RowKit

theorem ret_u8 {a b : Int} (h : a = b) : Ending.returned (.int .u8 a) = .returned (.int .u8 b) := by rw [h]

set_option maxRecDepth 100000 in
set_option maxHeartbeats 400000 in
theorem foldByte_any (c : UInt8) (w : World) :
    Calls Tryz.prog 120 #[.int .u8 c.toNat] w fun e w' => e = .returned (.int .u8 (Nm.low c).toNat) ∧ w' = w := by
  have hcl : (c.toNat : Int) < 256 := by have := c.toNat_lt; omega
  by_cases hup : 65 ≤ c.toNat ∧ c.toNat ≤ 90
  · have HL := Nm.hide (Nm.low_up hup)
    have d1 : decide ((65 : Int) ≤ (c.toNat : Int)) = true := by simp; omega
    have d2 : decide ((c.toNat : Int) ≤ 90) = true := by simp; omega
    have hb1 : (c.toNat : Int) ≤ 90 := by omega
    clear hup
    go_enter Tryz.func120, Tryz.ntmps120
    go_wp2
    go_ret
    rw [HL.out]
    exact ⟨rfl, rfl⟩
  · have HL := Nm.hide (Nm.low_id hup)
    by_cases hlo : 65 ≤ c.toNat
    · have d1 : decide ((65 : Int) ≤ (c.toNat : Int)) = true := by simp; omega
      have d2 : decide ((c.toNat : Int) ≤ 90) = false := by simp; omega
      clear hup
      go_enter Tryz.func120, Tryz.ntmps120
      go_wp2
      go_ret
      rw [HL.out]
      exact ⟨rfl, rfl⟩
    · have d1 : decide ((65 : Int) ≤ (c.toNat : Int)) = false := by simp; omega
      clear hup
      go_enter Tryz.func120, Tryz.ntmps120
      go_wp2
      go_ret
      rw [HL.out]
      exact ⟨rfl, rfl⟩

end Go.Proofs.YtmaopfagkffccaaGreat
