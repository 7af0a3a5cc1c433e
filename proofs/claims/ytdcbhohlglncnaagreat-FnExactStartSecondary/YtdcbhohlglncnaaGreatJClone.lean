import Derived.Test.YtdcbhohlglncnaaGreatJMath
import Derived.Test.YtdcbhohlglncnaaGreatRows
import Derived.WalkSpells
import Derived.WalkLawsBesides
import Derived.Lib.BufferWrite
import Derived.Lib.UnsafeStr
import Derived.Laws.MakeOwn
import Derived.Deep.RegionHeld
import Derived.Deep.RegionHeld3
import Derived.Lib.Bytealg
import Derived.Laws.Externs
import Derived.Deep.QuietTactic
import Derived.BigQuiet
/- strings.Clone by its contract: the same bytes; nothing that was there has turned. -/
namespace Go.Proofs.YtdcbhohlglncnaaGreat
open Go.RowKit
theorem Tryz.infoU8c : (Tryz.prog.info? 5).map (fun i => (i.zero, i.size, i.bytes)) = some (some (.int .u8 0), 1, 1) := by kernel_rfl
set_option maxRecDepth 100000 in
set_option maxHeartbeats 800000 in
theorem clone_any (s : ByteArray) (w : World) (hs : s.size ≤ 1000000000) :
 Calls Tryz.prog 80 #[.string s] w fun e w' => e = .returned (.string s) ∧ Below w.heap.size w w' := by
 by_cases h0 : s.size = 0
 · have hs0 : s = ⟨#[]⟩ := by
    apply ByteArray.ext
    exact Array.eq_empty_of_size_eq_zero h0
   subst hs0
   go_enter Tryz.func80, Tryz.ntmps80
   go_wp2
   go_ret
   exact ⟨rfl, Below.refl _ _⟩
 · obtain ⟨i0, hi, hz0, hz1, hz2⟩ := info_parts Tryz.infoU8c
   have hinfo : (Tryz.prog.info? 5).map (·.size) = some 1 := by rw [hi]; simp [hz1]
   have hco : Tryz.prog.cellsOf 5 = 1 := by simp [Program.cellsOf, hi, hz1]
   obtain ⟨M, hM⟩ : ∃ M, M = madeCells (Value.int .u8 0).cells (((s.size : Nat) : Int).toNat * i0.size) := ⟨_, rfl⟩
   have hMs : M.size = s.size := by rw [hM, size_madeCells, hz1]; simp
   have hmk : ∀ W : World, (Instr.makeSlice 42 (.int .i64 (s.size : Int)) (.int .i64 (s.size : Int))).run Tryz.prog W = .ok (.slice (some ⟨W.heap.size, 0, none⟩) s.size s.size) (W.alloc (.cells M 5)) := by
    intro W
    have h := run_make (P := Tryz.prog) W 42 5 i0 (.int .u8 0) Tryz.underlying42 hi hz0 .i64 .i64 (s.size : Int) (s.size : Int) (by omega) (by omega) (by rw [hz2]; omega) (by omega)
    rw [← hM] at h
    simpa using h
   clear hM
   have hcp := Lib.run_copy_row_string (P := Tryz.prog) (w.alloc (.cells M 5)) 42 9 3 5 w.heap.size 0 s.size s.size s M 5 Tryz.underlying42 hinfo (heap_alloc_new w _) (Nat.le_refl _) (by omega)
   obtain ⟨Y, hY⟩ : ∃ Y, Y = (M.toList.take 0 ++ Lib.byteCells s.data.toList ++ M.toList.drop (0 + s.size)).toArray := ⟨_, rfl⟩
   rw [← hY] at hcp
   have hYl : Y.toList = Lib.byteCells s.data.toList := by
    rw [hY, List.toList_toArray, List.take_zero, List.nil_append, List.drop_of_length_le (by rw [Array.length_toList]; omega), List.append_nil]
   have hgY : ((w.alloc (.cells M 5)).setRow w.heap.size Y).heap[w.heap.size]? = some (.cells Y 5 (0, 0)) := setRow_heap _ _ M _ 5 (0, 0) (heap_alloc_new w _)
   have hlen : s.data.toList.length = s.size := by simp
   have hYs : Y.size = s.size := by rw [← Array.length_toList, hYl, Lib.byteCells_length, hlen]
   have hne : s.data.toList ≠ [] := fun e => h0 (by rw [← hlen, e]; rfl)
   have hUS := Lib.run_unsafeString_row (P := Tryz.prog) ((w.alloc (.cells M 5)).setRow w.heap.size Y) 220 3 9 5 Tryz.underlying220 hco w.heap.size Y.size (by unfold World.shape?; rw [hgY]) s.data.toList hne (by omega) (by omega)
    (by
     intro j x hx
     rw [Nm.addr_add, Nat.zero_add, cell_of_row _ _ _ _ _ _ hgY, ← Array.getElem?_toList, hYl]
     simp only [Lib.byteCells, List.getElem?_map, hx, Option.map_some])
   rw [hlen] at hUS
   clear hY
   go_enter Tryz.func80, Tryz.ntmps80
   go_wp2
   go_ret
   have hb1 : Below w.heap.size w (w.alloc (.cells M 5)) := (Below.refl _ w).alloc (Nat.le_refl _) _
   have hb2 : Below w.heap.size (w.alloc (.cells M 5)) ((w.alloc (.cells M 5)).setRow w.heap.size Y) := ⟨rfl, rfl, rfl, by simp, fun k hk => setRow_other _ _ _ _ (by omega)⟩
   exact ⟨rfl, Lib.below_freeze (hb1.trans hb2) (p := ⟨w.heap.size, 0, none⟩) (Nat.le_refl _) _⟩
end Go.Proofs.YtdcbhohlglncnaaGreat
/- A region whose last operation, a store, may break what is held: everything else waits for nothing of it. -/
namespace Go.Proofs.YtdcbhohlglncnaaGreat
open Go
section
variable {P : Program} {ops : Array Oper} {Q : Exit → Act → World → Prop} {md : Region.Mode} {S : World → Prop} {L : Nat}
/-- Whatever order is picked from here on, and S holds behind every operation but number L. -/
def wpAnyL (P : Program) (md : Region.Mode) (ops : Array Oper) (Q : Exit → Act → World → Prop) (S : World → Prop) (L : Nat) : Nat → Array Bool → Act → World → Prop
 | 0, listed, a, w => Region.ready md ops listed = [] ∧ Q .normal a w
 | fuel + 1, listed, a, w =>
   (Region.ready md ops listed = [] → Q .normal a w) ∧
   ∀ i ∈ Region.ready md ops listed, wpOp P ops Q i (fun a' w' => (i = L ∨ S w') ∧ wpAnyL P md ops Q S L fuel (listed.setIfInBounds i true) a' w') a w
theorem wpAny_of_last : ∀ (fuel : Nat) (listed : Array Bool) (a : Act) (w : World), wpAnyL P md ops Q S L fuel listed a w → wpAny P md ops Q fuel listed a w
 | 0, _, _, _, h => h
 | fuel + 1, _, _, _, h => ⟨h.1, fun i hi => wpOp_mono (fun a' w' h' => wpAny_of_last fuel _ a' w' h'.2) (h.2 i hi)⟩
/-- Number L waits for number i. -/
def waitsFor (md : Region.Mode) (ops : Array Oper) (L i : Nat) : Bool := match ops[L]? with
 | some o => o.after.any (fun e => Region.binds md e && e.on == i)
 | none => true
/-- Of two that may come up neither waits for the other. -/
theorem ready_free {listed : Array Bool} {i j : Nat} {oj : Oper} (hi : i ∈ Region.ready md ops listed) (hj : j ∈ Region.ready md ops listed) (ho : ops[j]? = some oj) : ∀ e ∈ oj.after, Region.binds md e = true → e.on ≠ i := by
 rintro e he hb rfl
 obtain ⟨_, o, ho2, hall⟩ := mem_ready.1 hj
 obtain rfl : oj = o := Option.some.inj (ho.symm.trans ho2)
 have h1 := hall e he hb
 have h0 := (mem_ready.1 hi).1
 rw [Array.getD_eq_getD_getElem?] at h0 h1
 cases hx : listed[e.on]? with
 | none => rw [hx] at h1; cases h1
 | some b => rw [hx] at h0 h1; simp only [Option.getD_some] at h0 h1; rw [h0] at h1; cases h1
/-- So number L does not come up ahead of what it waits for. -/
theorem last_waits {listed : Array Bool} {i j : Nat} (hL : waitsFor md ops L i = true) (hi : i ∈ Region.ready md ops listed) (hj : j ∈ Region.ready md ops listed) : j ≠ L := by
 rintro rfl
 obtain ⟨_, o, ho, _⟩ := mem_ready.1 hj
 rw [waitsFor, ho] at hL
 simp only [Array.any_eq_true', Bool.and_eq_true, beq_iff_eq] at hL
 obtain ⟨e, he, hb, h⟩ := hL
 exact ready_free hi hj ho e he hb h
/-- What nobody touches that may come ahead of it. -/
def Untouched (md : Region.Mode) (ops : Array Oper) (oi : Oper) (i : Nat) (listed : Array Bool) : Prop := ∀ j oj, ops[j]? = some oj → j ≠ i → listed.getD j true = false → (∀ e ∈ oj.after, Region.binds md e = true → e.on ≠ i) → oi.apart ops oj = true
theorem Untouched.more {oi : Oper} {i j : Nat} {listed : Array Bool} (h : Untouched md ops oi i listed) (hj : listed.getD j true = false) : Untouched md ops oi i (listed.setIfInBounds j true) := by
 intro k ok hk hki hun
 refine h k ok hk hki ?_
 rcases Nat.decEq j k with hne | rfl
 · rw [getD_set_ne true hne] at hun; exact hun
 · exact hj
theorem wpAnyL_first {i : Nat} {oi : Oper} {v : Value} (hi : ops[i]? = some oi) (hsel : ∀ (j : Nat) (o : Oper) cs b, ops[j]? = some o → o.op ≠ .select cs b)
 (hQ : ∀ c a w, Q (.panic c) (a.put oi.dst v) w → Q (.panic c) a w) (hL : waitsFor md ops L i = true) (fuel : Nat) :
 ∀ (listed : Array Bool) (a : Act) (w : World), Untouched md ops oi i listed → i ∈ Region.ready md ops listed → YieldsIf P ops S oi v a → S w →
   wpAnyL P md ops Q S L fuel (listed.setIfInBounds i true) (a.put oi.dst v) w → wpAnyL P md ops Q S L (fuel + 1) listed a w := by
 induction fuel with
 | zero =>
   intro listed a w _ hr hy hS H
   refine ⟨fun h => absurd (h ▸ hr) (by simp), fun j hj => ?_⟩
   rcases Nat.decEq j i with hne | rfl
   · exact absurd (H.1 ▸ ready_mono hj hne) (by simp)
   · exact hy.wpOp hi hS ⟨.inr hS, H⟩
 | succ fuel ih =>
   intro listed a w hun hr hy hS H
   refine ⟨fun h => absurd (h ▸ hr) (by simp), fun j hj => ?_⟩
   rcases Nat.decEq j i with hne | rfl
   · obtain ⟨hju, oj, hoj, _⟩ := mem_ready.1 hj
     have hstep := wpOp_putIf hoj (hun j oj hoj hne hju (ready_free hr hj hoj)) (fun cs b => hsel i oi cs b hi) (fun cs b => hsel j oj cs b hoj) hQ hy (H.2 j (ready_mono hj hne))
     refine wpOp_mono (fun a' w' ⟨hy', hS', hW⟩ => ?_) hstep
     have hSw := hS'.resolve_left (last_waits hL hr hj)
     exact ⟨.inr hSw, ih _ a' w' (hun.more hju) (ready_mono hr (Ne.symm hne)) hy' hSw (by rw [Array.setIfInBounds_comm _ _ hne]; exact hW)⟩
   · exact hy.wpOp hi hS ⟨.inr hS, H⟩
/-- Take number i first. -/
theorem wpAnyL_take {i : Nat} {oi : Oper} {v : Value} {fuel : Nat} {listed : Array Bool} {a : Act} {w : World} (hi : ops[i]? = some oi)
 (hs : Region.noSelect ops = true) (hf : Region.free md ops listed i = true) (hr : (Region.ready md ops listed).contains i = true) (hL : waitsFor md ops L i = true)
 (hQ : ∀ c a w, Q (.panic c) (a.put oi.dst v) w → Q (.panic c) a w) (hy : YieldsIf P ops S oi v a) (hS : S w)
 (h : wpAnyL P md ops Q S L fuel (listed.setIfInBounds i true) (a.put oi.dst v) w) : wpAnyL P md ops Q S L (fuel + 1) listed a w :=
 wpAnyL_first hi (Region.noSelect_spec hs) hQ hL fuel listed a w (Region.free_spec hi hf) (by simpa using hr) hy hS h
/-- Just one may come up, and it is not number L. -/
theorem wpAnyL_one {i : Nat} {o : Oper} {fuel : Nat} {listed : Array Bool} {a : Act} {w : World} (hr : Region.ready md ops listed = [i]) (ho : ops[i]? = some o)
 (h : ∀ K' : Act → World → Prop, Shut (∀ a w, S w → (S w → wpAnyL P md ops Q S L fuel (listed.setIfInBounds i true) a w) → K' a w) → if Region.wanted o (yielded ops a.tmps) = true then Oper.wp P o a w K' Q else K' (a.put o.dst undef) w) :
 wpAnyL P md ops Q S L (fuel + 1) listed a w := by
 refine ⟨fun h0 => (by rw [hr] at h0; cases h0), fun j hj => ?_⟩
 rw [hr] at hj
 obtain rfl : j = i := by simpa using hj
 exact wpOp_step ho (fun K' hK => h K' (fun a w hS hW => hK a w ⟨.inr hS, hW hS⟩))
/-- Number L comes up, the last of all. -/
theorem wpAnyL_end {o : Oper} {fuel : Nat} {listed : Array Bool} {a : Act} {w : World} (hr : Region.ready md ops listed = [L]) (ho : ops[L]? = some o) (he : Region.ready md ops (listed.setIfInBounds L true) = [])
 (h : ∀ K' : Act → World → Prop, Shut (∀ a w, Q .normal a w → K' a w) → if Region.wanted o (yielded ops a.tmps) = true then Oper.wp P o a w K' Q else K' (a.put o.dst undef) w) :
 wpAnyL P md ops Q S L (fuel + 1) listed a w := by
 refine ⟨fun h0 => (by rw [hr] at h0; cases h0), fun j hj => ?_⟩
 rw [hr] at hj
 obtain rfl : j = L := by simpa using hj
 refine wpOp_step ho (fun K' hK => h K' (fun a w hq => hK a w ⟨.inl rfl, ?_⟩))
 cases fuel with
 | zero => exact ⟨he, hq⟩
 | succ n => exact ⟨fun _ => hq, by rw [he]; intro i hi; cases hi⟩
theorem wp_region_last {id : Nat} {a : Act} {w : World} (S : World → Prop) (L : Nat) (hm : P.follows .mixedOrders = true) (hS : S w.drew)
 (h : S w.drew → wpAnyL P .any ops Q S L ops.size (Array.replicate ops.size false) a w.drew) : (Code.region id ops true).wp P Q a w :=
 wp_region_any hm (wpAny_of_last _ _ _ _ (h hS))
end
end Go.Proofs.YtdcbhohlglncnaaGreat
/- A region in whatever order: its end; two at once. -/
namespace Go.Proofs.YtdcbhohlglncnaaGreat
open Go
section
variable {P : Program} {ops : Array Oper} {Q : Exit → Act → World → Prop} {md : Region.Mode} {S : World → Prop} {L : Nat}
/-- All have come up. -/
theorem wpAnyL_done {fuel : Nat} {listed : Array Bool} {a : Act} {w : World} (hr : Region.ready md ops listed = []) (hq : Q .normal a w) : wpAnyL P md ops Q S L fuel listed a w := by
 cases fuel with
 | zero => exact ⟨hr, hq⟩
 | succ n => exact ⟨fun _ => hq, by rw [hr]; intro i hi; cases hi⟩
/-- Just two may come up. -/
theorem wpAnyL_two {i j : Nat} {o o' : Oper} {fuel : Nat} {listed : Array Bool} {a : Act} {w : World} (hr : Region.ready md ops listed = [i, j]) (ho : ops[i]? = some o) (ho' : ops[j]? = some o')
 (h : ∀ K' : Act → World → Prop, Shut (∀ a w, S w → (S w → wpAnyL P md ops Q S L fuel (listed.setIfInBounds i true) a w) → K' a w) → if Region.wanted o (yielded ops a.tmps) = true then Oper.wp P o a w K' Q else K' (a.put o.dst undef) w)
 (h' : ∀ K' : Act → World → Prop, Shut (∀ a w, S w → (S w → wpAnyL P md ops Q S L fuel (listed.setIfInBounds j true) a w) → K' a w) → if Region.wanted o' (yielded ops a.tmps) = true then Oper.wp P o' a w K' Q else K' (a.put o'.dst undef) w) :
 wpAnyL P md ops Q S L (fuel + 1) listed a w := by
 refine ⟨fun h0 => (by rw [hr] at h0; cases h0), fun k hk => ?_⟩
 rw [hr] at hk
 rcases (show k = i ∨ k = j by simpa using hk) with rfl | rfl
 · exact wpOp_step ho (fun K' hK => h K' (fun a w hS hW => hK a w ⟨.inr hS, hW hS⟩))
 · exact wpOp_step ho' (fun K' hK => h' K' (fun a w hS hW => hK a w ⟨.inr hS, hW hS⟩))
end
end Go.Proofs.YtdcbhohlglncnaaGreat
/- impl.newTable at its instances; what (*tree).lay makes afresh, by their contracts. -/
namespace Go.Proofs.YtdcbhohlglncnaaGreat
open Go.RowKit
set_option linter.unusedVariables false
theorem newTableL_any (fn : Fn) (w : World) : Calls Tryz.prog 140 #[.func fn #[] #[]] w fun e w' => e = .returned (ptr w.heap.size) ∧ w' = w.alloc (.cells #[.func fn #[] #[], .slice none 0 0] 180) := by
 go_enter Tryz.func140, Tryz.ntmps140
 go_wp2
 go_ret
 exact ⟨rfl, rfl⟩
theorem newTableI_any (fn : Fn) (w : World) : Calls Tryz.prog 173 #[.func fn #[] #[]] w fun e w' => e = .returned (ptr w.heap.size) ∧ w' = w.alloc (.cells #[.func fn #[] #[], .slice none 0 0] 187) := by
 go_enter Tryz.func173, Tryz.ntmps173
 go_wp2
 go_ret
 exact ⟨rfl, rfl⟩
theorem newTableS_any (fn : Fn) (w : World) : Calls Tryz.prog 177 #[.func fn #[] #[]] w fun e w' => e = .returned (ptr w.heap.size) ∧ w' = w.alloc (.cells #[.func fn #[] #[], .slice none 0 0] 256) := by
 go_enter Tryz.func177, Tryz.ntmps177
 go_wp2
 go_ret
 exact ⟨rfl, rfl⟩
/-- An owner that was made afresh. -/
def NewO (own : ByteArray) (lv : Value) (ux : Addr) (W w' : World) : Prop := ∃ hd ob, ux = ⟨ob, 0, none⟩ ∧ W.heap.size ≤ hd ∧ W.heap.size ≤ ob ∧ hd ≠ ob ∧ Blk w' hd #[cmpIv, .slice none 0 0] 187 ∧ Blk w' ob #[.string own, lv, ptr hd] 144
/-- A set that was made afresh. -/
def NewS (tt : Int) (at_ : Nat) (ux : Addr) (W w' : World) : Prop := ∃ hd sb, ux = ⟨sb, 0, none⟩ ∧ W.heap.size ≤ hd ∧ W.heap.size ≤ sb ∧ hd ≠ sb ∧ Blk w' hd #[cmpSv, .slice none 0 0] 256 ∧ Blk w' sb #[.int .i64 tt, .int .i64 (at_ : Int), ptr hd] 194
theorem grown_of_below {w w' : World} (h : Below w.heap.size w w') : w.grownBy w' none := ⟨h.os, h.tape, h.output, h.size, fun k hk _ => h.block k hk⟩
set_option maxRecDepth 100000 in
set_option maxHeartbeats 1600000 in
theorem lay1_any (rb lb : Nat) (own : ByteArray) (r1 r2 r3 r4 : Value) (la : Option Addr) (ln lc : Nat) (w : World) (kr : Blk w rb #[.string own, r1, r2, r3, r4] 90) (kl : Blk w lb #[.slice la ln lc] 126) (hs : own.size ≤ 1000000000) :
 Calls Tryz.prog 172 #[ptr rb, ptr lb] w fun e w' => ∃ ux : Addr, e = .returned (.pointer (some ux)) ∧ w.grownBy w' none ∧ NewO own (.slice la ln lc) ux w w' := by
 have hnt := newTableI_any (.func 174) w
 have hB1 := (Below.refl w.heap.size w).alloc (Nat.le_refl _) (.cells #[.func (.func 174) #[] #[], .slice none 0 0] 187)
 have kh := blk_new w #[.func (.func 174) #[] #[], .slice none 0 0] 187
 have hcl := fun W => clone_any own W hs
 unfold ptr
 go_enter Tryz.func172, Tryz.ntmps172
 go_wp2_with fail
 refine hnt.mono ?_
 rintro e w1 ⟨rfl, hw1⟩
 rw [← hw1] at hB1 kh
 unfold ptr
 have hS : ∀ W, Below w1.heap.size w1 W → W.cell? ⟨rb, 0, none⟩ = some (.string own) ∧ W.cell? ⟨lb, 0, none⟩ = some (.slice la ln lc) := fun W hW => ⟨blk_cell (blk_below (blk_below kr hB1) hW) 0, blk_cell (blk_below (blk_below kl hB1) hW) 0⟩
 have hsz1 : w1.heap.size = w.heap.size + 1 := by rw [hw1]; simp
 clear hnt hw1
 go_wp2
 refine wp_region_last (fun W => W.cell? ⟨rb, 0, none⟩ = some (.string own) ∧ W.cell? ⟨lb, 0, none⟩ = some (.slice la ln lc)) 1000 (by kernel_rfl) (hS _ (Below.refl _ _).drew) (fun hHeld => ?_)
 refine wpAnyL_take (i := 0) (v := ?_) rfl (by kernel_rfl) (by kernel_rfl) (by kernel_rfl) (by kernel_rfl) (fun _ _ _ h => h) (Or.inl ⟨by rfl, ?_⟩) (by assumption) ?_
 rotate_left 1
 · (intro W hSW; obtain ⟨z0, z1⟩ := hSW; go_simp; try (with_reducible rfl))
 refine wpAnyL_take (i := 1) (v := ?_) rfl (by kernel_rfl) (by kernel_rfl) (by kernel_rfl) (by kernel_rfl) (fun _ _ _ h => h) (Or.inl ⟨by rfl, ?_⟩) (by assumption) ?_
 rotate_left 1
 · (intro W hSW; obtain ⟨z0, z1⟩ := hSW; go_simp; try (with_reducible rfl))
 refine wpAnyL_take (i := 3) (v := ?_) rfl (by kernel_rfl) (by kernel_rfl) (by kernel_rfl) (by kernel_rfl) (fun _ _ _ h => h) (Or.inl ⟨by rfl, ?_⟩) (by assumption) ?_
 rotate_left 1
 · (intro W hSW; obtain ⟨z0, z1⟩ := hSW; go_simp; try (with_reducible rfl))
 refine wpAnyL_take (i := 4) (v := ?_) rfl (by kernel_rfl) (by kernel_rfl) (by kernel_rfl) (by kernel_rfl) (fun _ _ _ h => h) (Or.inl ⟨by rfl, ?_⟩) (by assumption) ?_
 rotate_left 1
 · (intro W hSW; obtain ⟨z0, z1⟩ := hSW; go_simp; try (with_reducible rfl))
 refine wpAnyL_one (i := 2) (by kernel_rfl) rfl (fun K hK => ?_)
 go_simp
 refine (hcl _).mono ?_
 rintro e w2 ⟨rfl, b2⟩
 go_wp2_with fail
 have b12 : Below w1.heap.size w1 w2 := Nm.below_two (Below.refl _ _).drew b2
 refine hK.out _ _ (hS _ b12) (fun _ => ?_)
 clear hK K hcl
 refine wpAnyL_take (i := 5) (v := ?_) rfl (by kernel_rfl) (by kernel_rfl) (by kernel_rfl) (by kernel_rfl) (fun _ _ _ h => h) (Or.inl ⟨by rfl, ?_⟩) (by assumption) ?_
 rotate_left 1
 · (intro W hSW; obtain ⟨z0, z1⟩ := hSW; go_simp; try (with_reducible rfl))
 refine wpAnyL_one (i := 6) (by kernel_rfl) rfl (fun K hK => ?_)
 go_simp
 refine hK.out _ _ (hS _ (b12.alloc b12.size _)) (fun _ => ?_)
 clear hK K
 refine wpAnyL_take (i := 7) (v := ?_) rfl (by kernel_rfl) (by kernel_rfl) (by kernel_rfl) (by kernel_rfl) (fun _ _ _ h => h) (Or.inl ⟨by rfl, ?_⟩) (by assumption) ?_
 rotate_left 1
 · (intro W hSW; obtain ⟨z0, z1⟩ := hSW; go_simp; try (with_reducible rfl))
 refine wpAnyL_done (by kernel_rfl) ?_
 have kh2 := blk_alloc (blk_below kh b12) (.cells #[.string own, .slice la ln lc, .pointer (some ⟨w.heap.size, 0, none⟩)] 144)
 have ko := blk_new w2 #[.string own, .slice la ln lc, .pointer (some ⟨w.heap.size, 0, none⟩)] 144
 have bF := (Nm.below_two hB1 b12).alloc (Nm.below_two hB1 b12).size (.cells #[.string own, .slice la ln lc, .pointer (some ⟨w.heap.size, 0, none⟩)] 144)
 have hsz2 := b12.size
 have HX := Nm.hide (And.intro kh2 (And.intro ko bF))
 clear kh2 ko bF b12 b2 hS kh hB1 kr kl
 go_wp2
 go_ret
 exact ⟨⟨w2.heap.size, 0, none⟩, rfl, grown_of_below HX.out.2.2, w.heap.size, w2.heap.size, rfl, Nat.le_refl _, by omega, by omega, HX.out.1, HX.out.2.1⟩
set_option maxRecDepth 100000 in
set_option maxHeartbeats 1600000 in
theorem lay2_any (rb ab at_ : Nat) (tt : Int) (r0 r1 r2 r4 : Value) (w : World) (kr : Blk w rb #[r0, r1, r2, .int .i64 tt, r4] 90) (ka : Blk w ab #[.int .i64 (at_ : Int)] 3) :
 Calls Tryz.prog 176 #[ptr rb, ptr ab] w fun e w' => ∃ ux : Addr, e = .returned (.pointer (some ux)) ∧ w.grownBy w' none ∧ NewS tt at_ ux w w' := by
 have hnt := fun W => newTableS_any (.func 178) W
 have hS : ∀ W, Below w.heap.size w W → W.cell? ⟨rb, 3, none⟩ = some (.int .i64 tt) ∧ W.cell? ⟨ab, 0, none⟩ = some (.int .i64 (at_ : Int)) := fun W hW => ⟨blk_cell (blk_below kr hW) 3, blk_cell (blk_below ka hW) 0⟩
 unfold ptr
 go_enter Tryz.func176, Tryz.ntmps176
 go_wp2
 refine wp_region_last (fun W => W.cell? ⟨rb, 3, none⟩ = some (.int .i64 tt) ∧ W.cell? ⟨ab, 0, none⟩ = some (.int .i64 (at_ : Int))) 1000 (by kernel_rfl) (hS _ (Below.refl _ _).drew) (fun hHeld => ?_)
 refine wpAnyL_take (i := 0) (v := ?_) rfl (by kernel_rfl) (by kernel_rfl) (by kernel_rfl) (by kernel_rfl) (fun _ _ _ h => h) (Or.inl ⟨by rfl, ?_⟩) (by assumption) ?_
 rotate_left 1
 · (intro W hSW; obtain ⟨z0, z1⟩ := hSW; go_simp; try (with_reducible rfl))
 refine wpAnyL_take (i := 1) (v := ?_) rfl (by kernel_rfl) (by kernel_rfl) (by kernel_rfl) (by kernel_rfl) (fun _ _ _ h => h) (Or.inl ⟨by rfl, ?_⟩) (by assumption) ?_
 rotate_left 1
 · (intro W hSW; obtain ⟨z0, z1⟩ := hSW; go_simp; try (with_reducible rfl))
 refine wpAnyL_take (i := 2) (v := ?_) rfl (by kernel_rfl) (by kernel_rfl) (by kernel_rfl) (by kernel_rfl) (fun _ _ _ h => h) (Or.inl ⟨by rfl, ?_⟩) (by assumption) ?_
 rotate_left 1
 · (intro W hSW; obtain ⟨z0, z1⟩ := hSW; go_simp; try (with_reducible rfl))
 refine wpAnyL_one (i := 3) (by kernel_rfl) rfl (fun K hK => ?_)
 go_simp
 refine (hnt _).mono ?_
 rintro e w1 ⟨rfl, hw1⟩
 have hB1 : Below w.heap.size w w1 := by rw [hw1]; exact (Below.refl w.heap.size w).drew.alloc (Nat.le_refl _) _
 have kh : Blk w1 w.heap.size #[.func (.func 178) #[] #[], .slice none 0 0] 256 := by rw [hw1]; exact blk_new w.drew _ _
 have HZ1 : Hid (w1.heap.size = w.heap.size + 1) := by show _ = _; rw [hw1]; simp
 clear hw1
 unfold ptr
 go_wp2_with fail
 refine hK.out _ _ (hS _ hB1) (fun _ => ?_)
 clear hK K hnt
 refine wpAnyL_take (i := 4) (v := ?_) rfl (by kernel_rfl) (by kernel_rfl) (by kernel_rfl) (by kernel_rfl) (fun _ _ _ h => h) (Or.inl ⟨by rfl, ?_⟩) (by assumption) ?_
 rotate_left 1
 · (intro W hSW; obtain ⟨z0, z1⟩ := hSW; go_simp; try (with_reducible rfl))
 refine wpAnyL_one (i := 5) (by kernel_rfl) rfl (fun K hK => ?_)
 go_simp
 refine hK.out _ _ (hS _ (hB1.alloc hB1.size _)) (fun _ => ?_)
 clear hK K
 refine wpAnyL_take (i := 6) (v := ?_) rfl (by kernel_rfl) (by kernel_rfl) (by kernel_rfl) (by kernel_rfl) (fun _ _ _ h => h) (Or.inl ⟨by rfl, ?_⟩) (by assumption) ?_
 rotate_left 1
 · (intro W hSW; obtain ⟨z0, z1⟩ := hSW; go_simp; try (with_reducible rfl))
 refine wpAnyL_done (by kernel_rfl) ?_
 have kh2 := blk_alloc kh (.cells #[.int .i64 tt, .int .i64 (at_ : Int), .pointer (some ⟨w.heap.size, 0, none⟩)] 194)
 have ko := blk_new w1 #[.int .i64 tt, .int .i64 (at_ : Int), .pointer (some ⟨w.heap.size, 0, none⟩)] 194
 have bF := hB1.alloc hB1.size (.cells #[.int .i64 tt, .int .i64 (at_ : Int), .pointer (some ⟨w.heap.size, 0, none⟩)] 194)
 have HX := Nm.hide (And.intro kh2 (And.intro ko bF))
 clear kh2 ko bF hS kh hB1 kr ka
 go_wp2
 go_ret
 exact ⟨⟨w1.heap.size, 0, none⟩, rfl, grown_of_below HX.out.2.2, w.heap.size, w1.heap.size, rfl, Nat.le_refl _, by have := HZ1.out; omega, by have := HZ1.out; omega, HX.out.1, HX.out.2.1⟩
set_option maxRecDepth 100000 in
set_option maxHeartbeats 1600000 in
theorem lay3_any (nb rb : Nat) (b0 : Bool) (da : ByteArray) (r0 r1 r2 r3 : Value) (w : World) (kn : Blk w nb #[.bool b0] 4) (kr : Blk w rb #[r0, r1, r2, r3, .string da] 90) (hs : da.size ≤ 1000000000) :
 Calls Tryz.prog 181 #[ptr nb, ptr rb] w fun e w' => ∃ ux : ByteArray, e = .returned (.string ux) ∧ w.grownBy w' (some nb) ∧ ux = da ∧ Blk w' nb #[.bool true] 4 := by
 have hcl := fun W => clone_any da W hs
 have hne : nb ≠ rb := by
  intro e
  subst e
  rw [Blk, kn] at kr
  simp only [Option.some.injEq, Obj.cells.injEq] at kr
  exact absurd kr.2.1 (by decide)
 have rn := fun i => blk_cell kn i
 have fn := fun i => blk_frozen kn i
 have kn2 := blk_set kn 0 (.bool true)
 have kr2 := blk_far (v := .bool true) (i := 0) kr (Ne.symm hne)
 have c2 := fun i => blk_cell kr2 i
 have hg : w.grownBy (w.setCell ⟨nb, 0, none⟩ (.bool true)) (some nb) := ⟨rfl, rfl, rfl, by simp, fun k _ hk => heap_setCell_other w ⟨nb, 0, none⟩ k _ (fun e => hk (by rw [e]))⟩
 unfold ptr
 go_enter Tryz.func181, Tryz.ntmps181
 go_wp2_with fail
 refine (hcl _).mono ?_
 rintro e w1 ⟨rfl, b1⟩
 have kn3 := blk_below kn2 b1
 have HX := Nm.hide (And.intro (hgr_below hg b1) kn3)
 clear hg kn3 kn2 kr2 c2 b1
 go_wp2
 go_ret
 exact ⟨da, rfl, HX.out.1, rfl, HX.out.2⟩
end Go.Proofs.YtdcbhohlglncnaaGreat
/- strings.Compare by its contract. -/
namespace Go.Proofs.YtdcbhohlglncnaaGreat
open Go.RowKit
theorem ord_cmp : ∀ (a b : List UInt8), Go.Lib.compareBytes a b = Nm.ordL a b := by
 intro a
 induction a with
 | nil =>
   intro b
   cases b with
   | nil => rfl
   | cons y b => rfl
 | cons x a ih =>
   intro b
   cases b with
   | nil => rfl
   | cons y b =>
     rw [Go.Lib.compareBytes]
     by_cases h : x = y
     · subst h
       rw [if_neg (by simp), if_neg (by simp), Nm.ordL_same, ih]
     · rw [Nm.ordL_ne a b h]
       have hn : x.toNat ≠ y.toNat := fun e => h (UInt8.toNat_inj.1 e)
       by_cases hl : x < y
       · have hl' : (x.toNat : Int) < (y.toNat : Int) := by have := UInt8.lt_iff_toNat_lt.1 hl; omega
         rw [if_pos hl, Nm.cmpI_lt hl']
       · have hl' : (y.toNat : Int) < (x.toNat : Int) := by
          have : ¬ x.toNat < y.toNat := fun e => hl (UInt8.lt_iff_toNat_lt.2 e)
          omega
         have hl2 : y < x := UInt8.lt_iff_toNat_lt.2 (by omega)
         rw [if_neg hl, if_pos hl2, Nm.cmpI_gt hl']
theorem cmpstring_run (a b : ByteArray) (w : World) : (callFunc 220 #[.string a, .string b]).run Tryz.prog w = .ok (.value (.int .i64 (Nm.ordL a.data.toList b.data.toList))) w := by
 have h := run_callFunc_extern (P := Tryz.prog) (f := 220) (fn := Tryz.f220) (e := Extern.BytealgCompare.compare) Tryz.func220 (by kernel_rfl) (by kernel_rfl) (by kernel_rfl) (by kernel_rfl) #[.string a, .string b] w
 rw [h, Go.Lib.run_compareString, ord_cmp]
 rfl
set_option maxRecDepth 100000 in
set_option maxHeartbeats 400000 in
theorem compare_any' (a b : ByteArray) (w : World) :
 Calls Tryz.prog 178 #[.string a, .string b] w fun e w' => e = .returned (.int .i64 (Nm.ordL a.data.toList b.data.toList)) ∧ w' = w := by
 have hx := cmpstring_run a b
 generalize Nm.ordL a.data.toList b.data.toList = r at *
 go_enter Tryz.func178, Tryz.ntmps178
 go_wp2_with (go_at_call 204; go_in)
 go_ret
 exact ⟨rfl, rfl⟩
end Go.Proofs.YtdcbhohlglncnaaGreat
/- impl.foldByte by its contract. -/
namespace Go.Proofs.YtdcbhohlglncnaaGreat
open Go.RowKit
set_option maxRecDepth 100000 in
set_option maxHeartbeats 400000 in
theorem foldByte_any (c : UInt8) (w : World) :
 Calls Tryz.prog 197 #[.int .u8 c.toNat] w fun e w' => e = .returned (.int .u8 (Nm.low c).toNat) ∧ w' = w := by
 have hcl : (c.toNat : Int) < 256 := by have := c.toNat_lt; omega
 by_cases hup : 65 ≤ c.toNat ∧ c.toNat ≤ 90
 · have HL := Nm.hide (Nm.low_up hup)
   have d1 : decide ((65 : Int) ≤ (c.toNat : Int)) = true := by simp; omega
   have d2 : decide ((c.toNat : Int) ≤ 90) = true := by simp; omega
   have hb1 : (c.toNat : Int) ≤ 90 := by omega
   clear hup
   go_enter Tryz.func197, Tryz.ntmps197
   go_wp2
   go_ret
   rw [HL.out]
   exact ⟨rfl, rfl⟩
 · have HL := Nm.hide (Nm.low_id hup)
   by_cases hlo : 65 ≤ c.toNat
   · have d1 : decide ((65 : Int) ≤ (c.toNat : Int)) = true := by simp; omega
     have d2 : decide ((c.toNat : Int) ≤ 90) = false := by simp; omega
     clear hup
     go_enter Tryz.func197, Tryz.ntmps197
     go_wp2
     go_ret
     rw [HL.out]
     exact ⟨rfl, rfl⟩
   · have d1 : decide ((65 : Int) ≤ (c.toNat : Int)) = false := by simp; omega
     clear hup
     go_enter Tryz.func197, Tryz.ntmps197
     go_wp2
     go_ret
     rw [HL.out]
     exact ⟨rfl, rfl⟩
end Go.Proofs.YtdcbhohlglncnaaGreat
/- impl.compareFolded, (labelList).compare by their contracts. -/
namespace Go.Proofs.YtdcbhohlglncnaaGreat
open Go.RowKit
set_option maxRecDepth 100000 in
set_option maxHeartbeats 400000 in
theorem cmpByte_any (a b : UInt8) (w : World) :
 Calls Tryz.prog 196 #[.int .u8 a.toNat, .int .u8 b.toNat] w fun e w' => e = .returned (.int .i64 (Nm.cmpI a.toNat b.toNat)) ∧ w' = w := by
 have ha : ((a.toNat : Int) != (a.toNat : Int)) = false := by simp
 have hb : ((b.toNat : Int) != (b.toNat : Int)) = false := by simp
 by_cases h1 : (a.toNat : Int) < (b.toNat : Int)
 · have HC := Nm.hide (Nm.cmpI_lt h1)
   have d1 : decide ((a.toNat : Int) < (b.toNat : Int)) = true := by simpa using h1
   go_enter Tryz.func196, Tryz.ntmps196
   go_wp2
   go_ret
   rw [HC.out]
   exact ⟨rfl, rfl⟩
 · have d1 : decide ((a.toNat : Int) < (b.toNat : Int)) = false := by simpa using h1
   by_cases h2 : (b.toNat : Int) < (a.toNat : Int)
   · have HC := Nm.hide (Nm.cmpI_gt h2)
     have d2 : decide ((b.toNat : Int) < (a.toNat : Int)) = true := by simpa using h2
     go_enter Tryz.func196, Tryz.ntmps196
     go_wp2
     go_ret
     rw [HC.out]
     exact ⟨rfl, rfl⟩
   · have HC := Nm.hide (Nm.cmpI_eq (show (a.toNat : Int) = (b.toNat : Int) by omega))
     have d2 : decide ((b.toNat : Int) < (a.toNat : Int)) = false := by simpa using h2
     go_enter Tryz.func196, Tryz.ntmps196
     go_wp2
     go_ret
     rw [HC.out]
     exact ⟨rfl, rfl⟩
set_option maxRecDepth 100000 in
set_option maxHeartbeats 400000 in
theorem cmpInt_any (a b : Int) (w : World) :
 Calls Tryz.prog 167 #[.int .i64 a, .int .i64 b] w fun e w' => e = .returned (.int .i64 (Nm.cmpI a b)) ∧ w' = w := by
 have ha : (a != a) = false := by simp
 have hb : (b != b) = false := by simp
 by_cases h1 : a < b
 · have HC := Nm.hide (Nm.cmpI_lt h1)
   go_enter Tryz.func167, Tryz.ntmps167
   go_wp2
   go_ret
   rw [HC.out]
   exact ⟨rfl, rfl⟩
 · by_cases h2 : b < a
   · have HC := Nm.hide (Nm.cmpI_gt h2)
     go_enter Tryz.func167, Tryz.ntmps167
     go_wp2
     go_ret
     rw [HC.out]
     exact ⟨rfl, rfl⟩
   · have HC := Nm.hide (Nm.cmpI_eq (show a = b by omega))
     go_enter Tryz.func167, Tryz.ntmps167
     go_wp2
     go_ret
     rw [HC.out]
     exact ⟨rfl, rfl⟩
set_option maxRecDepth 100000 in
set_option maxHeartbeats 800000 in
theorem compareFolded_any (a b : ByteArray) (w : World) (ha : a.size ≤ 1000000000) :
 Calls Tryz.prog 166 #[.string a, .string b] w fun e w' => e = .returned (.int .i64 (Nm.ordS a b)) ∧ ∃ m, w' = w.drewN m := by
 go_enter Tryz.func166, Tryz.ntmps166
 go_wp2
 go_loopw [5] (fun i wr => ∃ k : Nat, k ≤ a.size ∧ k ≤ b.size ∧ i = .int .i64 k ∧ Hid ((Nm.smallL a.data.toList).take k = (Nm.smallL b.data.toList).take k) ∧ ∃ m, Hid (wr = w.drewN m))
  (fun i _ => a.size - (intOf i).toNat)
 case atStart => exact ⟨0, Nat.zero_le _, Nat.zero_le _, rfl, by show _ = _; simp, 0, rfl⟩
 case round =>
  obtain ⟨k, hka, hkb, rfl, HT, m, HW⟩ := hrel
  by_cases h1 : k < a.size ∧ k < b.size
  · obtain ⟨h1, h2⟩ := h1
    have d1 : decide ((k : Int) < (a.size : Int)) = true := by simp; omega
    have d2 : decide ((k : Int) < (b.size : Int)) = true := by simp; omega
    have i1 : (k : Int) < (a.size : Int) := by omega
    have i2 : (k : Int) < (b.size : Int) := by omega
    by_cases he : Nm.low a[k] = Nm.low b[k]
    · have HN : Hid ((Nm.smallL a.data.toList).take (k + 1) = (Nm.smallL b.data.toList).take (k + 1)) := Nm.take_snoc_eq HT.out (Nm.small_get h1) (Nm.small_get h2) he
      have hc : (Nm.cmpI (Nm.low a[k]).toNat (Nm.low b[k]).toNat != 0) = false := by rw [Nm.cmpI_eq (by rw [he])]; rfl
      clear he
      go_wp2
      go_quiet (first | (go_at_call 197; exact Calls.quiet_of_same (foldByte_any _ _)) | (go_at_call 196; exact Calls.quiet_of_same (cmpByte_any _ _ _)))
      go_wp2
      go_roundw
      case rel => exact ⟨k + 1, by omega, by omega, by go_num, HN, _, by show _ = _; rw [HW.out, World.drewN_drewN]⟩
      case measure => simp [intOf]; omega
    · have HO : Hid (Nm.ordS a b = Nm.cmpI (Nm.low a[k]).toNat (Nm.low b[k]).toNat) := Nm.ord_at k _ _ _ _ HT.out (Nm.small_get h1) (Nm.small_get h2) he
      have hc : (Nm.cmpI (Nm.low a[k]).toNat (Nm.low b[k]).toNat != 0) = true := by
       rw [bne_iff_ne]
       exact Nm.cmpI_ne (fun e => he (UInt8.toNat_inj.1 (by omega)))
      clear he
      go_wp2
      go_quiet (first | (go_at_call 197; exact Calls.quiet_of_same (foldByte_any _ _)) | (go_at_call 196; exact Calls.quiet_of_same (cmpByte_any _ _ _)))
      go_wp2
      go_ret
      rw [HO.out]
      exact ⟨rfl, _, by rw [HW.out, World.drewN_drewN]⟩
  · have HO : Hid (Nm.ordS a b = Nm.cmpI a.size b.size) := by
     show _ = _
     have := Nm.ord_end k _ _ HT.out (by rw [Nm.smallL_length]; omega) (by rw [Nm.smallL_length]; omega) (by rw [Nm.smallL_length, Nm.smallL_length]; omega)
     rw [Nm.smallL_length, Nm.smallL_length] at this
     exact this
    by_cases h2 : k < a.size
    · have g2 : b.size ≤ k := by omega
      have d2 : decide (k < b.size) = false := by simp; omega
      clear h1
      go_wp2_with fail
      refine (cmpInt_any _ _ _).mono ?_
      rintro e w3 ⟨rfl, rfl⟩
      go_wp2
      go_ret
      rw [HO.out]
      exact ⟨rfl, _, HW.out⟩
    · have g2 : a.size ≤ k := by omega
      have d2 : decide (k < a.size) = false := by simp; omega
      clear h1
      go_wp2_with fail
      refine (cmpInt_any _ _ _).mono ?_
      rintro e w3 ⟨rfl, rfl⟩
      go_wp2
      go_ret
      rw [HO.out]
      exact ⟨rfl, _, HW.out⟩
end Go.Proofs.YtdcbhohlglncnaaGreat
