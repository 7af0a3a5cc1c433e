import Derived.Test.YtddabafaejahbaaGreatDoorJEsc
import Derived.Deep.RegionHeld
import Derived.Test.YtddabafaejahbaaGreatDoorRows
import Derived.Maps.Own
import Derived.Test.YtddabafaejahbaaGreatDoorJMath
/- The maker of times by its contract, with its reader. -/
namespace Go.Proofs.YtddabafaejahbaaGreatDoor
open Go.RowKit
set_option linter.unusedVariables false
theorem kept_allR {w w1 : World} {g j : Nat} {u : Value} (h : w.cell? ⟨g, j, none⟩ = some u) (hb : Below w.heap.size w w1) : w1.cell? ⟨g, j, none⟩ = some u ∧ w1.frozen? ⟨g, j, none⟩ = w.frozen? ⟨g, j, none⟩ := by
 have hl := World.block_lt_of_cell? w _ h; exact ⟨(hb.cell hl).trans h, by simp only [World.frozen?, hb.block g hl]⟩
theorem kept_fR {w w1 : World} {g j : Nat} {u : Value} (h : w.cell? ⟨g, j, none⟩ = some u) (hf : w.frozen? ⟨g, j, none⟩ = false) (hb : Below w.heap.size w w1) : w1.cell? ⟨g, j, none⟩ = some u ∧ w1.frozen? ⟨g, j, none⟩ = false :=
 ⟨(kept_allR h hb).1, (kept_allR h hb).2.trans hf⟩
set_option maxRecDepth 100000 in
set_option maxHeartbeats 2000000 in
theorem timeWordR_any (w : World) :
 Calls Tryz.prog 61 #[] w fun e w' => (∃ f, e = .returned f ∧ RFv w' 6 f) ∧ Below w.heap.size w w' := by
 have hn := fun W => numberWordR_any 4 W
 rw [show ((4 : Nat) : Int) = 4 from rfl] at hn; have hun := fun p W => unquotedR_any (.func (.func 108) #[] p) W _ _ _ rfl
 go_enter Tryz.func61, Tryz.ntmps61; go_wp2_with (go_at_call 60; refine (hn _).mono ?_; rintro e w1 ⟨⟨f, rfl, g, x, y, F, u, rfl, b, gk, hbv, hcb, hgk⟩, hb1⟩; obtain ⟨rfl, rfl, rfl⟩ := Value.func.inj hbv; obtain ⟨c0, c1, f0, f1⟩ := two_keptR hb1; have hl1 := World.block_lt_of_cell? w1 _ c0; have d0 := fun o => (old_allocR hl1 o 0).1.trans c0; have d1 := fun o => (old_allocR hl1 o 1).1.trans c1; have e0 := fun o => (old_allocR hl1 o 0).2.trans f0; have e1 := fun o => (old_allocR hl1 o 1).2.trans f1)
 have hne := cell_neR hgk c0 (by simp); have hne2 := cell_neR hcb c0 (by simp); have hgo := fun o => (old_allocR (World.block_lt_of_cell? w1 _ hgk) o 0).1.trans hgk
 have hco := fun o => (old_allocR (World.block_lt_of_cell? w1 _ hcb) o 0).1.trans hcb
 have hb : Below w.heap.size w w1 := ((Below.refl _ w).alloc (Nat.le_refl _) _).trans (hb1.mono (by simp)); have hs1 := hb.size; have hne3 : w1.heap.size ≠ w.heap.size := Nat.ne_of_gt hl1; have q0 : ∀ o, (w1.alloc o).drew.cell? ⟨w.heap.size, 0, none⟩ = some .nilFunc := d0; have q1 : ∀ o, (w1.alloc o).drew.cell? ⟨w.heap.size, 1, none⟩ = some .nilFunc := d1; have p0 : ∀ o, (w1.alloc o).drew.frozen? ⟨w.heap.size, 0, none⟩ = false := e0; have p1 : ∀ o, (w1.alloc o).drew.frozen? ⟨w.heap.size, 1, none⟩ = false := e1; have qk : ∀ o, (w1.alloc o).drew.cell? ⟨gk, 0, none⟩ = some (.int .i64 ((4 : Nat) : Int)) := hgo; have qb : ∀ o, (w1.alloc o).drew.cell? ⟨b, 0, none⟩ = some (.func (.func 104) #[] #[.pointer (some ⟨gk, 0, none⟩)]) := hco; have qn : ∀ (i : Nat) (o : Array Value) (t : Nat), (w1.alloc (.cells o t)).drew.cell? ⟨w1.heap.size, i, none⟩ = o[i]? := fun i o t => World.cell?_alloc_new w1 o t i
 have qn0 : (w1.alloc (.cells #[.func (.func 157) #[] #[.pointer (some ⟨b, 0, none⟩)], .func F #[] u] 113)).drew.cell? ⟨w1.heap.size, 0, none⟩ = some (.func (.func 157) #[] #[.pointer (some ⟨b, 0, none⟩)]) := qn 0 _ _; have qn1 : (w1.alloc (.cells #[.func (.func 157) #[] #[.pointer (some ⟨b, 0, none⟩)], .func F #[] u] 113)).drew.cell? ⟨w1.heap.size, 1, none⟩ = some (.func F #[] u) := qn 1 _ _; have hB0 : ∀ o, Below w.heap.size w (w1.alloc o).drew := fun o => (hb.alloc hs1 o).drew
 clear qn; go_region_with (go_at_call 95; refine (hun _ _).mono ?_; rintro e w2 ⟨⟨b2, rfl, hcb2⟩, hb2⟩; obtain ⟨k0, k0f⟩ := kept_fR (q0 _) (p0 _) hb2; obtain ⟨k1, k1f⟩ := kept_fR (q1 _) (p1 _) hb2; have kk := (kept_allR (qk _) hb2).1; have kb := (kept_allR (qb _) hb2).1; have kn0 := (kept_allR qn0 hb2).1; have kn1 := (kept_allR qn1 hb2).1; have hB := Nm.below_two (hB0 _) hb2; have hne4 := cell_neR hcb2 k0 (by simp))
 all_goals (
  go_wp2_with fail
  obtain ⟨s0, s1⟩ := two_setR (r := .func (.func 157) #[] #[.pointer (some ⟨b2, 0, none⟩)]) (v := .func F #[] u) k0 k1; refine bodyPost_ret (v := .agg #[.func (.func 157) #[] #[.pointer (some ⟨b2, 0, none⟩)], .func F #[] u]) ?_ rfl ⟨⟨_, rfl, _, _, _, _, _, rfl, ⟨b2, _, b, gk, rfl, (set_farR hne4).trans hcb2, (set_farR hne3).trans kn0, (set_farR hne2).trans kb, (set_farR hne).trans kk⟩⟩, (hB.setCell (Nat.le_refl _) _).setCell (Nat.le_refl _) _⟩
  simp [results, Tryz.results61, go_sem, Result.andThen, s0, s1])
end Go.Proofs.YtddabafaejahbaaGreatDoor
/- A region in whatever order, by an invariant over what has come up. -/
namespace Go.Proofs.YtddabafaejahbaaGreatDoor
open Go
section
variable {P : Program} {ops : Array Oper} {Q : Exit → Act → World → Prop} {md : Region.Mode}
theorem count_set {l : List Bool} {i : Nat} (h : i < l.length) (hf : l[i] = false) : (l.set i true).count false + 1 = l.count false := by
 rw [List.count_set h, hf]; have : 0 < l.count false := List.count_pos_iff.2 (by rw [← hf]; exact List.getElem_mem h); simp
 omega
/-- Every edge leads back. -/
def edgesBack (ops : Array Oper) : Bool := (List.range ops.size).all fun i => match ops[i]? with
 | some o => o.after.all fun e => decide (e.on < i)
 | none => true
theorem edges_back (h : edgesBack ops = true) {i : Nat} {o : Oper} (ho : ops[i]? = some o) {e : _} (he : e ∈ o.after) : e.on < i := by
 have hi : i < ops.size := by
  rcases Nat.lt_or_ge i ops.size with h' | h'
  · exact h'
  · rw [Array.getElem?_eq_none h'] at ho; cases ho
 have h1 := List.all_eq_true.1 h i (List.mem_range.2 hi); rw [ho] at h1; simp only at h1
 have h2 := Array.all_eq_true'.1 h1 e he; simpa using h2
/-- Where nothing may come up all have come up. -/
theorem all_listed (hb : edgesBack ops = true) {listed : Array Bool} (hs : listed.size = ops.size) (hr : Region.ready md ops listed = []) : ∀ i, i < ops.size → listed.getD i true = true := by
 intro i
 induction i using Nat.strongRecOn with
 | ind i ih =>
   intro hi
   cases hl : listed.getD i true with
   | true => rfl
   | false =>
     exfalso
     obtain ⟨o, ho⟩ : ∃ o, ops[i]? = some o := ⟨_, Array.getElem?_eq_getElem hi⟩
     have : i ∈ Region.ready md ops listed := by
      refine mem_ready.2 ⟨hl, o, ho, fun e he _ => ?_⟩; have hlt := edges_back hb ho he; have h1 := ih e.on hlt (by omega); rw [Array.getD_eq_getD_getElem?] at h1 ⊢; rw [Array.getElem?_eq_getElem (by omega)] at h1 ⊢; simpa using h1
     rw [hr] at this; cases this
theorem wpAny_inv (Inv : Array Bool → Act → World → Prop)
 (hstep : ∀ listed a w i o, listed.size = ops.size → ops[i]? = some o → listed.getD i true = false → (∀ e ∈ o.after, Region.binds md e = true → listed.getD e.on false = true) → Inv listed a w → wpOp P ops Q i (fun a' w' => Inv (listed.setIfInBounds i true) a' w') a w)
 (hend : ∀ listed a w, listed.size = ops.size → Region.ready md ops listed = [] → Inv listed a w → Q .normal a w) :
 ∀ (fuel : Nat) (listed : Array Bool) (a : Act) (w : World), listed.size = ops.size → listed.toList.count false ≤ fuel → Inv listed a w → wpAny P md ops Q fuel listed a w := by
 intro fuel
 induction fuel with
 | zero =>
   intro listed a w hs hc hI
   have hr : Region.ready md ops listed = [] := by
    apply List.eq_nil_iff_forall_not_mem.2; intro j hj; have h1 := (mem_ready.1 hj).1; have h2 : listed.toList.count false = 0 := by omega
    have h3 := List.count_eq_zero.1 h2; apply h3; rw [Array.getD_eq_getD_getElem?] at h1
    rcases Nat.lt_or_ge j listed.size with h' | h'
    · rw [Array.getElem?_eq_getElem h'] at h1; simp only [Option.getD_some] at h1; rw [← h1]; exact Array.getElem_mem_toList h'
    · rw [Array.getElem?_eq_none h'] at h1; cases h1
   exact ⟨hr, hend _ _ _ hs hr hI⟩
 | succ fuel ih =>
   intro listed a w hs hc hI; refine ⟨fun hr => hend _ _ _ hs hr hI, fun i hi => ?_⟩; obtain ⟨hu, o, ho, hall⟩ := mem_ready.1 hi
   have hil : i < listed.size := by
    rcases Nat.lt_or_ge i listed.size with h' | h'
    · exact h'
    · rw [Array.getD_eq_getD_getElem?, Array.getElem?_eq_none h'] at hu; cases hu
   have hf : listed.toList[i]'(by simpa using hil) = false := by
    rw [Array.getD_eq_getD_getElem?, Array.getElem?_eq_getElem hil] at hu; simpa using hu
   refine wpOp_mono (fun a' w' h' => ih _ a' w' (by simpa using hs) ?_ h') (hstep listed a w i o hs ho hu hall hI); have := count_set (l := listed.toList) (i := i) (by simpa using hil) hf; rw [Array.toList_setIfInBounds]; omega
theorem wp_region_inv {id : Nat} {a : Act} {w : World} (Inv : Array Bool → Act → World → Prop) (hm : P.follows .mixedOrders = true)
 (hstart : Inv (Array.replicate ops.size false) a w.drew)
 (hstep : ∀ listed a w i o, listed.size = ops.size → ops[i]? = some o → listed.getD i true = false → (∀ e ∈ o.after, Region.binds .any e = true → listed.getD e.on false = true) → Inv listed a w → wpOp P ops Q i (fun a' w' => Inv (listed.setIfInBounds i true) a' w') a w)
 (hend : ∀ listed a w, listed.size = ops.size → Region.ready .any ops listed = [] → Inv listed a w → Q .normal a w) : (Code.region id ops true).wp P Q a w :=
 wp_region_any hm (wpAny_inv Inv hstep hend ops.size _ a _ (by simp) (by simp) hstart)
end
end Go.Proofs.YtddabafaejahbaaGreatDoor
/- A map of the call's own with integers as keys: its entries as a list. -/
namespace Go.Proofs.YtddabafaejahbaaGreatDoor
open Go Go.Maps Go.MapKept Go.ChangeMaps
/-- Block r is a map with these entries. -/
def IMap (w : World) (r : Nat) (L : List (Int × Value)) : Prop := ∃ es clock, w.heap[r]? = some (.map es clock) ∧ es.toList.map (fun e => (e.key, e.val)) = L.map (fun p => (Value.int .i64 p.1, p.2)) ∧
 (∀ p ∈ L, (Lit.int .i64 p.1).wf = true) ∧ (L.map (·.1)).Nodup
theorem imap_made (w : World) : IMap (w.alloc (.map #[] 0)) w.heap.size [] :=
 ⟨#[], 0, by show (w.heap.push _)[w.heap.size]? = _; simp, rfl, by simp, by simp⟩
section
variable {P : Program} {w : World} {r : Nat} {L : List (Int × Value)} {t k e : TypeId}
theorem imap_entry {es : Array MapEntry} (h : es.toList.map (fun e => (e.key, e.val)) = L.map (fun p => (Value.int .i64 p.1, p.2))) {x : MapEntry} (hx : x ∈ es.toList) : ∃ p ∈ L, x.key = .int .i64 p.1 ∧ x.val = p.2 := by
 have : (x.key, x.val) ∈ es.toList.map (fun e => (e.key, e.val)) := List.mem_map.2 ⟨x, hx, rfl⟩; rw [h] at this; obtain ⟨p, hp, he⟩ := List.mem_map.1 this; simp only [Prod.mk.injEq] at he; exact ⟨p, hp, he.1.symm, he.2.symm⟩
theorem IMap.lt (h : IMap w r L) : r < w.heap.size := by
 obtain ⟨es, clock, hb, _⟩ := h; obtain ⟨hlt, _⟩ := Array.getElem?_eq_some_iff.1 hb; exact hlt
theorem IMap.kept {w' : World} (h : IMap w r L) (hb : w'.heap[r]? = w.heap[r]?) : IMap w' r L := by
 obtain ⟨es, clock, h1, h2⟩ := h; exact ⟨es, clock, hb.trans h1, h2⟩
theorem grown_block (w : World) (r : Nat) (o : Obj) : w.grownBy (setBlock w r o) (some r) :=
 ⟨rfl, rfl, rfl, by simp [setBlock], fun k hk hne => by simp only [setBlock]; rw [Array.getElem?_setIfInBounds_ne (fun e => hne (by rw [e]))]⟩
theorem IMap.put (h : IMap w r L) (hk : P.underlying k = some (.int .i64)) (ht : P.underlying t = some (.map k e)) {x : Int} (hx : (Lit.int .i64 x).wf = true) (v : Value) (hn : ∀ p ∈ L, p.1 ≠ x) :
 ∃ w', (Instr.mapUpdate t (.map (some r)) (.int .i64 x) v).run P w = .ok () w' ∧ IMap w' r (L ++ [(x, v)]) ∧ w.grownBy w' (some r) := by
 have K : Keyed P k := int_keyed hk; have hkey := keyOf_int_mk hk hx; have hlt := h.lt; obtain ⟨es, clock, hb, hes, hwf, hnd⟩ := h
 rcases K.find w hkey es.toList (fun y hy => by obtain ⟨p, hp, h1, _⟩ := imap_entry hes hy; rw [h1]; exact ⟨_, keyOf_int_mk hk (hwf p hp)⟩) with ⟨h1, h2⟩ | ⟨j, e0, h1, h2, h3⟩
 · refine ⟨setBlock w r (.map (es.push ⟨.int .i64 x, v, clock⟩) (clock + 1)), ?_, ⟨es.push ⟨.int .i64 x, v, clock⟩, clock + 1, ?_, ?_, ?_, ?_⟩, grown_block _ _ _⟩
   · simp [Instr.mapUpdate, run_underlying ht, MapKept.run_getObj_map hb, K.check w false hkey, h1, MapKept.run_setObj_map _ hb, Result.andThen, setBlock]
   · simp [setBlock, hlt]
   · rw [Array.toList_push, List.map_append, hes, List.map_append]; rfl
   · intro p hp
     rcases List.mem_append.1 hp with hp | hp
     · exact hwf p hp
     · simp at hp; subst hp; exact hx
   · rw [List.map_append, List.nodup_append]; refine ⟨hnd, by simp, ?_⟩; intro a ha b hb2; simp at hb2; subst hb2; obtain ⟨p, hp, rfl⟩ := List.mem_map.1 ha; exact hn p hp
 · exfalso
   obtain ⟨p, hp, h4, _⟩ := imap_entry hes (List.mem_of_getElem? h2); rw [h3] at h4; simp at h4; exact hn p hp h4.symm
theorem IMap.get (h : IMap w r L) (hk : P.underlying k = some (.int .i64)) (ht : P.underlying t = some (.map k e)) {z : Value} (hz : (zeroValue e).run P w = .ok z w) {x : Int} (hx : (Lit.int .i64 x).wf = true) :
 ((∀ p ∈ L, p.1 ≠ x) ∧ (Instr.lookup t (.map (some r)) (.int .i64 x) true).run P w = .ok (.tuple #[z, .bool false]) w) ∨
 ∃ v, (x, v) ∈ L ∧ (Instr.lookup t (.map (some r)) (.int .i64 x) true).run P w = .ok (.tuple #[v, .bool true]) w := by
 have K : Keyed P k := int_keyed hk; have hkey := keyOf_int_mk hk hx; obtain ⟨es, clock, hb, hes, hwf, hnd⟩ := h
 rcases K.find w hkey es.toList (fun y hy => by obtain ⟨p, hp, h1, _⟩ := imap_entry hes hy; rw [h1]; exact ⟨_, keyOf_int_mk hk (hwf p hp)⟩) with ⟨h1, h2⟩ | ⟨j, e0, h1, h2, h3⟩
 · left; refine ⟨?_, by simp [Instr.lookup, run_underlying ht, MapKept.run_getObj_map hb, K.check w _ hkey, h1, hz, Result.andThen]⟩; intro p hp hpx; have : (Value.int .i64 p.1, p.2) ∈ L.map (fun p => (Value.int .i64 p.1, p.2)) := List.mem_map.2 ⟨p, hp, rfl⟩; rw [← hes] at this; obtain ⟨y, hy, hye⟩ := List.mem_map.1 this; simp only [Prod.mk.injEq] at hye; exact h2 y hy (by rw [hye.1, hpx])
 · right; obtain ⟨p, hp, h4, h5⟩ := imap_entry hes (List.mem_of_getElem? h2); rw [h3] at h4; simp at h4; refine ⟨p.2, by rw [h4]; exact hp, ?_⟩; rw [← h5]; simp [Instr.lookup, run_underlying ht, MapKept.run_getObj_map hb, K.check w _ hkey, h1, Result.andThen]
end
end Go.Proofs.YtddabafaejahbaaGreatDoor
/- The forms of data as text, with their readers: what holds of their values, kept as memory grows. -/
namespace Go.Proofs.YtddabafaejahbaaGreatDoor
open Go.RowKit
set_option linter.unusedVariables false
theorem KeptR.trans {w w1 w2 : World} (h : KeptR w w1) (h2 : KeptR w1 w2) : KeptR w w2 := fun a v hv => h2 a v (h a v hv)
theorem keptR_map {w w' : World} {r : Nat} {L : List (Int × Value)} (h : IMap w r L) (hg : w.grownBy w' (some r)) : KeptR w w' := by
 intro a v hv; have hlt := World.block_lt_of_cell? w _ hv
 by_cases e : a.block = r
 · obtain ⟨es, clock, hb, _⟩ := h; rw [← e] at hb; simp [World.cell?, hb] at hv
 · rw [World.cell?_of_block (hg.block a.block hlt (by simpa using e))]; exact hv
/-- The forms lie there: two function values each, the first a reader of the kind. -/
def RForms (w : World) (gf : Nat) (ks : List Nat) : Prop := ∀ (i K : Nat), ks[i]? = some K → ∃ f x y F u, w.cell? ⟨gf, i * 2, none⟩ = some (.func f x y) ∧ w.cell? ⟨gf, i * 2 + 1, none⟩ = some (.func F #[] u) ∧ RVal w K (.func f x y)
theorem RForms.kept {w w' : World} {g : Nat} {ks : List Nat} (h : RForms w g ks) (hk : KeptR w w') : RForms w' g ks := by
 intro i K hi; obtain ⟨f, x, y, F, u, h1, h2, h3⟩ := h i K hi; exact ⟨f, x, y, F, u, hk _ _ h1, hk _ _ h2, h3.kept hk⟩
/-- A slice of forms. -/
def SLr (w : World) (ks : List Nat) (v : Value) : Prop := ∃ g, v = .slice (some ⟨g, 0, none⟩) ks.length ks.length ∧ RForms w g ks
/-- The form of a type's data: just these words; one text or more; a name and types. -/
def TFr (w : World) : List Nat ⊕ Bool → Value → Prop
 | .inl ks, v => ∃ gc F y gf cap, v = .agg #[.func (.func 110) #[] #[.pointer (some ⟨gc, 0, none⟩)], .func F #[] y] ∧ w.cell? ⟨gc, 0, none⟩ = some (.slice (some ⟨gf, 0, none⟩) ks.length cap) ∧ RForms w gf ks
 | .inr false, v => ∃ gc F y, v = .agg #[.func (.func 121) #[] #[.pointer (some ⟨gc, 0, none⟩)], .func F #[] y] ∧ w.cell? ⟨gc, 0, none⟩ = some (.func (.func 99) #[] #[]) ∧ ∃ g q, w.cell? ⟨gc, 1, none⟩ = some (.func g #[] q)
 | .inr true, v => ∃ gc b F y, v = .agg #[.func (.func 129) #[] #[.pointer (some ⟨gc, 0, none⟩)], .func F #[] y] ∧ w.cell? ⟨gc, 0, none⟩ = some (.func (.func 157) #[] #[.pointer (some ⟨b, 0, none⟩)]) ∧ w.cell? ⟨b, 0, none⟩ = some (.func (.func 96) #[] #[])
theorem TFr.kept {w w' : World} {T : List Nat ⊕ Bool} {v : Value} (h : TFr w T v) (hk : KeptR w w') : TFr w' T v := by
 match T, h with
 | .inl ks, ⟨gc, F, y, gf, cap, h1, h2, h3⟩ => exact ⟨gc, F, y, gf, cap, h1, hk _ _ h2, h3.kept hk⟩
 | .inr false, ⟨gc, F, y, h1, h2, g, q, h3⟩ => exact ⟨gc, F, y, h1, hk _ _ h2, g, q, hk _ _ h3⟩
 | .inr true, ⟨gc, b, F, y, h1, h2, h3⟩ => exact ⟨gc, b, F, y, h1, hk _ _ h2, hk _ _ h3⟩
/-- What a slot of textForms holds: a form of a word, a slice of such, a form of a type's data. -/
abbrev SkR := Nat ⊕ (List Nat ⊕ (List Nat ⊕ Bool))
def SVr (w : World) : SkR → Value → Prop
 | .inl K, v => RFv w K v
 | .inr (.inl ks), v => SLr w ks v
 | .inr (.inr T), v => TFr w T v
theorem SVr.kept {w w' : World} {s : SkR} {v : Value} (h : SVr w s v) (hk : KeptR w w') : SVr w' s v := by
 match s, h with
 | .inl K, h => exact RFv.kept h hk
 | .inr (.inl ks), ⟨g, h1, h2⟩ => exact ⟨g, h1, h2.kept hk⟩
 | .inr (.inr T), h => exact TFr.kept h hk
/-- The forms by type. -/
def formTabR : List (Int × (List Nat ⊕ Bool)) := [(1, .inl [4]), (28, .inl [5]), (2, .inl [0]), (5, .inl [0]), (12, .inl [0]), (39, .inl [0]), (15, .inl [9, 0]), (6, .inl [0, 0, 11, 6, 6, 6, 6]), (33, .inl [9, 9, 9, 0]), (16, .inr false), (13, .inl [1, 1]), (35, .inl [9, 9, 1, 1, 1, 0]), (257, .inl [8, 2, 3]), (47, .inr true)]
/-- A word: its text, whether it is quoted. -/
abbrev Wrd := ByteArray × Bool
/-- A row of words. -/
def wdV (x : Wrd) : List Value := [.string x.1, .bool x.2]
def wdVs (ws : List Wrd) : List Value := ws.flatMap wdV
theorem wdVs_app (a b : List Wrd) : wdVs (a ++ b) = wdVs a ++ wdVs b := by simp [wdVs]
theorem wdVs_len (ws : List Wrd) : (wdVs ws).length = ws.length * 2 := by
 induction ws with
 | nil => rfl
 | cons x ws ih => simp only [wdVs, List.flatMap_cons, List.length_append, List.length_cons] at *; rw [ih]; simp [wdV]; omega
theorem wdVs_at (ws : List Wrd) (j i : Nat) (x : Wrd) (h : ws[j]? = some x) (hi : i < 2) : (wdVs ws)[j * 2 + i]? = (wdV x)[i]? := by
 induction ws generalizing j with
 | nil => simp at h
 | cons y ws ih =>
   cases j with
   | zero =>
     simp at h; subst h; simp only [wdVs, List.flatMap_cons, Nat.zero_mul, Nat.zero_add]
     rw [List.getElem?_append_left (by simpa [wdV] using hi)]
   | succ j =>
     simp at h; simp only [wdVs, List.flatMap_cons]; rw [List.getElem?_append_right (by simp [wdV]; omega), show (j + 1) * 2 + i - (wdV y).length = j * 2 + i by simp [wdV]; omega]; exact ih j h
end Go.Proofs.YtddabafaejahbaaGreatDoor
