import Derived.Test.YtechmpdfbpehiaaGreatDoorJHexI
import Derived.Deep.RegionWith
import Derived.Deep.RegionHeld
import Derived.Test.YtechmpdfbpehiaaGreatDoorRows
/- The makers of forms by their contracts: times, many words. -/
namespace Go.Proofs.YtechmpdfbpehiaaGreatDoor
open Go.RowKit

set_option maxRecDepth 100000 in
set_option maxHeartbeats 1000000 in
theorem manyWords_any (w : World) (f : Fn) (x y : Array Value) (v : Value) (g : Fn) (p q : Array Value) (hv : v = .func g p q) :
    Calls Tryz.prog 78 #[.agg #[.func f x y, v]] w fun e w' => (∃ g x y gc, e = .returned (.agg #[.func g x y, .func (.func 114) #[] #[.pointer (some ⟨gc, 0, none⟩)]]) ∧ w'.cell? ⟨gc, 1, none⟩ = some v) ∧ Below w.heap.size w w' := by
  subst hv
  go_enter Tryz.func78, Tryz.ntmps78
  go_wp2
  refine bodyPost_ret (v := .agg #[.func (.func 112) #[] #[.pointer (some ⟨w.heap.size, 0, none⟩)], .func (.func 114) #[] #[.pointer (some ⟨w.heap.size, 0, none⟩)]]) ?_ rfl ⟨⟨_, _, _, _, rfl, by simp⟩, (((Below.refl _ w).alloc (Nat.le_refl _) _).alloc (by simp) _)⟩
  simp [results, Tryz.results78, go_sem, Result.andThen]

theorem old_alloc {w1 : World} {g : Nat} (hlt : g < w1.heap.size) (o : Obj) (j : Nat) : (w1.alloc o).cell? ⟨g, j, none⟩ = w1.cell? ⟨g, j, none⟩ ∧ (w1.alloc o).frozen? ⟨g, j, none⟩ = w1.frozen? ⟨g, j, none⟩ := by
  have hb : Below w1.heap.size w1 (w1.alloc o) := (Below.refl _ w1).alloc (Nat.le_refl _) o
  exact ⟨hb.cell hlt, by simp only [World.frozen?, hb.block g hlt]⟩
set_option maxRecDepth 100000 in
set_option maxHeartbeats 1000000 in
theorem nameAndTypes_any (w : World) :
    Calls Tryz.prog 81 #[] w fun e w' => (∃ g x y gc, e = .returned (.agg #[.func g x y, .func (.func 122) #[] #[.pointer (some ⟨gc, 0, none⟩)]]) ∧ w'.cell? ⟨gc, 1, none⟩ = some (.func (.func 91) #[] #[])) ∧ Below w.heap.size w w' := by
  have hn := fun W => nameWord_any W
  go_enter Tryz.func81, Tryz.ntmps81
  go_wp2_with (go_at_call 68; refine (hn _).mono ?_; rintro e w1 ⟨⟨f, rfl, g, x, y, v, rfl, rfl⟩, hb1⟩; obtain ⟨c0, c1, f0, f1⟩ := two_kept hb1; have hl1 := World.block_lt_of_cell? w1 _ c0; have d0 := fun o => (old_alloc hl1 o 0).1.trans c0; have d1 := fun o => (old_alloc hl1 o 1).1.trans c1; have e0 := fun o => (old_alloc hl1 o 0).2.trans f0; have e1 := fun o => (old_alloc hl1 o 1).2.trans f1)
  have hb : Below w.heap.size w w1 := ((Below.refl _ w).alloc (Nat.le_refl _) _).trans (hb1.mono (by simp))
  have hs1 := hb.size
  obtain ⟨s0, s1⟩ := two_set (w1 := w1) (r := .func (.func 120) #[] #[.pointer (some ⟨w1.heap.size, 0, none⟩)]) (v := .func (.func 122) #[] #[.pointer (some ⟨w1.heap.size, 0, none⟩)]) c0 c1
  have hl2 := World.block_lt_of_cell? _ _ s0
  have t0 := fun o => (old_alloc hl2 o 0).1.trans s0
  have t1 := fun o => (old_alloc hl2 o 1).1.trans s1
  refine bodyPost_ret (v := .agg #[.func (.func 120) #[] #[.pointer (some ⟨w1.heap.size, 0, none⟩)], .func (.func 122) #[] #[.pointer (some ⟨w1.heap.size, 0, none⟩)]]) ?_ rfl ⟨⟨_, _, _, _, rfl, ?_⟩, ((hb.setCell (Nat.le_refl _) _).setCell (Nat.le_refl _) _).alloc (by simpa using hs1) _⟩
  · simp [results, Tryz.results81, go_sem, Result.andThen, t0, t1]
  · have e := World.cell?_alloc_new ((w1.setCell ⟨w.heap.size, 0, none⟩ (.func (.func 120) #[] #[.pointer (some ⟨w1.heap.size, 0, none⟩)])).setCell ⟨w.heap.size, 1, none⟩ (.func (.func 122) #[] #[.pointer (some ⟨w1.heap.size, 0, none⟩)])) #[.func g x y, .func (.func 91) #[] #[]] 104 1
    simpa using e
end Go.Proofs.YtechmpdfbpehiaaGreatDoor
/- The maker of times by its contract. -/
namespace Go.Proofs.YtechmpdfbpehiaaGreatDoor
open Go.RowKit

theorem kept_all {w w1 : World} {g j : Nat} {u : Value} (h : w.cell? ⟨g, j, none⟩ = some u) (hb : Below w.heap.size w w1) : w1.cell? ⟨g, j, none⟩ = some u ∧ w1.frozen? ⟨g, j, none⟩ = w.frozen? ⟨g, j, none⟩ := by
  have hl := World.block_lt_of_cell? w _ h
  exact ⟨(hb.cell hl).trans h, by simp only [World.frozen?, hb.block g hl]⟩

theorem kept_f {w w1 : World} {g j : Nat} {u : Value} (h : w.cell? ⟨g, j, none⟩ = some u) (hf : w.frozen? ⟨g, j, none⟩ = false) (hb : Below w.heap.size w w1) : w1.cell? ⟨g, j, none⟩ = some u ∧ w1.frozen? ⟨g, j, none⟩ = false :=
  ⟨(kept_all h hb).1, (kept_all h hb).2.trans hf⟩

set_option maxRecDepth 100000 in
set_option maxHeartbeats 2000000 in
theorem timeWord_any (w : World) :
    Calls Tryz.prog 71 #[] w fun e w' => (∃ f, e = .returned f ∧ FVal w' 10 f) ∧ Below w.heap.size w w' := by
  have hn := fun W => numberWord_any 4 W
  rw [show ((4 : Nat) : Int) = 4 from rfl] at hn
  have hun := fun p W => unquoted_any (.func (.func 101) #[] p) W _ _ _ rfl
  go_enter Tryz.func71, Tryz.ntmps71
  go_wp2_with (go_at_call 70; refine (hn _).mono ?_; rintro e w1 ⟨⟨f, rfl, g, x, y, v, rfl, gk, rfl, hgk⟩, hb1⟩; obtain ⟨c0, c1, f0, f1⟩ := two_kept hb1; have hl1 := World.block_lt_of_cell? w1 _ c0; have d0 := fun o => (old_alloc hl1 o 0).1.trans c0; have d1 := fun o => (old_alloc hl1 o 1).1.trans c1; have e0 := fun o => (old_alloc hl1 o 0).2.trans f0; have e1 := fun o => (old_alloc hl1 o 1).2.trans f1)
  have hne : gk ≠ w.heap.size := by
    intro e
    rw [e, c0] at hgk
    cases hgk
  have hgo := fun o => (old_alloc (World.block_lt_of_cell? w1 _ hgk) o 0).1.trans hgk
  have hb : Below w.heap.size w w1 := ((Below.refl _ w).alloc (Nat.le_refl _) _).trans (hb1.mono (by simp))
  have hs1 := hb.size
  have q0 : ∀ o, (w1.alloc o).drew.cell? ⟨w.heap.size, 0, none⟩ = some .nilFunc := d0
  have q1 : ∀ o, (w1.alloc o).drew.cell? ⟨w.heap.size, 1, none⟩ = some .nilFunc := d1
  have p0 : ∀ o, (w1.alloc o).drew.frozen? ⟨w.heap.size, 0, none⟩ = false := e0
  have p1 : ∀ o, (w1.alloc o).drew.frozen? ⟨w.heap.size, 1, none⟩ = false := e1
  have qk : ∀ o, (w1.alloc o).drew.cell? ⟨gk, 0, none⟩ = some (.int .i64 ((4 : Nat) : Int)) := hgo
  have qn : ∀ (o : Array Value) (t : Nat), (w1.alloc (.cells o t)).drew.cell? ⟨w1.heap.size, 1, none⟩ = o[1]? := fun o t => World.cell?_alloc_new w1 o t 1
  have qn := qn #[.func g x y, .func (.func 99) #[] #[.pointer (some ⟨gk, 0, none⟩)]] 104
  have qn : (w1.alloc (.cells #[.func g x y, .func (.func 99) #[] #[.pointer (some ⟨gk, 0, none⟩)]] 104)).drew.cell? ⟨w1.heap.size, 1, none⟩ = some (.func (.func 99) #[] #[.pointer (some ⟨gk, 0, none⟩)]) := qn
  have hB0 : ∀ o, Below w.heap.size w (w1.alloc o).drew := fun o => (hb.alloc hs1 o).drew
  go_region_with (go_at_call 89; refine (hun _ _).mono ?_; rintro e w2 ⟨⟨g2, x2, y2, rfl⟩, hb2⟩; obtain ⟨k0, k0f⟩ := kept_f (q0 _) (p0 _) hb2; obtain ⟨k1, k1f⟩ := kept_f (q1 _) (p1 _) hb2; have kk := (kept_all (qk _) hb2).1; have kn := (kept_all qn hb2).1; have hB := Nm.below_two (hB0 _) hb2)
  all_goals (
    go_wp2_with fail
    obtain ⟨s0, s1⟩ := two_set (r := .func g2 x2 y2) (v := .func (.func 99) #[] #[.pointer (some ⟨gk, 0, none⟩)]) k0 k1
    refine bodyPost_ret (v := .agg #[.func g2 x2 y2, .func (.func 99) #[] #[.pointer (some ⟨gk, 0, none⟩)]]) ?_ rfl ⟨⟨_, rfl, _, _, _, _, rfl, ⟨_, rfl, (set_far hne).trans kk⟩⟩, (hB.setCell (Nat.le_refl _) _).setCell (Nat.le_refl _) _⟩
    simp [results, Tryz.results71, go_sem, Result.andThen, s0, s1])
end Go.Proofs.YtechmpdfbpehiaaGreatDoor
/- A region in whatever order, by an invariant over what has come up. -/
namespace Go.Proofs.YtechmpdfbpehiaaGreatDoor
open Go

section
variable {P : Program} {ops : Array Oper} {Q : Exit → Act → World → Prop} {md : Region.Mode}

theorem count_set {l : List Bool} {i : Nat} (h : i < l.length) (hf : l[i] = false) : (l.set i true).count false + 1 = l.count false := by
  rw [List.count_set h, hf]
  have : 0 < l.count false := List.count_pos_iff.2 (by rw [← hf]; exact List.getElem_mem h)
  simp
  omega

/-- Every edge leads back. -/
def edgesBack (ops : Array Oper) : Bool := (List.range ops.size).all fun i => match ops[i]? with
  | some o => o.after.all fun e => decide (e.on < i)
  | none => true

theorem edges_back (h : edgesBack ops = true) {i : Nat} {o : Oper} (ho : ops[i]? = some o) {e : _} (he : e ∈ o.after) : e.on < i := by
  have hi : i < ops.size := by
    rcases Nat.lt_or_ge i ops.size with h' | h'
    · exact h'
    · rw [Array.getElem?_eq_none h'] at ho; cases ho
  have h1 := List.all_eq_true.1 h i (List.mem_range.2 hi)
  rw [ho] at h1
  simp only at h1
  have h2 := Array.all_eq_true'.1 h1 e he
  simpa using h2

/-- Where nothing may come up all have come up. -/
theorem all_listed (hb : edgesBack ops = true) {listed : Array Bool} (hs : listed.size = ops.size) (hr : Region.ready md ops listed = []) : ∀ i, i < ops.size → listed.getD i true = true := by
  intro i
  induction i using Nat.strongRecOn with
  | ind i ih =>
    intro hi
    cases hl : listed.getD i true with
    | true => rfl
    | false =>
      exfalso
      obtain ⟨o, ho⟩ : ∃ o, ops[i]? = some o := ⟨_, Array.getElem?_eq_getElem hi⟩
      have : i ∈ Region.ready md ops listed := by
        refine mem_ready.2 ⟨hl, o, ho, fun e he _ => ?_⟩
        have hlt := edges_back hb ho he
        have h1 := ih e.on hlt (by omega)
        rw [Array.getD_eq_getD_getElem?] at h1 ⊢
        rw [Array.getElem?_eq_getElem (by omega)] at h1 ⊢
        simpa using h1
      rw [hr] at this
      cases this

theorem wpAny_inv (Inv : Array Bool → Act → World → Prop)
    (hstep : ∀ listed a w i o, listed.size = ops.size → ops[i]? = some o → listed.getD i true = false → (∀ e ∈ o.after, Region.binds md e = true → listed.getD e.on false = true) → Inv listed a w → wpOp P ops Q i (fun a' w' => Inv (listed.setIfInBounds i true) a' w') a w)
    (hend : ∀ listed a w, listed.size = ops.size → Region.ready md ops listed = [] → Inv listed a w → Q .normal a w) :
    ∀ (fuel : Nat) (listed : Array Bool) (a : Act) (w : World), listed.size = ops.size → listed.toList.count false ≤ fuel → Inv listed a w → wpAny P md ops Q fuel listed a w := by
  intro fuel
  induction fuel with
  | zero =>
    intro listed a w hs hc hI
    have hr : Region.ready md ops listed = [] := by
      apply List.eq_nil_iff_forall_not_mem.2
      intro j hj
      have h1 := (mem_ready.1 hj).1
      have h2 : listed.toList.count false = 0 := by omega
      have h3 := List.count_eq_zero.1 h2
      apply h3
      rw [Array.getD_eq_getD_getElem?] at h1
      rcases Nat.lt_or_ge j listed.size with h' | h'
      · rw [Array.getElem?_eq_getElem h'] at h1
        simp only [Option.getD_some] at h1
        rw [← h1]
        exact Array.getElem_mem_toList h'
      · rw [Array.getElem?_eq_none h'] at h1; cases h1
    exact ⟨hr, hend _ _ _ hs hr hI⟩
  | succ fuel ih =>
    intro listed a w hs hc hI
    refine ⟨fun hr => hend _ _ _ hs hr hI, fun i hi => ?_⟩
    obtain ⟨hu, o, ho, hall⟩ := mem_ready.1 hi
    have hil : i < listed.size := by
      rcases Nat.lt_or_ge i listed.size with h' | h'
      · exact h'
      · rw [Array.getD_eq_getD_getElem?, Array.getElem?_eq_none h'] at hu; cases hu
    have hf : listed.toList[i]'(by simpa using hil) = false := by
      rw [Array.getD_eq_getD_getElem?, Array.getElem?_eq_getElem hil] at hu
      simpa using hu
    refine wpOp_mono (fun a' w' h' => ih _ a' w' (by simpa using hs) ?_ h') (hstep listed a w i o hs ho hu hall hI)
    have := count_set (l := listed.toList) (i := i) (by simpa using hil) hf
    rw [Array.toList_setIfInBounds]
    omega

theorem wp_region_inv {id : Nat} {a : Act} {w : World} (Inv : Array Bool → Act → World → Prop) (hm : P.follows .mixedOrders = true)
    (hstart : Inv (Array.replicate ops.size false) a w.drew)
    (hstep : ∀ listed a w i o, listed.size = ops.size → ops[i]? = some o → listed.getD i true = false → (∀ e ∈ o.after, Region.binds .any e = true → listed.getD e.on false = true) → Inv listed a w → wpOp P ops Q i (fun a' w' => Inv (listed.setIfInBounds i true) a' w') a w)
    (hend : ∀ listed a w, listed.size = ops.size → Region.ready .any ops listed = [] → Inv listed a w → Q .normal a w) : (Code.region id ops true).wp P Q a w :=
  wp_region_any hm (wpAny_inv Inv hstep hend ops.size _ a _ (by simp) (by simp) hstart)
end
end Go.Proofs.YtechmpdfbpehiaaGreatDoor
