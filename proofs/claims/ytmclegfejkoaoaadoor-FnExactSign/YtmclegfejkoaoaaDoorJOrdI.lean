import Derived.Deep.RegionHeld
import Derived.Test.YtmclegfejkoaoaaDoorRows
import Derived.Test.YtmclegfejkoaoaaDoorITk
import Derived.Test.YtmclegfejkoaoaaDoorIWt
/- A region in whatever order, by an invariant over what has come up. -/
namespace Go.Proofs.YtmclegfejkoaoaaDoor
open Go

section
variable {P : Program} {ops : Array Oper} {Q : Exit → Act → World → Prop} {md : Region.Mode}

theorem count_set {l : List Bool} {i : Nat} (h : i < l.length) (hf : l[i] = false) : (l.set i true).count false + 1 = l.count false := by
  rw [List.count_set h, hf]
  have : 0 < l.count false := List.count_pos_iff.2 (by rw [← hf]; exact List.getElem_mem h)
  simp
  omega

/-- Every edge leads back. -/
def edgesBack (ops : Array Oper) : Bool := (List.range ops.size).all fun i => match ops[i]? with
  | some o => o.after.all fun e => decide (e.on < i)
  | none => true

theorem edges_back (h : edgesBack ops = true) {i : Nat} {o : Oper} (ho : ops[i]? = some o) {e : _} (he : e ∈ o.after) : e.on < i := by
  have hi : i < ops.size := by
    rcases Nat.lt_or_ge i ops.size with h' | h'
    · exact h'
    · rw [Array.getElem?_eq_none h'] at ho; cases ho
  have h1 := List.all_eq_true.1 h i (List.mem_range.2 hi)
  rw [ho] at h1
  simp only at h1
  have h2 := Array.all_eq_true'.1 h1 e he
  simpa using h2

/-- Where nothing may come up all have come up. -/
theorem all_listed (hb : edgesBack ops = true) {listed : Array Bool} (hs : listed.size = ops.size) (hr : Region.ready md ops listed = []) : ∀ i, i < ops.size → listed.getD i true = true := by
  intro i
  induction i using Nat.strongRecOn with
  | ind i ih =>
    intro hi
    cases hl : listed.getD i true with
    | true => rfl
    | false =>
      exfalso
      obtain ⟨o, ho⟩ : ∃ o, ops[i]? = some o := ⟨_, Array.getElem?_eq_getElem hi⟩
      have : i ∈ Region.ready md ops listed := by
        refine mem_ready.2 ⟨hl, o, ho, fun e he _ => ?_⟩
        have hlt := edges_back hb ho he
        have h1 := ih e.on hlt (by omega)
        rw [Array.getD_eq_getD_getElem?] at h1 ⊢
        rw [Array.getElem?_eq_getElem (by omega)] at h1 ⊢
        simpa using h1
      rw [hr] at this
      cases this

theorem wpAny_inv (Inv : Array Bool → Act → World → Prop)
    (hstep : ∀ listed a w i o, listed.size = ops.size → ops[i]? = some o → listed.getD i true = false → (∀ e ∈ o.after, Region.binds md e = true → listed.getD e.on false = true) → Inv listed a w → wpOp P ops Q i (fun a' w' => Inv (listed.setIfInBounds i true) a' w') a w)
    (hend : ∀ listed a w, listed.size = ops.size → Region.ready md ops listed = [] → Inv listed a w → Q .normal a w) :
    ∀ (fuel : Nat) (listed : Array Bool) (a : Act) (w : World), listed.size = ops.size → listed.toList.count false ≤ fuel → Inv listed a w → wpAny P md ops Q fuel listed a w := by
  intro fuel
  induction fuel with
  | zero =>
    intro listed a w hs hc hI
    have hr : Region.ready md ops listed = [] := by
      apply List.eq_nil_iff_forall_not_mem.2
      intro j hj
      have h1 := (mem_ready.1 hj).1
      have h2 : listed.toList.count false = 0 := by omega
      have h3 := List.count_eq_zero.1 h2
      apply h3
      rw [Array.getD_eq_getD_getElem?] at h1
      rcases Nat.lt_or_ge j listed.size with h' | h'
      · rw [Array.getElem?_eq_getElem h'] at h1
        simp only [Option.getD_some] at h1
        rw [← h1]
        exact Array.getElem_mem_toList h'
      · rw [Array.getElem?_eq_none h'] at h1; cases h1
    exact ⟨hr, hend _ _ _ hs hr hI⟩
  | succ fuel ih =>
    intro listed a w hs hc hI
    refine ⟨fun hr => hend _ _ _ hs hr hI, fun i hi => ?_⟩
    obtain ⟨hu, o, ho, hall⟩ := mem_ready.1 hi
    have hil : i < listed.size := by
      rcases Nat.lt_or_ge i listed.size with h' | h'
      · exact h'
      · rw [Array.getD_eq_getD_getElem?, Array.getElem?_eq_none h'] at hu; cases hu
    have hf : listed.toList[i]'(by simpa using hil) = false := by
      rw [Array.getD_eq_getD_getElem?, Array.getElem?_eq_getElem hil] at hu
      simpa using hu
    refine wpOp_mono (fun a' w' h' => ih _ a' w' (by simpa using hs) ?_ h') (hstep listed a w i o hs ho hu hall hI)
    have := count_set (l := listed.toList) (i := i) (by simpa using hil) hf
    rw [Array.toList_setIfInBounds]
    omega

theorem wp_region_inv {id : Nat} {a : Act} {w : World} (Inv : Array Bool → Act → World → Prop) (hm : P.follows .mixedOrders = true)
    (hstart : Inv (Array.replicate ops.size false) a w.drew)
    (hstep : ∀ listed a w i o, listed.size = ops.size → ops[i]? = some o → listed.getD i true = false → (∀ e ∈ o.after, Region.binds .any e = true → listed.getD e.on false = true) → Inv listed a w → wpOp P ops Q i (fun a' w' => Inv (listed.setIfInBounds i true) a' w') a w)
    (hend : ∀ listed a w, listed.size = ops.size → Region.ready .any ops listed = [] → Inv listed a w → Q .normal a w) : (Code.region id ops true).wp P Q a w :=
  wp_region_any hm (wpAny_inv Inv hstep hend ops.size _ a _ (by simp) (by simp) hstart)
end
end Go.Proofs.YtmclegfejkoaoaaDoor
/- A drawn region: two copies of a block that is mixed. -/
namespace Go.Proofs.YtmclegfejkoaoaaDoor
open Go.RowKit
set_option linter.unusedVariables false

theorem wp_load_blk {P : Program} {o : Oper} {a : Act} {w : World} {K : Act → World → Prop} {Q : Exit → Act → World → Prop} (p : Operand) (t : TypeId) (ho : o.op = .load t p) (b : Nat) (cs : Array Value) (d : TypeDesc) (hk : Blk w b cs t)
    (hp : a.eval p = .pointer (some ⟨b, 0, none⟩)) (hu : P.underlying t = some d) (hd : (match d with | .struct _ | .array _ _ => true | _ => false) = true) (hi : (P.info? t).map (·.size) = some cs.size)
    (h : K (a.put o.dst (.agg cs)) w) : Oper.wp P o a w K Q := by
  unfold Oper.wp execOp
  simp only [ho, hp, Instr.loadAt, Instr.sureAddr, Sem.run_bind, Sem.run_pure, Result.andThen_ok, run_loadVar_row w b t t cs (0, 0) d hk hu hd hi]
  exact h

theorem set_at {listed : Array Bool} {i : Nat} (hi : i < listed.size) : (fun j => (listed.setIfInBounds i true).getD j false) = fun j => (j == i || listed.getD j false) := by
  funext j
  rw [Array.getD_eq_getD_getElem?, Array.getD_eq_getD_getElem?, Array.getElem?_setIfInBounds]
  by_cases h : i = j
  · subst h; simp [hi]
  · rw [if_neg h]
    have : (j == i) = false := by simp; omega
    simp [this]

/-- what is held while the region goes on; L: what has come up -/
structure HI (w0 : World) (kb x y Z : Array Value) (L : Nat → Bool) (s7 s8 s21 s22 s23 s24 : Value) (w : World) : Prop where
  be : Below w0.heap.size w0 w
  p21 : L 0 = true → s21 = .agg kb
  p22 : L 1 = true → s22 = .agg x
  p23 : L 2 = true → s23 = .agg kb
  p24 : L 3 = true → s24 = .agg y
  p7 : L 4 = true → ∃ g, s7 = .pointer (some ⟨g, 0, none⟩) ∧ w0.heap.size ≤ g ∧ Blk w g (if L 6 = true then x else Z) 64
  p8 : L 5 = true → ∃ g, s8 = .pointer (some ⟨g, 0, none⟩) ∧ w0.heap.size ≤ g ∧ Blk w g (if L 7 = true then y else Z) 64
  p78 : L 4 = true → L 5 = true → s7 ≠ s8
  q6 : L 6 = true → L 4 = true
  q7 : L 7 = true → L 5 = true

section
variable {w0 w w' : World} {kb x y Z : Array Value} {L : Nat → Bool} {s7 s8 s21 s22 s23 s24 : Value}

theorem HI.on (h : HI w0 kb x y Z L s7 s8 s21 s22 s23 s24 w) (hb : Below w.heap.size w w') : HI w0 kb x y Z L s7 s8 s21 s22 s23 s24 w' where
  be := Nm.below_two h.be hb
  p21 := h.p21
  p22 := h.p22
  p23 := h.p23
  p24 := h.p24
  p7 := fun hl => by obtain ⟨g, e, hg, hk⟩ := h.p7 hl; exact ⟨g, e, hg, blk_below hk hb⟩
  p8 := fun hl => by obtain ⟨g, e, hg, hk⟩ := h.p8 hl; exact ⟨g, e, hg, blk_below hk hb⟩
  p78 := h.p78
  q6 := h.q6
  q7 := h.q7

theorem HI.at0 (h : HI w0 kb x y Z L s7 s8 s21 s22 s23 s24 w) : HI w0 kb x y Z (fun j => j == 0 || L j) s7 s8 (.agg kb) s22 s23 s24 w :=
  ⟨h.be, fun _ => rfl, fun hl => h.p22 (by simpa using hl), fun hl => h.p23 (by simpa using hl), fun hl => h.p24 (by simpa using hl), fun hl => by simpa using h.p7 (by simpa using hl), fun hl => by simpa using h.p8 (by simpa using hl), fun h1 h2 => h.p78 (by simpa using h1) (by simpa using h2), fun hl => by simpa using h.q6 (by simpa using hl), fun hl => by simpa using h.q7 (by simpa using hl)⟩
theorem HI.at1 (h : HI w0 kb x y Z L s7 s8 s21 s22 s23 s24 w) : HI w0 kb x y Z (fun j => j == 1 || L j) s7 s8 s21 (.agg x) s23 s24 w :=
  ⟨h.be, fun hl => h.p21 (by simpa using hl), fun _ => rfl, fun hl => h.p23 (by simpa using hl), fun hl => h.p24 (by simpa using hl), fun hl => by simpa using h.p7 (by simpa using hl), fun hl => by simpa using h.p8 (by simpa using hl), fun h1 h2 => h.p78 (by simpa using h1) (by simpa using h2), fun hl => by simpa using h.q6 (by simpa using hl), fun hl => by simpa using h.q7 (by simpa using hl)⟩
theorem HI.at2 (h : HI w0 kb x y Z L s7 s8 s21 s22 s23 s24 w) : HI w0 kb x y Z (fun j => j == 2 || L j) s7 s8 s21 s22 (.agg kb) s24 w :=
  ⟨h.be, fun hl => h.p21 (by simpa using hl), fun hl => h.p22 (by simpa using hl), fun _ => rfl, fun hl => h.p24 (by simpa using hl), fun hl => by simpa using h.p7 (by simpa using hl), fun hl => by simpa using h.p8 (by simpa using hl), fun h1 h2 => h.p78 (by simpa using h1) (by simpa using h2), fun hl => by simpa using h.q6 (by simpa using hl), fun hl => by simpa using h.q7 (by simpa using hl)⟩
theorem HI.at3 (h : HI w0 kb x y Z L s7 s8 s21 s22 s23 s24 w) : HI w0 kb x y Z (fun j => j == 3 || L j) s7 s8 s21 s22 s23 (.agg y) w :=
  ⟨h.be, fun hl => h.p21 (by simpa using hl), fun hl => h.p22 (by simpa using hl), fun hl => h.p23 (by simpa using hl), fun _ => rfl, fun hl => by simpa using h.p7 (by simpa using hl), fun hl => by simpa using h.p8 (by simpa using hl), fun h1 h2 => h.p78 (by simpa using h1) (by simpa using h2), fun hl => by simpa using h.q6 (by simpa using hl), fun hl => by simpa using h.q7 (by simpa using hl)⟩
theorem HI.at4 (h : HI w0 kb x y Z L s7 s8 s21 s22 s23 s24 w) (h4 : L 4 = false) : HI w0 kb x y Z (fun j => j == 4 || L j) (.pointer (some ⟨w.heap.size, 0, none⟩)) s8 s21 s22 s23 s24 (w.alloc (.cells Z 64)) := by
  have h' := h.on ((Below.refl w.heap.size w).alloc (Nat.le_refl _) (.cells Z 64))
  refine ⟨h'.be, fun hl => h.p21 (by simpa using hl), fun hl => h.p22 (by simpa using hl), fun hl => h.p23 (by simpa using hl), fun hl => h.p24 (by simpa using hl), fun _ => ⟨_, rfl, h.be.size, ?_⟩, fun hl => by simpa using h'.p8 (by simpa using hl), fun _ h2 e => ?_, fun hl => by simp, fun hl => by simpa using h.q7 (by simpa using hl)⟩
  · have h6 : L 6 = false := by
      cases hh : L 6 with
      | false => rfl
      | true => rw [h.q6 hh] at h4; cases h4
    simpa [h6] using blk_new w Z 64
  · obtain ⟨g, e8, hg, hk⟩ := h.p8 (by simpa using h2)
    have := blk_lt hk
    rw [e8] at e
    simp only [Value.pointer.injEq, Option.some.injEq, Addr.mk.injEq] at e
    omega
theorem HI.at5 (h : HI w0 kb x y Z L s7 s8 s21 s22 s23 s24 w) (h5 : L 5 = false) : HI w0 kb x y Z (fun j => j == 5 || L j) s7 (.pointer (some ⟨w.heap.size, 0, none⟩)) s21 s22 s23 s24 (w.alloc (.cells Z 64)) := by
  have h' := h.on ((Below.refl w.heap.size w).alloc (Nat.le_refl _) (.cells Z 64))
  refine ⟨h'.be, fun hl => h.p21 (by simpa using hl), fun hl => h.p22 (by simpa using hl), fun hl => h.p23 (by simpa using hl), fun hl => h.p24 (by simpa using hl), fun hl => by simpa using h'.p7 (by simpa using hl), fun _ => ⟨_, rfl, h.be.size, ?_⟩, fun h1 _ e => ?_, fun hl => by simpa using h.q6 (by simpa using hl), fun hl => by simp⟩
  · have h7 : L 7 = false := by
      cases hh : L 7 with
      | false => rfl
      | true => rw [h.q7 hh] at h5; cases h5
    simpa [h7] using blk_new w Z 64
  · obtain ⟨g, e8, hg, hk⟩ := h.p7 (by simpa using h1)
    have := blk_lt hk
    rw [e8] at e
    simp only [Value.pointer.injEq, Option.some.injEq, Addr.mk.injEq] at e
    omega
theorem HI.at6 {g : Nat} (h : HI w0 kb x y Z L (.pointer (some ⟨g, 0, none⟩)) s8 s21 s22 s23 s24 w) (h4 : L 4 = true) (hg : w0.heap.size ≤ g) (hk : Blk w' g x 64) (ho : Only g w w') : HI w0 kb x y Z (fun j => j == 6 || L j) (.pointer (some ⟨g, 0, none⟩)) s8 s21 s22 s23 s24 w' := by
  refine ⟨ho.below h.be hg h.be.size, fun hl => h.p21 (by simpa using hl), fun hl => h.p22 (by simpa using hl), fun hl => h.p23 (by simpa using hl), fun hl => h.p24 (by simpa using hl), fun _ => ⟨g, rfl, hg, by simpa using hk⟩, fun hl => ?_, fun h1 h2 => h.p78 h4 (by simpa using h2), fun _ => by simpa using h4, fun hl => by simpa using h.q7 (by simpa using hl)⟩
  obtain ⟨g', e, hg', hk'⟩ := h.p8 (by simpa using hl)
  refine ⟨g', e, hg', ?_⟩
  have hne : g' ≠ g := by
    intro e2
    subst e2
    exact h.p78 h4 (by simpa using hl) e.symm
  simpa using ho.blk hk' hne
theorem HI.at7 {g : Nat} (h : HI w0 kb x y Z L s7 (.pointer (some ⟨g, 0, none⟩)) s21 s22 s23 s24 w) (h5 : L 5 = true) (hg : w0.heap.size ≤ g) (hk : Blk w' g y 64) (ho : Only g w w') : HI w0 kb x y Z (fun j => j == 7 || L j) s7 (.pointer (some ⟨g, 0, none⟩)) s21 s22 s23 s24 w' := by
  refine ⟨ho.below h.be hg h.be.size, fun hl => h.p21 (by simpa using hl), fun hl => h.p22 (by simpa using hl), fun hl => h.p23 (by simpa using hl), fun hl => h.p24 (by simpa using hl), fun hl => ?_, fun _ => ⟨g, rfl, hg, by simpa using hk⟩, fun h1 h2 => h.p78 (by simpa using h1) h5, fun hl => by simpa using h.q6 (by simpa using hl), fun _ => by simpa using h5⟩
  obtain ⟨g', e, hg', hk'⟩ := h.p7 (by simpa using hl)
  refine ⟨g', e, hg', ?_⟩
  have hne : g' ≠ g := by
    intro e2
    subst e2
    exact h.p78 (by simpa using hl) h5 e
  simpa using ho.blk hk' hne
end
end Go.Proofs.YtmclegfejkoaoaaDoor
