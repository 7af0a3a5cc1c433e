import Derived.Deep.RegionHeld
import Derived.Test.YtfficbpalibmoaaGreatDoorRows
import Derived.Test.YtfficbpalibmoaaGreatDoorJITk
import Derived.Test.YtfficbpalibmoaaGreatDoorJISu
import Derived.Test.YtfficbpalibmoaaGreatDoorJMath
import Derived.Test.YtfficbpalibmoaaGreatDoorJICc
import Derived.Deep.AppendSrc
import Derived.Deep.Upon
/- A region in whatever order, by an invariant over what has come up. -/
namespace Go.Proofs.YtfficbpalibmoaaGreatDoor
open Go

section
variable {P : Program} {ops : Array Oper} {Q : Exit → Act → World → Prop} {md : Region.Mode}

theorem count_set {l : List Bool} {i : Nat} (h : i < l.length) (hf : l[i] = false) : (l.set i true).count false + 1 = l.count false := by
  rw [List.count_set h, hf]
  have : 0 < l.count false := List.count_pos_iff.2 (by rw [← hf]; exact List.getElem_mem h)
  simp
  omega

/-- Every edge leads back. -/
def edgesBack (ops : Array Oper) : Bool := (List.range ops.size).all fun i => match ops[i]? with
  | some o => o.after.all fun e => decide (e.on < i)
  | none => true

theorem edges_back (h : edgesBack ops = true) {i : Nat} {o : Oper} (ho : ops[i]? = some o) {e : _} (he : e ∈ o.after) : e.on < i := by
  have hi : i < ops.size := by
    rcases Nat.lt_or_ge i ops.size with h' | h'
    · exact h'
    · rw [Array.getElem?_eq_none h'] at ho; cases ho
  have h1 := List.all_eq_true.1 h i (List.mem_range.2 hi)
  rw [ho] at h1
  simp only at h1
  have h2 := Array.all_eq_true'.1 h1 e he
  simpa using h2

/-- Where nothing may come up all have come up. -/
theorem all_listed (hb : edgesBack ops = true) {listed : Array Bool} (hs : listed.size = ops.size) (hr : Region.ready md ops listed = []) : ∀ i, i < ops.size → listed.getD i true = true := by
  intro i
  induction i using Nat.strongRecOn with
  | ind i ih =>
    intro hi
    cases hl : listed.getD i true with
    | true => rfl
    | false =>
      exfalso
      obtain ⟨o, ho⟩ : ∃ o, ops[i]? = some o := ⟨_, Array.getElem?_eq_getElem hi⟩
      have : i ∈ Region.ready md ops listed := by
        refine mem_ready.2 ⟨hl, o, ho, fun e he _ => ?_⟩
        have hlt := edges_back hb ho he
        have h1 := ih e.on hlt (by omega)
        rw [Array.getD_eq_getD_getElem?] at h1 ⊢
        rw [Array.getElem?_eq_getElem (by omega)] at h1 ⊢
        simpa using h1
      rw [hr] at this
      cases this

theorem wpAny_inv (Inv : Array Bool → Act → World → Prop)
    (hstep : ∀ listed a w i o, listed.size = ops.size → ops[i]? = some o → listed.getD i true = false → (∀ e ∈ o.after, Region.binds md e = true → listed.getD e.on false = true) → Inv listed a w → wpOp P ops Q i (fun a' w' => Inv (listed.setIfInBounds i true) a' w') a w)
    (hend : ∀ listed a w, listed.size = ops.size → Region.ready md ops listed = [] → Inv listed a w → Q .normal a w) :
    ∀ (fuel : Nat) (listed : Array Bool) (a : Act) (w : World), listed.size = ops.size → listed.toList.count false ≤ fuel → Inv listed a w → wpAny P md ops Q fuel listed a w := by
  intro fuel
  induction fuel with
  | zero =>
    intro listed a w hs hc hI
    have hr : Region.ready md ops listed = [] := by
      apply List.eq_nil_iff_forall_not_mem.2
      intro j hj
      have h1 := (mem_ready.1 hj).1
      have h2 : listed.toList.count false = 0 := by omega
      have h3 := List.count_eq_zero.1 h2
      apply h3
      rw [Array.getD_eq_getD_getElem?] at h1
      rcases Nat.lt_or_ge j listed.size with h' | h'
      · rw [Array.getElem?_eq_getElem h'] at h1
        simp only [Option.getD_some] at h1
        rw [← h1]
        exact Array.getElem_mem_toList h'
      · rw [Array.getElem?_eq_none h'] at h1; cases h1
    exact ⟨hr, hend _ _ _ hs hr hI⟩
  | succ fuel ih =>
    intro listed a w hs hc hI
    refine ⟨fun hr => hend _ _ _ hs hr hI, fun i hi => ?_⟩
    obtain ⟨hu, o, ho, hall⟩ := mem_ready.1 hi
    have hil : i < listed.size := by
      rcases Nat.lt_or_ge i listed.size with h' | h'
      · exact h'
      · rw [Array.getD_eq_getD_getElem?, Array.getElem?_eq_none h'] at hu; cases hu
    have hf : listed.toList[i]'(by simpa using hil) = false := by
      rw [Array.getD_eq_getD_getElem?, Array.getElem?_eq_getElem hil] at hu
      simpa using hu
    refine wpOp_mono (fun a' w' h' => ih _ a' w' (by simpa using hs) ?_ h') (hstep listed a w i o hs ho hu hall hI)
    have := count_set (l := listed.toList) (i := i) (by simpa using hil) hf
    rw [Array.toList_setIfInBounds]
    omega

theorem wp_region_inv {id : Nat} {a : Act} {w : World} (Inv : Array Bool → Act → World → Prop) (hm : P.follows .mixedOrders = true)
    (hstart : Inv (Array.replicate ops.size false) a w.drew)
    (hstep : ∀ listed a w i o, listed.size = ops.size → ops[i]? = some o → listed.getD i true = false → (∀ e ∈ o.after, Region.binds .any e = true → listed.getD e.on false = true) → Inv listed a w → wpOp P ops Q i (fun a' w' => Inv (listed.setIfInBounds i true) a' w') a w)
    (hend : ∀ listed a w, listed.size = ops.size → Region.ready .any ops listed = [] → Inv listed a w → Q .normal a w) : (Code.region id ops true).wp P Q a w :=
  wp_region_any hm (wpAny_inv Inv hstep hend ops.size _ a _ (by simp) (by simp) hstart)
end
end Go.Proofs.YtfficbpalibmoaaGreatDoor
/- A drawn region: two copies of a block that is mixed. -/
namespace Go.Proofs.YtfficbpalibmoaaGreatDoor
open Go.RowKit
set_option linter.unusedVariables false

theorem wp_load_blk {P : Program} {o : Oper} {a : Act} {w : World} {K : Act → World → Prop} {Q : Exit → Act → World → Prop} (p : Operand) (t : TypeId) (ho : o.op = .load t p) (b : Nat) (cs : Array Value) (d : TypeDesc) (hk : Blk w b cs t)
    (hp : a.eval p = .pointer (some ⟨b, 0, none⟩)) (hu : P.underlying t = some d) (hd : (match d with | .struct _ | .array _ _ => true | _ => false) = true) (hi : (P.info? t).map (·.size) = some cs.size)
    (h : K (a.put o.dst (.agg cs)) w) : Oper.wp P o a w K Q := by
  unfold Oper.wp execOp
  simp only [ho, hp, Instr.loadAt, Instr.sureAddr, Sem.run_bind, Sem.run_pure, Result.andThen_ok, run_loadVar_row w b t t cs (0, 0) d hk hu hd hi]
  exact h

theorem set_at {listed : Array Bool} {i : Nat} (hi : i < listed.size) : (fun j => (listed.setIfInBounds i true).getD j false) = fun j => (j == i || listed.getD j false) := by
  funext j
  rw [Array.getD_eq_getD_getElem?, Array.getD_eq_getD_getElem?, Array.getElem?_setIfInBounds]
  by_cases h : i = j
  · subst h; simp [hi]
  · rw [if_neg h]
    have : (j == i) = false := by simp; omega
    simp [this]

/-- what is held while the region goes on; L: what has come up -/
structure HI (w0 : World) (kb x y Z : Array Value) (L : Nat → Bool) (s7 s8 s21 s22 s23 s24 : Value) (w : World) : Prop where
  be : Below w0.heap.size w0 w
  p21 : L 0 = true → s21 = .agg kb
  p22 : L 1 = true → s22 = .agg x
  p23 : L 2 = true → s23 = .agg kb
  p24 : L 3 = true → s24 = .agg y
  p7 : L 4 = true → ∃ g, s7 = .pointer (some ⟨g, 0, none⟩) ∧ w0.heap.size ≤ g ∧ Blk w g (if L 6 = true then x else Z) 133
  p8 : L 5 = true → ∃ g, s8 = .pointer (some ⟨g, 0, none⟩) ∧ w0.heap.size ≤ g ∧ Blk w g (if L 7 = true then y else Z) 133
  p78 : L 4 = true → L 5 = true → s7 ≠ s8
  q6 : L 6 = true → L 4 = true
  q7 : L 7 = true → L 5 = true

section
variable {w0 w w' : World} {kb x y Z : Array Value} {L : Nat → Bool} {s7 s8 s21 s22 s23 s24 : Value}

theorem HI.on (h : HI w0 kb x y Z L s7 s8 s21 s22 s23 s24 w) (hb : Below w.heap.size w w') : HI w0 kb x y Z L s7 s8 s21 s22 s23 s24 w' where
  be := Nm.below_two h.be hb
  p21 := h.p21
  p22 := h.p22
  p23 := h.p23
  p24 := h.p24
  p7 := fun hl => by obtain ⟨g, e, hg, hk⟩ := h.p7 hl; exact ⟨g, e, hg, blk_below hk hb⟩
  p8 := fun hl => by obtain ⟨g, e, hg, hk⟩ := h.p8 hl; exact ⟨g, e, hg, blk_below hk hb⟩
  p78 := h.p78
  q6 := h.q6
  q7 := h.q7

theorem HI.at0 (h : HI w0 kb x y Z L s7 s8 s21 s22 s23 s24 w) : HI w0 kb x y Z (fun j => j == 0 || L j) s7 s8 (.agg kb) s22 s23 s24 w :=
  ⟨h.be, fun _ => rfl, fun hl => h.p22 (by simpa using hl), fun hl => h.p23 (by simpa using hl), fun hl => h.p24 (by simpa using hl), fun hl => by simpa using h.p7 (by simpa using hl), fun hl => by simpa using h.p8 (by simpa using hl), fun h1 h2 => h.p78 (by simpa using h1) (by simpa using h2), fun hl => by simpa using h.q6 (by simpa using hl), fun hl => by simpa using h.q7 (by simpa using hl)⟩
theorem HI.at1 (h : HI w0 kb x y Z L s7 s8 s21 s22 s23 s24 w) : HI w0 kb x y Z (fun j => j == 1 || L j) s7 s8 s21 (.agg x) s23 s24 w :=
  ⟨h.be, fun hl => h.p21 (by simpa using hl), fun _ => rfl, fun hl => h.p23 (by simpa using hl), fun hl => h.p24 (by simpa using hl), fun hl => by simpa using h.p7 (by simpa using hl), fun hl => by simpa using h.p8 (by simpa using hl), fun h1 h2 => h.p78 (by simpa using h1) (by simpa using h2), fun hl => by simpa using h.q6 (by simpa using hl), fun hl => by simpa using h.q7 (by simpa using hl)⟩
theorem HI.at2 (h : HI w0 kb x y Z L s7 s8 s21 s22 s23 s24 w) : HI w0 kb x y Z (fun j => j == 2 || L j) s7 s8 s21 s22 (.agg kb) s24 w :=
  ⟨h.be, fun hl => h.p21 (by simpa using hl), fun hl => h.p22 (by simpa using hl), fun _ => rfl, fun hl => h.p24 (by simpa using hl), fun hl => by simpa using h.p7 (by simpa using hl), fun hl => by simpa using h.p8 (by simpa using hl), fun h1 h2 => h.p78 (by simpa using h1) (by simpa using h2), fun hl => by simpa using h.q6 (by simpa using hl), fun hl => by simpa using h.q7 (by simpa using hl)⟩
theorem HI.at3 (h : HI w0 kb x y Z L s7 s8 s21 s22 s23 s24 w) : HI w0 kb x y Z (fun j => j == 3 || L j) s7 s8 s21 s22 s23 (.agg y) w :=
  ⟨h.be, fun hl => h.p21 (by simpa using hl), fun hl => h.p22 (by simpa using hl), fun hl => h.p23 (by simpa using hl), fun _ => rfl, fun hl => by simpa using h.p7 (by simpa using hl), fun hl => by simpa using h.p8 (by simpa using hl), fun h1 h2 => h.p78 (by simpa using h1) (by simpa using h2), fun hl => by simpa using h.q6 (by simpa using hl), fun hl => by simpa using h.q7 (by simpa using hl)⟩
theorem HI.at4 (h : HI w0 kb x y Z L s7 s8 s21 s22 s23 s24 w) (h4 : L 4 = false) : HI w0 kb x y Z (fun j => j == 4 || L j) (.pointer (some ⟨w.heap.size, 0, none⟩)) s8 s21 s22 s23 s24 (w.alloc (.cells Z 133)) := by
  have h' := h.on ((Below.refl w.heap.size w).alloc (Nat.le_refl _) (.cells Z 133))
  refine ⟨h'.be, fun hl => h.p21 (by simpa using hl), fun hl => h.p22 (by simpa using hl), fun hl => h.p23 (by simpa using hl), fun hl => h.p24 (by simpa using hl), fun _ => ⟨_, rfl, h.be.size, ?_⟩, fun hl => by simpa using h'.p8 (by simpa using hl), fun _ h2 e => ?_, fun hl => by simp, fun hl => by simpa using h.q7 (by simpa using hl)⟩
  · have h6 : L 6 = false := by
      cases hh : L 6 with
      | false => rfl
      | true => rw [h.q6 hh] at h4; cases h4
    simpa [h6] using blk_new w Z 133
  · obtain ⟨g, e8, hg, hk⟩ := h.p8 (by simpa using h2)
    have := blk_lt hk
    rw [e8] at e
    simp only [Value.pointer.injEq, Option.some.injEq, Addr.mk.injEq] at e
    omega
theorem HI.at5 (h : HI w0 kb x y Z L s7 s8 s21 s22 s23 s24 w) (h5 : L 5 = false) : HI w0 kb x y Z (fun j => j == 5 || L j) s7 (.pointer (some ⟨w.heap.size, 0, none⟩)) s21 s22 s23 s24 (w.alloc (.cells Z 133)) := by
  have h' := h.on ((Below.refl w.heap.size w).alloc (Nat.le_refl _) (.cells Z 133))
  refine ⟨h'.be, fun hl => h.p21 (by simpa using hl), fun hl => h.p22 (by simpa using hl), fun hl => h.p23 (by simpa using hl), fun hl => h.p24 (by simpa using hl), fun hl => by simpa using h'.p7 (by simpa using hl), fun _ => ⟨_, rfl, h.be.size, ?_⟩, fun h1 _ e => ?_, fun hl => by simpa using h.q6 (by simpa using hl), fun hl => by simp⟩
  · have h7 : L 7 = false := by
      cases hh : L 7 with
      | false => rfl
      | true => rw [h.q7 hh] at h5; cases h5
    simpa [h7] using blk_new w Z 133
  · obtain ⟨g, e8, hg, hk⟩ := h.p7 (by simpa using h1)
    have := blk_lt hk
    rw [e8] at e
    simp only [Value.pointer.injEq, Option.some.injEq, Addr.mk.injEq] at e
    omega
theorem HI.at6 {g : Nat} (h : HI w0 kb x y Z L (.pointer (some ⟨g, 0, none⟩)) s8 s21 s22 s23 s24 w) (h4 : L 4 = true) (hg : w0.heap.size ≤ g) (hk : Blk w' g x 133) (ho : Only g w w') : HI w0 kb x y Z (fun j => j == 6 || L j) (.pointer (some ⟨g, 0, none⟩)) s8 s21 s22 s23 s24 w' := by
  refine ⟨ho.below h.be hg h.be.size, fun hl => h.p21 (by simpa using hl), fun hl => h.p22 (by simpa using hl), fun hl => h.p23 (by simpa using hl), fun hl => h.p24 (by simpa using hl), fun _ => ⟨g, rfl, hg, by simpa using hk⟩, fun hl => ?_, fun h1 h2 => h.p78 h4 (by simpa using h2), fun _ => by simpa using h4, fun hl => by simpa using h.q7 (by simpa using hl)⟩
  obtain ⟨g', e, hg', hk'⟩ := h.p8 (by simpa using hl)
  refine ⟨g', e, hg', ?_⟩
  have hne : g' ≠ g := by
    intro e2
    subst e2
    exact h.p78 h4 (by simpa using hl) e.symm
  simpa using ho.blk hk' hne
theorem HI.at7 {g : Nat} (h : HI w0 kb x y Z L s7 (.pointer (some ⟨g, 0, none⟩)) s21 s22 s23 s24 w) (h5 : L 5 = true) (hg : w0.heap.size ≤ g) (hk : Blk w' g y 133) (ho : Only g w w') : HI w0 kb x y Z (fun j => j == 7 || L j) s7 (.pointer (some ⟨g, 0, none⟩)) s21 s22 s23 s24 w' := by
  refine ⟨ho.below h.be hg h.be.size, fun hl => h.p21 (by simpa using hl), fun hl => h.p22 (by simpa using hl), fun hl => h.p23 (by simpa using hl), fun hl => h.p24 (by simpa using hl), fun hl => ?_, fun _ => ⟨g, rfl, hg, by simpa using hk⟩, fun h1 h2 => h.p78 (by simpa using h1) h5, fun hl => by simpa using h.q6 (by simpa using hl), fun _ => by simpa using h5⟩
  obtain ⟨g', e, hg', hk'⟩ := h.p7 (by simpa using hl)
  refine ⟨g', e, hg', ?_⟩
  have hne : g' ≠ g := by
    intro e2
    subst e2
    exact h.p78 (by simpa using hl) h5 e
  simpa using ho.blk hk' hne
end
end Go.Proofs.YtfficbpalibmoaaGreatDoor
/- impl.Hmac by its contract. -/
namespace Go.Proofs.YtfficbpalibmoaaGreatDoor
open Go.RowKit
set_option linter.unusedVariables false

theorem blk_by {w : World} {g n : Nat} {l : List UInt8} {T : TypeId} (h : Blk w g (byA l) T) (hn : l.length = n) (hm : n ≤ maxLen) : BySl w (.slice (some ⟨g, 0, none⟩) n n) l := by
  subst hn
  refine ⟨by rw [Nm.bys_length, Nat.mul_one], _, _, rfl, Nat.le_refl _, hm, fun _ => ⟨g, 0, rfl, fun i x hx => ?_⟩⟩
  rw [Nat.zero_add, blk_cell h]
  simpa [byA, Nm.bys] using hx

theorem splice_rep (n : Nat) (z : Value) (cs : List Value) : splice (List.replicate n z) 0 cs = cs ++ List.replicate (n - cs.length) z := by
  simp [splice, List.drop_replicate]
theorem splice_pad {l : List UInt8} (h : l.length ≤ 64) : (splice (Array.replicate 64 (Value.int .u8 0)).toList 0 (Nm.bys l)).toArray = byA (padK l) := by
  rw [Array.toList_replicate, splice_rep, byA, padK, List.map_append, List.map_replicate, Nm.bys_length]
  rfl

def waits6 (o : Oper) (d : Nat) : Bool := o.after.any fun e => Region.binds .any e && e.on == d
theorem dep6 {o : Oper} {d : Nat} {listed : Array Bool} (h : waits6 o d = true) (hall : ∀ e ∈ o.after, Region.binds .any e = true → listed.getD e.on false = true) : listed.getD d false = true := by
  simp only [waits6, Array.any_eq_true', Bool.and_eq_true, beq_iff_eq] at h
  obtain ⟨e, he, hb, rfl⟩ := h
  exact hall e he hb
theorem none6 {n x : Nat} : ¬ (Array.replicate n false).getD x false = true := by
  rw [Array.getD_eq_getD_getElem?, Array.getElem?_replicate]
  split <;> simp
theorem un6 {listed : Array Bool} {i : Nat} (hi : i < listed.size) (h : listed.getD i true = false) : listed.getD i false = false := by
  rw [Array.getD_eq_getD_getElem?, Array.getElem?_eq_getElem hi] at h ⊢
  exact h

theorem wp_copy_blk {P : Program} {o : Oper} {a : Act} {w : World} {K : Act → World → Prop} {Q : Exit → Act → World → Prop} (d s : Operand) (dT sT : TypeId)
    (ho : o.op = .call { callee := .builtin .copy, args := #[d, s], argTypes := #[dT, sT] }) (elem : TypeId) (hu : P.underlying dT = some (.slice elem)) (hsz : (P.info? elem).map (·.size) = some 1)
    (g off dLen dCap : Nat) (ad : Addr) (sLen sCap : Nat) (hd : a.eval d = .slice (some ⟨g, off, none⟩) dLen dCap) (hs : a.eval s = .slice (some ad) sLen sCap)
    (cur : Array Value) (t : TypeId) (hg : Blk w g cur t) (cs : List Value) (hn : cs.length = Nat.min sLen dLen)
    (hsrc : ∀ j v, cs[j]? = some v → w.cell? (ad.add j) = some v) (hfit : off + cs.length ≤ cur.size) (h1 : ∀ v ∈ cs, v.oneCell' = true)
    (h : ∀ w', Blk w' g (splice cur.toList off cs).toArray t → Only g w w' → K (a.put o.dst (goInt cs.length)) w') : Oper.wp P o a w K Q := by
  have hrun := run_copy_row (P := P) w dT sT o.type elem g off dLen dCap ad sLen sCap cur t cs hu hsz hg hn hsrc hfit h1
  unfold Oper.wp
  simp [execOp, ho, resolve, invoke, builtin, hd, hs, hrun, Result.andThen]
  exact h _ (blk_setRow hg) Only.setRow

set_option maxRecDepth 100000 in
set_option maxHeartbeats 3200000 in
theorem implHmac_any (vk vb : Value) (lk lb : List UInt8) (w : World) (hk : BySl w vk lk) (hb : BySl w vb lb) (hlk : lk.length ≤ 1048576) (hlb : lb.length ≤ 2000000) (hF : ∃ t fr, w.heap[0]? = some (.cells (hvA H0) t fr)) (hK : KAt w 1) :
    Calls Tryz.prog 77 #[vk, vb] w fun e w' => e = .returned (.agg (byA (hmacL lk lb))) ∧ Below w.heap.size w w' := by
  have hz32 : ∀ W, (zeroValue 66).run Tryz.prog W = .ok (.agg (Array.replicate 32 (.int .u8 0))) W := by
    have := zero_of_info (P := Tryz.prog) (t := 66) (v := .agg (Array.replicate 32 (.int .u8 0))) (n := 32) (by kernel_rfl)
    exact this.1
  have hz64 : ∀ W, (zeroValue 133).run Tryz.prog W = .ok (.agg (Array.replicate 64 (.int .u8 0))) W := by
    have := zero_of_info (P := Tryz.prog) (t := 133) (v := .agg (Array.replicate 64 (.int .u8 0))) (n := 64) (by kernel_rfl)
    exact this.1
  have hinf64 : (Tryz.prog.info? 133).map (·.size) = some 64 := by kernel_rfl
  have hB0 := (Below.refl w.heap.size w).alloc (Nat.le_refl _) (.cells (Array.replicate 32 (.int .u8 0)) 66)
  have hB1 := hB0.alloc hB0.size (.cells (Array.replicate 64 (.int .u8 0)) 133)
  have kR := blk_alloc (blk_new w (Array.replicate 32 (.int .u8 0)) 66) (.cells (Array.replicate 64 (.int .u8 0)) 133)
  have kB := blk_new (w.alloc (.cells (Array.replicate 32 (.int .u8 0)) 66)) (Array.replicate 64 (.int .u8 0)) 133
  rw [World.size_alloc] at kB
  have hk1 := hk.below hB1
  obtain ⟨ak, ck, rfl⟩ : ∃ a c, vk = .slice a lk.length c := by obtain ⟨_, a, c, e, _⟩ := hk; exact ⟨a, c, e⟩
  obtain ⟨ab, cb, rfl⟩ : ∃ a c, vb = .slice a lb.length c := by obtain ⟨_, a, c, e, _⟩ := hb; exact ⟨a, c, e⟩
  by_cases hlong : 64 < lk.length
  · have hl1 : (64 : Int) < (lk.length : Int) := by omega
    have hs32 : (shaL lk).length = 32 := by rw [shaL]; exact outL_len _
    have hsh := implSha256_any _ _ _ hk1 (by omega) (by
      obtain ⟨t, fr, hh⟩ := hF
      exact ⟨t, fr, (hB1.block _ (Array.getElem?_eq_some_iff.1 hh).1).trans hh⟩) (hK.below hB1)
    obtain ⟨ks, eks⟩ : ∃ ks, ks = shaL lk := ⟨_, rfl⟩
    rw [← eks] at hsh hs32
    obtain ⟨kp, ekp⟩ : ∃ kp, kp = padK ks := ⟨_, rfl⟩
    have hkp : kp.length = 64 := by rw [ekp]; exact padK_len (by omega)
    have hsp : (splice (Array.replicate 64 (Value.int .u8 0)).toList 0 (Nm.bys ks)).toArray = byA kp := by rw [ekp]; exact splice_pad (by omega)
    have HH := Nm.hide (show hmacL lk lb = shaL (kp.map (· ^^^ 92) ++ shaL (kp.map (· ^^^ 54) ++ lb)) by rw [hmacL, keyL, if_pos hlong, ← eks, ← ekp])
    have hfit : 0 + (Nm.bys ks).length ≤ (Array.replicate 64 (Value.int .u8 0)).size := by rw [Nm.bys_length, Array.size_replicate]; omega
    have hn : (Nm.bys ks).length = Nat.min 32 64 := by rw [Nm.bys_length]; exact hs32
    have hgi : goInt (Nm.bys ks).length = .int .i64 32 := by rw [Nm.bys_length, hs32]; rfl
    have hsB : (byA ks).size = 32 := by rw [byA_size]; exact hs32
    have hinfS : (Tryz.prog.info? 66).map (·.size) = some (byA ks).size := by rw [hsB]; kernel_rfl
    have HsB := Nm.hide hsB
    clear ekp eks hsB hs32
    obtain ⟨p1, ep1⟩ : ∃ p1, p1 = kp.map (· ^^^ 54) := ⟨_, rfl⟩
    obtain ⟨p2, ep2⟩ : ∃ p2, p2 = kp.map (· ^^^ 92) := ⟨_, rfl⟩
    have hnew : ∀ W W' : World, Only W.heap.size (W.alloc (.cells (Array.replicate 32 (.int .u8 0)) 66)) W' → Below W.heap.size W W' := fun W W' o =>
      o.below ((Below.refl _ W).alloc (Nat.le_refl _) _) (Nat.le_refl _) (by rw [World.size_alloc]; omega)
    have HE1 := Nm.hide ep1
    have HE2 := Nm.hide ep2
    have HKp := Nm.hide hkp
    clear ep1 ep2 hkp
    go_enter Tryz.func77, Tryz.ntmps77
    go_wp2_with fail
    refine hsh.mono ?_
    rintro e w1 ⟨rfl, b1⟩
    have kB1 := blk_below kB b1
    have kR1 := blk_below kR b1
    have hBb := Nm.below_two hB1 b1
    clear hsh kB kR b1
    go_wp2_with (refine wpList_store_blk (.tmp 6) (.tmp 14) 66 rfl rfl rfl w1.heap.size _ _ (blk_new _ _ _) rfl rfl hinfS (by rw [HsB.out]; simp) (byA_one _) ?_; intro w5 k5 o5; have b5 := hnew _ _ o5; clear o5)
    have kB5 := blk_below kB1 b5
    have kR5 := blk_below kR1 b5
    have hBc := Nm.below_two hBb b5
    generalize w1.heap.size = g6 at *
    clear kB1 kR1 hBb b5
    refine wp_region_last (S := fun _ => True) (L := 2) (by kernel_rfl) trivial (fun hH => ?_)
    refine wpAnyL_take (i := 0) (v := ?_) rfl (by kernel_rfl) (by kernel_rfl) (by kernel_rfl) (by kernel_rfl) (fun _ _ _ h => h) (Or.inl ⟨by rfl, ?_⟩) (by assumption) ?_
    rotate_left 1
    · (intro w hSw; go_simp; try (with_reducible rfl))
    refine wpAnyL_take (i := 1) (v := ?_) rfl (by kernel_rfl) (by kernel_rfl) (by kernel_rfl) (by kernel_rfl) (fun _ _ _ h => h) (Or.inl ⟨by rfl, ?_⟩) (by assumption) ?_
    rotate_left 1
    · (intro w hSw; go_simp; try (with_reducible rfl))
    refine wpAnyL_end (by kernel_rfl) rfl (by kernel_rfl) (fun K hK' => ?_)
    rw [if_pos (by rfl)]
    refine wp_copy_blk (.tmp 15) (.tmp 16) 22 22 rfl 5 Tryz.underlying22 (by kernel_rfl) (w.heap.size + 1) 0 64 64 ⟨g6, 0, none⟩ 32 32 rfl rfl _ _ (blk_drew kB5) (Nm.bys ks) hn (fun j v hv => by rw [Nm.addr_add, Nat.zero_add]; exact (blk_cell (blk_drew k5) j).trans (by simpa [byA, Nm.bys] using hv)) hfit (bys_ones _) ?_
    rw [hsp, hgi]
    intro w2 k2 o2
    refine hK'.out _ _ ?_
    clear hK' K
    have kR2 := o2.blk (blk_drew kR5) (by omega)
    have hB2 := o2.below hBc.drew (by omega) hBc.size
    clear o2 kB5 kR5 hB0 hB1 hBc k5 hnew hsp hgi hn hfit hinfS hk1
    have ep1 := HE1.out
    have ep2 := HE2.out
    have hkp := HKp.out
    generalize hN : w.heap.size = N at *
    have HN := Nm.hide hN
    clear hN
    have hinfK : (Tryz.prog.info? 133).map (·.size) = some (byA kp).size := by rw [byA_size, hkp]; exact hinf64
    have hp1 : p1.length = 64 := by rw [ep1, List.length_map]; exact hkp
    have hp2 : p2.length = 64 := by rw [ep2, List.length_map]; exact hkp
    have hw1 : ∀ W, Calls Tryz.prog 90 #[.agg (byA kp), .int .u8 54] W fun e w' => e = .returned (.agg (byA p1)) ∧ Below W.heap.size W w' := by rw [ep1]; exact fun W => with_any kp hkp 54 W
    have hw2 : ∀ W, Calls Tryz.prog 90 #[.agg (byA kp), .int .u8 92] W fun e w' => e = .returned (.agg (byA p2)) ∧ Below W.heap.size W w' := by rw [ep2]; exact fun W => with_any kp hkp 92 W
    have hinf1 : (Tryz.prog.info? 133).map (·.size) = some (byA p1).size := by rw [byA_size, hp1]; exact hinf64
    have hinf2 : (Tryz.prog.info? 133).map (·.size) = some (byA p2).size := by rw [byA_size, hp2]; exact hinf64
    have hsz1 : (Array.replicate 64 (Value.int .u8 0)).size = (byA p1).size := by rw [byA_size, hp1, Array.size_replicate]
    have hsz2 : (Array.replicate 64 (Value.int .u8 0)).size = (byA p2).size := by rw [byA_size, hp2, Array.size_replicate]
    have hchain : ∀ A B : World, Below N w A → Below A.heap.size A B → Below N w B := fun A B h1 h2 => by
      rw [← HN.out] at h1 ⊢
      exact Nm.below_two h1 h2
    have hsha := fun (V : Value) (l : List UInt8) (W : World) (h : BySl W V l) (hl : l.length ≤ 3000000) (hb : Below N w W) => implSha256_any V l W h hl (by
      obtain ⟨t, fr, hh⟩ := hF
      exact ⟨t, fr, ((show Below w.heap.size w W by rw [HN.out]; exact hb).block _ (Array.getElem?_eq_some_iff.1 hh).1).trans hh⟩) (hK.below (show Below w.heap.size w W by rw [HN.out]; exact hb))
    clear hF hK
    have HH2 := HH.out
    rw [← ep1, ← ep2] at HH2
    have HH3 := Nm.hide HH2
    clear ep1 ep2 HH HH2
    have HP1 := Nm.hide hp1
    have HP2 := Nm.hide hp2
    have HS1 := Nm.hide hsz1
    have HS2 := Nm.hide hsz2
    clear hp1 hp2 hkp hsz1 hsz2
    go_wp2
    have hsz1 := HS1.out
    have hsz2 := HS2.out
    refine wp_region_inv (fun listed a W => ∃ s7 s8 s21 s22 s23 s24, a = ⟨(.slice ak lk.length ck :: .slice ab lb.length cb :: undef :: undef :: .pointer (some ⟨N, 0, none⟩) :: .pointer (some ⟨N + 1, 0, none⟩) :: (.pointer (some ⟨g6, 0, none⟩)) :: s7 :: s8 :: undef :: .slice ak lk.length ck :: .int .i64 (lk.length : Int) :: (.bool true) :: (.slice ak lk.length ck) :: (.agg (byA ks)) :: (.slice (some ⟨N + 1, 0, none⟩) 64 64) :: (.slice (some ⟨g6, 0, none⟩) 32 32) :: (.int .i64 32) :: undef :: undef :: undef :: s21 :: s22 :: s23 :: s24 :: undef :: undef :: undef :: undef :: undef :: undef :: undef :: undef :: undef :: undef :: []).toArray, []⟩ ∧ HI w2.drew (byA kp) (byA p1) (byA p2) (Array.replicate 64 (.int .u8 0)) (fun j => listed.getD j false) s7 s8 s21 s22 s23 s24 W) (by kernel_rfl) ?_ ?_ ?_
    · exact ⟨_, _, _, _, _, _, rfl, ⟨Below.refl _ _, fun h => absurd h none6, fun h => absurd h none6, fun h => absurd h none6, fun h => absurd h none6, fun h => absurd h none6, fun h => absurd h none6, fun h => absurd h none6, fun h => absurd h none6, fun h => absurd h none6⟩⟩
    · intro listed a W i o hs ho hu hall hI
      obtain ⟨s7, s8, s21, s22, s23, s24, rfl, hI⟩ := hI
      have hs8 : listed.size = 8 := hs
      have hi8 : i < 8 := (Array.getElem?_eq_some_iff.1 ho).1
      have kW : Blk W (N + 1) (byA kp) 133 := (hI.be.block _ (blk_lt k2)).trans k2
      rcases (show i = 0 ∨ i = 1 ∨ i = 2 ∨ i = 3 ∨ i = 4 ∨ i = 5 ∨ i = 6 ∨ i = 7 by omega) with rfl | rfl | rfl | rfl | rfl | rfl | rfl | rfl
      · cases ho
        refine wpOp_step rfl (fun K' hK' => ?_)
        rw [if_pos (by rfl)]
        refine wp_load_blk (.tmp 5) 133 rfl (N + 1) _ _ kW rfl Tryz.underlying133 rfl hinfK ?_
        refine hK' _ _ ⟨s7, s8, _, s22, s23, s24, rfl, ?_⟩
        rw [set_at (by omega)]
        exact hI.at0
      · cases ho
        obtain rfl := hI.p21 (dep6 (d := 0) (by kernel_rfl) hall)
        refine wpOp_step rfl (fun K' hK' => ?_)
        have HK := Nm.hide hK'
        clear hK'
        go_simp
        refine (hw1 _).mono ?_
        rintro e w3 ⟨rfl, hb3⟩
        go_wp2_with fail
        refine HK.out _ _ ⟨s7, s8, _, _, s23, s24, rfl, ?_⟩
        rw [set_at (by omega)]
        exact (hI.on hb3).at1
      · cases ho
        refine wpOp_step rfl (fun K' hK' => ?_)
        rw [if_pos (by rfl)]
        refine wp_load_blk (.tmp 5) 133 rfl (N + 1) _ _ kW rfl Tryz.underlying133 rfl hinfK ?_
        refine hK' _ _ ⟨s7, s8, s21, s22, _, s24, rfl, ?_⟩
        rw [set_at (by omega)]
        exact hI.at2
      · cases ho
        obtain rfl := hI.p23 (dep6 (d := 2) (by kernel_rfl) hall)
        refine wpOp_step rfl (fun K' hK' => ?_)
        have HK := Nm.hide hK'
        clear hK'
        go_simp
        refine (hw2 _).mono ?_
        rintro e w3 ⟨rfl, hb3⟩
        go_wp2_with fail
        refine HK.out _ _ ⟨s7, s8, s21, s22, _, _, rfl, ?_⟩
        rw [set_at (by omega)]
        exact (hI.on hb3).at3
      · cases ho
        refine wpOp_step rfl (fun K' hK' => ?_)
        go_simp
        refine hK' _ _ ⟨_, s8, s21, s22, s23, s24, rfl, ?_⟩
        rw [set_at (by omega)]
        exact hI.at4 (un6 (by omega) hu)
      · cases ho
        refine wpOp_step rfl (fun K' hK' => ?_)
        go_simp
        refine hK' _ _ ⟨s7, _, s21, s22, s23, s24, rfl, ?_⟩
        rw [set_at (by omega)]
        exact hI.at5 (un6 (by omega) hu)
      · cases ho
        have d4 := dep6 (d := 4) (by kernel_rfl) hall
        obtain rfl := hI.p22 (dep6 (d := 1) (by kernel_rfl) hall)
        obtain ⟨g, rfl, hg, hkg⟩ := hI.p7 d4
        rw [if_neg (by rw [un6 (by omega) hu]; decide)] at hkg
        refine wpOp_step rfl (fun K' hK' => ?_)
        rw [if_pos (by rfl)]
        refine wp_store_blk (.tmp 7) (.tmp 22) 133 rfl rfl g _ _ hkg rfl rfl hinf1 hsz1 (byA_one _) ?_
        intro w4 k4 o4
        refine hK' _ _ ⟨_, s8, s21, _, s23, s24, rfl, ?_⟩
        rw [set_at (by omega)]
        exact hI.at6 d4 hg k4 o4
      · cases ho
        have d5 := dep6 (d := 5) (by kernel_rfl) hall
        obtain rfl := hI.p24 (dep6 (d := 3) (by kernel_rfl) hall)
        obtain ⟨g, rfl, hg, hkg⟩ := hI.p8 d5
        rw [if_neg (by rw [un6 (by omega) hu]; decide)] at hkg
        refine wpOp_step rfl (fun K' hK' => ?_)
        rw [if_pos (by rfl)]
        refine wp_store_blk (.tmp 8) (.tmp 24) 133 rfl rfl g _ _ hkg rfl rfl hinf2 hsz2 (byA_one _) ?_
        intro w4 k4 o4
        refine hK' _ _ ⟨s7, _, s21, s22, s23, _, rfl, ?_⟩
        rw [set_at (by omega)]
        exact hI.at7 d5 hg k4 o4
    · intro listed a W hs hr hI
      obtain ⟨s7, s8, s21, s22, s23, s24, rfl, hI⟩ := hI
      have hall := all_listed (by kernel_rfl) hs hr
      have hl : ∀ i, i < 8 → listed.getD i false = true := by
        intro i hi
        have hs8 : listed.size = 8 := hs
        have h1 := hall i hi
        rw [Array.getD_eq_getD_getElem?, Array.getElem?_eq_getElem (by omega)] at h1 ⊢
        simpa using h1
      obtain ⟨g7, rfl, hg7, kg7⟩ := hI.p7 (hl 4 (by omega))
      obtain ⟨g8, rfl, hg8, kg8⟩ := hI.p8 (hl 5 (by omega))
      rw [if_pos (hl 6 (by omega))] at kg7
      rw [if_pos (hl 7 (by omega))] at kg8
      have hBW := hI.be
      obtain rfl := hI.p21 (hl 0 (by omega))
      obtain rfl := hI.p22 (hl 1 (by omega))
      obtain rfl := hI.p23 (hl 2 (by omega))
      obtain rfl := hI.p24 (hl 3 (by omega))
      clear hI hall hl hr hs
      have kRW : Blk W N (Array.replicate 32 (.int .u8 0)) 66 := (hBW.block _ (blk_lt kR2)).trans kR2
      have hBN : Below N w W := hchain _ _ hB2.drew hBW
      have hNW := blk_lt kRW
      clear hBW kR2 hB2 hg7 hg8 k2 hw1 hw2 hinf1 hinf2 hinfK hsz1 hsz2
      have hbW : BySl W (.slice ab lb.length cb) lb := hb.below (by rw [HN.out]; exact hBN)
      have hb7 : BySl W (.slice (some ⟨g7, 0, none⟩) 64 64) p1 := blk_by kg7 HP1.out (by unfold maxLen; omega)
      obtain ⟨W1, hW1⟩ : ∃ W1, W1 = W.alloc (.cells #[.slice (some ⟨g7, 0, none⟩) 64 64, .slice ab lb.length cb] 22) := ⟨_, rfl⟩
      have hBa : Below W.heap.size W W1 := by rw [hW1]; exact (Below.refl _ W).alloc (Nat.le_refl _) _
      have hc0 : W1.cell? ⟨W.heap.size, 0, none⟩ = some (.slice (some ⟨g7, 0, none⟩) 64 64) := by rw [hW1]; exact World.cell?_alloc_new W _ _ 0
      have hc1 : W1.cell? ⟨W.heap.size, 1, none⟩ = some (.slice ab lb.length cb) := by rw [hW1]; exact World.cell?_alloc_new W _ _ 1
      have hcc := concat_any _ _ p1 lb W.heap.size W1 hc0 hc1 (hb7.below hBa) (hbW.below hBa) (by rw [HP1.out]; omega) (by rw [HP1.out]; omega) (by omega)
      have hB1 := hchain _ _ hBN hBa
      have kR1 := blk_below kRW hBa
      have k81 := blk_below kg8 hBa
      clear hc0 hc1 hBa hbW hb7 kRW hBN kg8 kg7
      rw [hW1] at hcc
      clear hb
      go_wp2_with fail
      refine hcc.mono ?_
      rw [← hW1]
      rintro e w3 ⟨v3, rfl, hby3, hb3⟩
      clear hcc hW1
      have hB3 := hchain _ _ hB1 hb3
      have kR3 := blk_below kR1 hb3
      have k83 := blk_below k81 hb3
      have hsh := hsha _ _ _ hby3 (by rw [List.length_append, HP1.out]; omega) hB3
      have hs32 : (shaL (p1 ++ lb)).length = 32 := by rw [shaL]; exact outL_len _
      generalize shaL (p1 ++ lb) = sl at *
      have hsB : (byA sl).size = 32 := by rw [byA_size]; exact hs32
      have hinfB : (Tryz.prog.info? 66).map (·.size) = some (byA sl).size := by rw [hsB]; kernel_rfl
      have HsB := Nm.hide hsB
      have HS := Nm.hide hs32
      clear hby3 hb3 hB1 kR1 k81 hs32 hsB
      go_wp2_with fail
      refine hsh.mono ?_
      rintro e w4 ⟨rfl, hb4⟩
      have hB4 := hchain _ _ hB3 hb4
      have kR4 := blk_below kR3 hb4
      have k84 := blk_below k83 hb4
      clear hsh hB3 kR3 k83 hb4
      have hnew : ∀ W W' : World, Only W.heap.size (W.alloc (.cells (Array.replicate 32 (.int .u8 0)) 66)) W' → Below W.heap.size W W' := fun W W' o =>
        o.below ((Below.refl _ W).alloc (Nat.le_refl _) _) (Nat.le_refl _) (by rw [World.size_alloc]; omega)
      go_wp2_with (refine wpList_store_blk (.tmp 9) (.tmp 29) 66 rfl rfl rfl w4.heap.size _ _ (blk_new _ _ _) rfl rfl hinfB (by rw [HsB.out]; simp) (byA_one _) ?_; intro w5 k5 o5; have b5 := hnew _ _ o5; clear o5)
      have hB5 := hchain _ _ hB4 b5
      have kR5 := blk_below kR4 b5
      have k85 := blk_below k84 b5
      clear hB4 kR4 k84 b5 hnew
      generalize w4.heap.size = g9 at *
      have hb8 : BySl w5 (.slice (some ⟨g8, 0, none⟩) 64 64) p2 := blk_by k85 HP2.out (by unfold maxLen; omega)
      have hb9 : BySl w5 (.slice (some ⟨g9, 0, none⟩) 32 32) sl := blk_by k5 HS.out (by unfold maxLen; omega)
      obtain ⟨W6, hW6⟩ : ∃ W6, W6 = (w5.alloc (.cells #[.slice (some ⟨g8, 0, none⟩) 64 64, .slice (some ⟨g9, 0, none⟩) 32 32] 22)).drew := ⟨_, rfl⟩
      have hBa : Below w5.heap.size w5 W6 := by rw [hW6]; exact ((Below.refl _ w5).alloc (Nat.le_refl _) _).drew
      have hc0 : W6.cell? ⟨w5.heap.size, 0, none⟩ = some (.slice (some ⟨g8, 0, none⟩) 64 64) := by rw [hW6]; exact World.cell?_alloc_new w5 _ _ 0
      have hc1 : W6.cell? ⟨w5.heap.size, 1, none⟩ = some (.slice (some ⟨g9, 0, none⟩) 32 32) := by rw [hW6]; exact World.cell?_alloc_new w5 _ _ 1
      have hcc := concat_any _ _ p2 sl w5.heap.size W6 hc0 hc1 (hb8.below hBa) (hb9.below hBa) (by rw [HP2.out]; omega) (by rw [HP2.out]; omega) (by rw [HS.out]; omega)
      have hB6 := hchain _ _ hB5 hBa
      have kR6 := blk_below kR5 hBa
      clear hc0 hc1 hb8 hb9 hBa hB5 kR5 k85 k5
      refine wp_region_last (S := fun _ => True) (L := 5) (by kernel_rfl) trivial (fun hH => ?_)
      refine wpAnyL_take (i := 0) (v := ?_) rfl (by kernel_rfl) (by kernel_rfl) (by kernel_rfl) (by kernel_rfl) (fun _ _ _ h => h) (Or.inl ⟨by rfl, ?_⟩) (by assumption) ?_
      rotate_left 1
      · (intro w hSw; go_simp; try (with_reducible rfl))
      refine wpAnyL_take (i := 1) (v := ?_) rfl (by kernel_rfl) (by kernel_rfl) (by kernel_rfl) (by kernel_rfl) (fun _ _ _ h => h) (Or.inl ⟨by rfl, ?_⟩) (by assumption) ?_
      rotate_left 1
      · (intro w hSw; go_simp; try (with_reducible rfl))
      refine wpAnyL_one (i := 2) (by kernel_rfl) rfl (fun K hK => ?_)
      go_simp
      rw [← hW6]
      refine hK.out _ _ trivial (fun _ => ?_)
      clear hK K hW6
      refine wpAnyL_one (i := 3) (by kernel_rfl) rfl (fun K hK => ?_)
      go_simp
      refine hcc.mono ?_
      rintro e w7 ⟨v7, rfl, hby7, hb7⟩
      have hB7 := hchain _ _ hB6 hb7
      have kR7 := blk_below kR6 hb7
      have hsh := hsha _ _ _ hby7 (by rw [List.length_append, HP2.out, HS.out]; omega) hB7
      have hs32 : (shaL (p2 ++ sl)).length = 32 := by rw [shaL]; exact outL_len _
      have HH4 := HH3.out
      generalize shaL (p2 ++ sl) = sm at *
      have HH5 := Nm.hide HH4
      have hsM : (byA sm).size = 32 := by rw [byA_size]; exact hs32
      have hinfM : (Tryz.prog.info? 66).map (·.size) = some (byA sm).size := by rw [hsM]; kernel_rfl
      have HsM := Nm.hide hsM
      clear hby7 hb7 hB6 kR6 hs32 hsM HH3 HH4 hcc
      go_wp2_with fail
      refine hK.out _ _ trivial (fun _ => ?_)
      clear hK K
      refine wpAnyL_one (i := 4) (by kernel_rfl) rfl (fun K hK => ?_)
      go_simp
      refine hsh.mono ?_
      rintro e w8 ⟨rfl, hb8⟩
      have hB8 := hchain _ _ hB7 hb8
      have kR8 := blk_below kR7 hb8
      clear hsh hb8 hB7 kR7
      go_wp2_with fail
      refine hK.out _ _ trivial (fun _ => ?_)
      clear hK K
      refine wpAnyL_end (by kernel_rfl) rfl (by kernel_rfl) (fun K hK => ?_)
      rw [if_pos (by rfl)]
      refine wp_store_blk (.tmp 4) (.tmp 34) 66 rfl rfl N _ _ kR8 rfl rfl hinfM (by rw [HsM.out]; simp) (byA_one _) ?_
      intro w9 k9 o9
      refine hK.out _ _ ?_
      clear hK K
      have hb9 := o9.below hB8 (Nat.le_refl _) (Nat.le_of_lt (blk_lt kR8))
      go_wp2
      rw [HN.out]
      exact bodyPost_ret (v := .agg _) (run_results_cell Tryz.results77 rfl k9 Tryz.underlying66 hinfM) rfl ⟨by rw [HH5.out], hb9⟩
  · have hl1 : ¬ (64 : Int) < (lk.length : Int) := by omega
    obtain ⟨kp, ekp⟩ : ∃ kp, kp = padK lk := ⟨_, rfl⟩
    have hkp : kp.length = 64 := by rw [ekp]; exact padK_len (by omega)
    have hsp : (splice (Array.replicate 64 (Value.int .u8 0)).toList 0 (Nm.bys lk)).toArray = byA kp := by rw [ekp]; exact splice_pad (by omega)
    have HH := Nm.hide (show hmacL lk lb = shaL (kp.map (· ^^^ 92) ++ shaL (kp.map (· ^^^ 54) ++ lb)) by rw [hmacL, keyL, if_neg hlong, ← ekp])
    have hn : (Nm.bys lk).length = Nat.min lk.length 64 := by rw [Nm.bys_length]; exact (Nat.min_eq_left (by omega)).symm
    have hsrc : 0 < (Nm.bys lk).length → ∃ ad, ak = some ad ∧ ∀ j v, (Nm.bys lk)[j]? = some v → ((w.alloc (.cells (Array.replicate 32 (.int .u8 0)) 66)).alloc (.cells (Array.replicate 64 (.int .u8 0)) 133)).cell? (ad.add j) = some v := by
      intro h0
      obtain ⟨_, a, c, e, _, _, hx⟩ := hk1
      cases e
      obtain ⟨b, off, rfl, hc⟩ := hx (by rw [Nm.bys_length] at h0; exact h0)
      exact ⟨_, rfl, fun j v hv => by rw [Nm.addr_add]; exact hc j v hv⟩
    have hfit : 0 + (Nm.bys lk).length ≤ (Array.replicate 64 (Value.int .u8 0)).size := by rw [Nm.bys_length, Array.size_replicate]; omega
    clear ekp
    obtain ⟨p1, ep1⟩ : ∃ p1, p1 = kp.map (· ^^^ 54) := ⟨_, rfl⟩
    obtain ⟨p2, ep2⟩ : ∃ p2, p2 = kp.map (· ^^^ 92) := ⟨_, rfl⟩
    go_enter Tryz.func77, Tryz.ntmps77
    go_wp2_with (refine wpList_copy_blk rfl (.tmp 18) (.tmp 19) 22 22 rfl 5 Tryz.underlying22 (by kernel_rfl) (w.heap.size + 1) 0 64 64 ak lk.length ck rfl rfl _ _ kB (Nm.bys lk) hn hsrc hfit (bys_ones _) ?_; rw [hsp]; intro w2 k2 o2)
    have kR2 := o2.blk kR (by omega)
    have hB2 := o2.below hB1 (by omega) hB1.size
    clear o2 kB kR hB0 hB1 hsrc hn hsp hk1 hfit
    generalize hN : w.heap.size = N at *
    have HN := Nm.hide hN
    clear hN
    have hinfK : (Tryz.prog.info? 133).map (·.size) = some (byA kp).size := by rw [byA_size, hkp]; exact hinf64
    have hp1 : p1.length = 64 := by rw [ep1, List.length_map]; exact hkp
    have hp2 : p2.length = 64 := by rw [ep2, List.length_map]; exact hkp
    have hw1 : ∀ W, Calls Tryz.prog 90 #[.agg (byA kp), .int .u8 54] W fun e w' => e = .returned (.agg (byA p1)) ∧ Below W.heap.size W w' := by rw [ep1]; exact fun W => with_any kp hkp 54 W
    have hw2 : ∀ W, Calls Tryz.prog 90 #[.agg (byA kp), .int .u8 92] W fun e w' => e = .returned (.agg (byA p2)) ∧ Below W.heap.size W w' := by rw [ep2]; exact fun W => with_any kp hkp 92 W
    have hinf1 : (Tryz.prog.info? 133).map (·.size) = some (byA p1).size := by rw [byA_size, hp1]; exact hinf64
    have hinf2 : (Tryz.prog.info? 133).map (·.size) = some (byA p2).size := by rw [byA_size, hp2]; exact hinf64
    have hsz1 : (Array.replicate 64 (Value.int .u8 0)).size = (byA p1).size := by rw [byA_size, hp1, Array.size_replicate]
    have hsz2 : (Array.replicate 64 (Value.int .u8 0)).size = (byA p2).size := by rw [byA_size, hp2, Array.size_replicate]
    have hchain : ∀ A B : World, Below N w A → Below A.heap.size A B → Below N w B := fun A B h1 h2 => by
      rw [← HN.out] at h1 ⊢
      exact Nm.below_two h1 h2
    have hsha := fun (V : Value) (l : List UInt8) (W : World) (h : BySl W V l) (hl : l.length ≤ 3000000) (hb : Below N w W) => implSha256_any V l W h hl (by
      obtain ⟨t, fr, hh⟩ := hF
      exact ⟨t, fr, ((show Below w.heap.size w W by rw [HN.out]; exact hb).block _ (Array.getElem?_eq_some_iff.1 hh).1).trans hh⟩) (hK.below (show Below w.heap.size w W by rw [HN.out]; exact hb))
    clear hF hK
    have HH2 := HH.out
    rw [← ep1, ← ep2] at HH2
    have HH3 := Nm.hide HH2
    clear ep1 ep2 HH HH2
    have HP1 := Nm.hide hp1
    have HP2 := Nm.hide hp2
    have HS1 := Nm.hide hsz1
    have HS2 := Nm.hide hsz2
    clear hp1 hp2 hkp hsz1 hsz2
    go_wp2
    have hsz1 := HS1.out
    have hsz2 := HS2.out
    refine wp_region_inv (fun listed a W => ∃ s7 s8 s21 s22 s23 s24, a = ⟨(.slice ak lk.length ck :: .slice ab lb.length cb :: undef :: undef :: .pointer (some ⟨N, 0, none⟩) :: .pointer (some ⟨N + 1, 0, none⟩) :: undef :: s7 :: s8 :: undef :: .slice ak lk.length ck :: .int .i64 (lk.length : Int) :: (.bool false) :: undef :: undef :: undef :: undef :: undef :: (.slice (some ⟨N + 1, 0, none⟩) 64 64) :: (.slice ak lk.length ck) :: (.int .i64 ((lk.length.min 64 : Nat) : Int)) :: s21 :: s22 :: s23 :: s24 :: undef :: undef :: undef :: undef :: undef :: undef :: undef :: undef :: undef :: undef :: []).toArray, []⟩ ∧ HI w2.drew (byA kp) (byA p1) (byA p2) (Array.replicate 64 (.int .u8 0)) (fun j => listed.getD j false) s7 s8 s21 s22 s23 s24 W) (by kernel_rfl) ?_ ?_ ?_
    · exact ⟨_, _, _, _, _, _, rfl, ⟨Below.refl _ _, fun h => absurd h none6, fun h => absurd h none6, fun h => absurd h none6, fun h => absurd h none6, fun h => absurd h none6, fun h => absurd h none6, fun h => absurd h none6, fun h => absurd h none6, fun h => absurd h none6⟩⟩
    · intro listed a W i o hs ho hu hall hI
      obtain ⟨s7, s8, s21, s22, s23, s24, rfl, hI⟩ := hI
      have hs8 : listed.size = 8 := hs
      have hi8 : i < 8 := (Array.getElem?_eq_some_iff.1 ho).1
      have kW : Blk W (N + 1) (byA kp) 133 := (hI.be.block _ (blk_lt k2)).trans k2
      rcases (show i = 0 ∨ i = 1 ∨ i = 2 ∨ i = 3 ∨ i = 4 ∨ i = 5 ∨ i = 6 ∨ i = 7 by omega) with rfl | rfl | rfl | rfl | rfl | rfl | rfl | rfl
      · cases ho
        refine wpOp_step rfl (fun K' hK' => ?_)
        rw [if_pos (by rfl)]
        refine wp_load_blk (.tmp 5) 133 rfl (N + 1) _ _ kW rfl Tryz.underlying133 rfl hinfK ?_
        refine hK' _ _ ⟨s7, s8, _, s22, s23, s24, rfl, ?_⟩
        rw [set_at (by omega)]
        exact hI.at0
      · cases ho
        obtain rfl := hI.p21 (dep6 (d := 0) (by kernel_rfl) hall)
        refine wpOp_step rfl (fun K' hK' => ?_)
        have HK := Nm.hide hK'
        clear hK'
        go_simp
        refine (hw1 _).mono ?_
        rintro e w3 ⟨rfl, hb3⟩
        go_wp2_with fail
        refine HK.out _ _ ⟨s7, s8, _, _, s23, s24, rfl, ?_⟩
        rw [set_at (by omega)]
        exact (hI.on hb3).at1
      · cases ho
        refine wpOp_step rfl (fun K' hK' => ?_)
        rw [if_pos (by rfl)]
        refine wp_load_blk (.tmp 5) 133 rfl (N + 1) _ _ kW rfl Tryz.underlying133 rfl hinfK ?_
        refine hK' _ _ ⟨s7, s8, s21, s22, _, s24, rfl, ?_⟩
        rw [set_at (by omega)]
        exact hI.at2
      · cases ho
        obtain rfl := hI.p23 (dep6 (d := 2) (by kernel_rfl) hall)
        refine wpOp_step rfl (fun K' hK' => ?_)
        have HK := Nm.hide hK'
        clear hK'
        go_simp
        refine (hw2 _).mono ?_
        rintro e w3 ⟨rfl, hb3⟩
        go_wp2_with fail
        refine HK.out _ _ ⟨s7, s8, s21, s22, _, _, rfl, ?_⟩
        rw [set_at (by omega)]
        exact (hI.on hb3).at3
      · cases ho
        refine wpOp_step rfl (fun K' hK' => ?_)
        go_simp
        refine hK' _ _ ⟨_, s8, s21, s22, s23, s24, rfl, ?_⟩
        rw [set_at (by omega)]
        exact hI.at4 (un6 (by omega) hu)
      · cases ho
        refine wpOp_step rfl (fun K' hK' => ?_)
        go_simp
        refine hK' _ _ ⟨s7, _, s21, s22, s23, s24, rfl, ?_⟩
        rw [set_at (by omega)]
        exact hI.at5 (un6 (by omega) hu)
      · cases ho
        have d4 := dep6 (d := 4) (by kernel_rfl) hall
        obtain rfl := hI.p22 (dep6 (d := 1) (by kernel_rfl) hall)
        obtain ⟨g, rfl, hg, hkg⟩ := hI.p7 d4
        rw [if_neg (by rw [un6 (by omega) hu]; decide)] at hkg
        refine wpOp_step rfl (fun K' hK' => ?_)
        rw [if_pos (by rfl)]
        refine wp_store_blk (.tmp 7) (.tmp 22) 133 rfl rfl g _ _ hkg rfl rfl hinf1 hsz1 (byA_one _) ?_
        intro w4 k4 o4
        refine hK' _ _ ⟨_, s8, s21, _, s23, s24, rfl, ?_⟩
        rw [set_at (by omega)]
        exact hI.at6 d4 hg k4 o4
      · cases ho
        have d5 := dep6 (d := 5) (by kernel_rfl) hall
        obtain rfl := hI.p24 (dep6 (d := 3) (by kernel_rfl) hall)
        obtain ⟨g, rfl, hg, hkg⟩ := hI.p8 d5
        rw [if_neg (by rw [un6 (by omega) hu]; decide)] at hkg
        refine wpOp_step rfl (fun K' hK' => ?_)
        rw [if_pos (by rfl)]
        refine wp_store_blk (.tmp 8) (.tmp 24) 133 rfl rfl g _ _ hkg rfl rfl hinf2 hsz2 (byA_one _) ?_
        intro w4 k4 o4
        refine hK' _ _ ⟨s7, _, s21, s22, s23, _, rfl, ?_⟩
        rw [set_at (by omega)]
        exact hI.at7 d5 hg k4 o4
    · intro listed a W hs hr hI
      obtain ⟨s7, s8, s21, s22, s23, s24, rfl, hI⟩ := hI
      have hall := all_listed (by kernel_rfl) hs hr
      have hl : ∀ i, i < 8 → listed.getD i false = true := by
        intro i hi
        have hs8 : listed.size = 8 := hs
        have h1 := hall i hi
        rw [Array.getD_eq_getD_getElem?, Array.getElem?_eq_getElem (by omega)] at h1 ⊢
        simpa using h1
      obtain ⟨g7, rfl, hg7, kg7⟩ := hI.p7 (hl 4 (by omega))
      obtain ⟨g8, rfl, hg8, kg8⟩ := hI.p8 (hl 5 (by omega))
      rw [if_pos (hl 6 (by omega))] at kg7
      rw [if_pos (hl 7 (by omega))] at kg8
      have hBW := hI.be
      obtain rfl := hI.p21 (hl 0 (by omega))
      obtain rfl := hI.p22 (hl 1 (by omega))
      obtain rfl := hI.p23 (hl 2 (by omega))
      obtain rfl := hI.p24 (hl 3 (by omega))
      clear hI hall hl hr hs
      have kRW : Blk W N (Array.replicate 32 (.int .u8 0)) 66 := (hBW.block _ (blk_lt kR2)).trans kR2
      have hBN : Below N w W := hchain _ _ hB2.drew hBW
      have hNW := blk_lt kRW
      clear hBW kR2 hB2 hg7 hg8 k2 hw1 hw2 hinf1 hinf2 hinfK hsz1 hsz2
      have hbW : BySl W (.slice ab lb.length cb) lb := hb.below (by rw [HN.out]; exact hBN)
      have hb7 : BySl W (.slice (some ⟨g7, 0, none⟩) 64 64) p1 := blk_by kg7 HP1.out (by unfold maxLen; omega)
      obtain ⟨W1, hW1⟩ : ∃ W1, W1 = W.alloc (.cells #[.slice (some ⟨g7, 0, none⟩) 64 64, .slice ab lb.length cb] 22) := ⟨_, rfl⟩
      have hBa : Below W.heap.size W W1 := by rw [hW1]; exact (Below.refl _ W).alloc (Nat.le_refl _) _
      have hc0 : W1.cell? ⟨W.heap.size, 0, none⟩ = some (.slice (some ⟨g7, 0, none⟩) 64 64) := by rw [hW1]; exact World.cell?_alloc_new W _ _ 0
      have hc1 : W1.cell? ⟨W.heap.size, 1, none⟩ = some (.slice ab lb.length cb) := by rw [hW1]; exact World.cell?_alloc_new W _ _ 1
      have hcc := concat_any _ _ p1 lb W.heap.size W1 hc0 hc1 (hb7.below hBa) (hbW.below hBa) (by rw [HP1.out]; omega) (by rw [HP1.out]; omega) (by omega)
      have hB1 := hchain _ _ hBN hBa
      have kR1 := blk_below kRW hBa
      have k81 := blk_below kg8 hBa
      clear hc0 hc1 hBa hbW hb7 kRW hBN kg8 kg7
      rw [hW1] at hcc
      clear hb
      go_wp2_with fail
      refine hcc.mono ?_
      rw [← hW1]
      rintro e w3 ⟨v3, rfl, hby3, hb3⟩
      clear hcc hW1
      have hB3 := hchain _ _ hB1 hb3
      have kR3 := blk_below kR1 hb3
      have k83 := blk_below k81 hb3
      have hsh := hsha _ _ _ hby3 (by rw [List.length_append, HP1.out]; omega) hB3
      have hs32 : (shaL (p1 ++ lb)).length = 32 := by rw [shaL]; exact outL_len _
      generalize shaL (p1 ++ lb) = sl at *
      have hsB : (byA sl).size = 32 := by rw [byA_size]; exact hs32
      have hinfB : (Tryz.prog.info? 66).map (·.size) = some (byA sl).size := by rw [hsB]; kernel_rfl
      have HsB := Nm.hide hsB
      have HS := Nm.hide hs32
      clear hby3 hb3 hB1 kR1 k81 hs32 hsB
      go_wp2_with fail
      refine hsh.mono ?_
      rintro e w4 ⟨rfl, hb4⟩
      have hB4 := hchain _ _ hB3 hb4
      have kR4 := blk_below kR3 hb4
      have k84 := blk_below k83 hb4
      clear hsh hB3 kR3 k83 hb4
      have hnew : ∀ W W' : World, Only W.heap.size (W.alloc (.cells (Array.replicate 32 (.int .u8 0)) 66)) W' → Below W.heap.size W W' := fun W W' o =>
        o.below ((Below.refl _ W).alloc (Nat.le_refl _) _) (Nat.le_refl _) (by rw [World.size_alloc]; omega)
      go_wp2_with (refine wpList_store_blk (.tmp 9) (.tmp 29) 66 rfl rfl rfl w4.heap.size _ _ (blk_new _ _ _) rfl rfl hinfB (by rw [HsB.out]; simp) (byA_one _) ?_; intro w5 k5 o5; have b5 := hnew _ _ o5; clear o5)
      have hB5 := hchain _ _ hB4 b5
      have kR5 := blk_below kR4 b5
      have k85 := blk_below k84 b5
      clear hB4 kR4 k84 b5 hnew
      generalize w4.heap.size = g9 at *
      have hb8 : BySl w5 (.slice (some ⟨g8, 0, none⟩) 64 64) p2 := blk_by k85 HP2.out (by unfold maxLen; omega)
      have hb9 : BySl w5 (.slice (some ⟨g9, 0, none⟩) 32 32) sl := blk_by k5 HS.out (by unfold maxLen; omega)
      obtain ⟨W6, hW6⟩ : ∃ W6, W6 = (w5.alloc (.cells #[.slice (some ⟨g8, 0, none⟩) 64 64, .slice (some ⟨g9, 0, none⟩) 32 32] 22)).drew := ⟨_, rfl⟩
      have hBa : Below w5.heap.size w5 W6 := by rw [hW6]; exact ((Below.refl _ w5).alloc (Nat.le_refl _) _).drew
      have hc0 : W6.cell? ⟨w5.heap.size, 0, none⟩ = some (.slice (some ⟨g8, 0, none⟩) 64 64) := by rw [hW6]; exact World.cell?_alloc_new w5 _ _ 0
      have hc1 : W6.cell? ⟨w5.heap.size, 1, none⟩ = some (.slice (some ⟨g9, 0, none⟩) 32 32) := by rw [hW6]; exact World.cell?_alloc_new w5 _ _ 1
      have hcc := concat_any _ _ p2 sl w5.heap.size W6 hc0 hc1 (hb8.below hBa) (hb9.below hBa) (by rw [HP2.out]; omega) (by rw [HP2.out]; omega) (by rw [HS.out]; omega)
      have hB6 := hchain _ _ hB5 hBa
      have kR6 := blk_below kR5 hBa
      clear hc0 hc1 hb8 hb9 hBa hB5 kR5 k85 k5
      refine wp_region_last (S := fun _ => True) (L := 5) (by kernel_rfl) trivial (fun hH => ?_)
      refine wpAnyL_take (i := 0) (v := ?_) rfl (by kernel_rfl) (by kernel_rfl) (by kernel_rfl) (by kernel_rfl) (fun _ _ _ h => h) (Or.inl ⟨by rfl, ?_⟩) (by assumption) ?_
      rotate_left 1
      · (intro w hSw; go_simp; try (with_reducible rfl))
      refine wpAnyL_take (i := 1) (v := ?_) rfl (by kernel_rfl) (by kernel_rfl) (by kernel_rfl) (by kernel_rfl) (fun _ _ _ h => h) (Or.inl ⟨by rfl, ?_⟩) (by assumption) ?_
      rotate_left 1
      · (intro w hSw; go_simp; try (with_reducible rfl))
      refine wpAnyL_one (i := 2) (by kernel_rfl) rfl (fun K hK => ?_)
      go_simp
      rw [← hW6]
      refine hK.out _ _ trivial (fun _ => ?_)
      clear hK K hW6
      refine wpAnyL_one (i := 3) (by kernel_rfl) rfl (fun K hK => ?_)
      go_simp
      refine hcc.mono ?_
      rintro e w7 ⟨v7, rfl, hby7, hb7⟩
      have hB7 := hchain _ _ hB6 hb7
      have kR7 := blk_below kR6 hb7
      have hsh := hsha _ _ _ hby7 (by rw [List.length_append, HP2.out, HS.out]; omega) hB7
      have hs32 : (shaL (p2 ++ sl)).length = 32 := by rw [shaL]; exact outL_len _
      have HH4 := HH3.out
      generalize shaL (p2 ++ sl) = sm at *
      have HH5 := Nm.hide HH4
      have hsM : (byA sm).size = 32 := by rw [byA_size]; exact hs32
      have hinfM : (Tryz.prog.info? 66).map (·.size) = some (byA sm).size := by rw [hsM]; kernel_rfl
      have HsM := Nm.hide hsM
      clear hby7 hb7 hB6 kR6 hs32 hsM HH3 HH4 hcc
      go_wp2_with fail
      refine hK.out _ _ trivial (fun _ => ?_)
      clear hK K
      refine wpAnyL_one (i := 4) (by kernel_rfl) rfl (fun K hK => ?_)
      go_simp
      refine hsh.mono ?_
      rintro e w8 ⟨rfl, hb8⟩
      have hB8 := hchain _ _ hB7 hb8
      have kR8 := blk_below kR7 hb8
      clear hsh hb8 hB7 kR7
      go_wp2_with fail
      refine hK.out _ _ trivial (fun _ => ?_)
      clear hK K
      refine wpAnyL_end (by kernel_rfl) rfl (by kernel_rfl) (fun K hK => ?_)
      rw [if_pos (by rfl)]
      refine wp_store_blk (.tmp 4) (.tmp 34) 66 rfl rfl N _ _ kR8 rfl rfl hinfM (by rw [HsM.out]; simp) (byA_one _) ?_
      intro w9 k9 o9
      refine hK.out _ _ ?_
      clear hK K
      have hb9 := o9.below hB8 (Nat.le_refl _) (Nat.le_of_lt (blk_lt kR8))
      go_wp2
      rw [HN.out]
      exact bodyPost_ret (v := .agg _) (run_results_cell Tryz.results77 rfl k9 Tryz.underlying66 hinfM) rfl ⟨by rw [HH5.out], hb9⟩
end Go.Proofs.YtfficbpalibmoaaGreatDoor
/- Rows of bytes that may be written up to their capacity; what an append leaves. -/
namespace Go.Proofs.YtfficbpalibmoaaGreatDoor
open Go.RowKit

theorem Tryz.infoB : (Tryz.prog.info? 5).map (fun i => (i.zero, i.size, i.bytes)) = some (some (.int .u8 0), 1, 1) := by kernel_rfl

/-- The bytes 'l' lie where the slice 'v' leads, in a block from B on; the whole row may be written. -/
def FRow (w : World) (B : Nat) (v : Value) (l : List UInt8) : Prop :=
  ∃ g cap, v = .slice (some ⟨g, 0, none⟩) l.length cap ∧ l.length ≤ cap ∧ cap ≤ maxLen ∧ B ≤ g ∧ g < w.heap.size ∧
    (∀ j, j < cap → (w.cell? ⟨g, j, none⟩).isSome = true ∧ w.frozen? ⟨g, j, none⟩ = false) ∧
    (∀ (j : Nat) (c : UInt8), l[j]? = some c → w.cell? ⟨g, j, none⟩ = some (.int .u8 (c.toNat : Int)))

theorem bys_get {l : List UInt8} {j : Nat} {u : Value} (h : (Nm.bys l)[j]? = some u) : ∃ c, l[j]? = some c ∧ u = .int .u8 (c.toNat : Int) := by
  simp [Nm.bys] at h
  obtain ⟨c, h1, h2⟩ := h
  exact ⟨c, h1, h2.symm⟩

theorem sc_size (b : Nat) : ∀ (vs : List Value) (o : Nat) (w : World), (w.setCells b o vs).heap.size = w.heap.size := by
  intro vs
  induction vs with
  | nil => intro o w; rfl
  | cons v vs ih => intro o w; rw [World.setCells, ih]; simp
theorem sc_tape (b : Nat) : ∀ (vs : List Value) (o : Nat) (w : World), (w.setCells b o vs).tape = w.tape := by
  intro vs
  induction vs with
  | nil => intro o w; rfl
  | cons v vs ih => intro o w; rw [World.setCells, ih]; simp

theorem FRow.app {w : World} {B : Nat} {v : Value} {l : List UInt8} (h : FRow w B v l) (hB : B ≤ w.heap.size) (tx : TypeId) (x : Value) (r : List UInt8)
    (hs : _root_.Go.Src Tryz.prog 1 tx x r.length (Nm.bys r) w) (hlen : l.length + r.length ≤ 1000000000000) :
    ∃ v' w', (∀ ty, (Builtin.append_ #[22, tx] ty #[v, x]).run Tryz.prog w = .ok v' w') ∧ FRow w' B v' (l ++ r) ∧ Below B w w' := by
  obtain ⟨g, cap, rfl, h1, h2, h3, h4, h5, h6⟩ := h
  obtain ⟨i0, hi, hz0, hz1, hz2⟩ := info_parts Tryz.infoB
  have hbl : (Nm.bys r).length = r.length := Nm.bys_length r
  by_cases hroom : l.length + r.length ≤ cap
  · have hc : ∀ j, j < (Nm.bys r).length → (w.cell? ⟨g, 0 + l.length * i0.size + j, none⟩).isSome = true := by
      intro j hj
      rw [hz1, Nat.zero_add, Nat.mul_one]
      exact (h5 _ (by omega)).1
    have hf : ∀ j, j < (Nm.bys r).length → w.frozen? ⟨g, 0 + l.length * i0.size + j, none⟩ = false := by
      intro j hj
      rw [hz1, Nat.zero_add, Nat.mul_one]
      exact (h5 _ (by omega)).2
    have hr := fun ty => run_append_room_src (P := Tryz.prog) w 22 tx ty 5 i0 Tryz.underlying22 hi g 0 l.length cap x r.length (Nm.bys r) (by rw [hz1]; exact hs) hroom hc hf
    simp only [hz1, Nat.zero_add, Nat.mul_one] at hr
    rw [hz1, Nat.zero_add, Nat.mul_one] at hc
    refine ⟨_, _, hr, ⟨g, cap, by rw [List.length_append], by rw [List.length_append]; exact hroom, h2, h3, ?_, ?_, ?_⟩, ?_⟩
    · rw [sc_size]; exact h4
    · intro j hj
      refine ⟨?_, by rw [World.frozen?_setCells]; exact (h5 j hj).2⟩
      by_cases hin : l.length ≤ j ∧ j < l.length + r.length
      · have e := World.cell?_setCells_in g (Nm.bys r) l.length w hc (j - l.length) (by omega)
        rw [show l.length + (j - l.length) = j by omega] at e
        rw [e]; rfl
      · rw [World.cell?_setCells_out g _ _ _ _ (fun _ _ => by simp only [hbl]; omega)]
        exact (h5 j hj).1
    · intro j c hj
      by_cases hlt : j < l.length
      · rw [List.getElem?_append_left hlt] at hj
        rw [World.cell?_setCells_out g _ _ _ _ (fun _ _ => .inl hlt)]
        exact h6 j c hj
      · rw [List.getElem?_append_right (by omega)] at hj
        have hjr : j - l.length < r.length := (List.getElem?_eq_some_iff.1 hj).1
        have e := World.cell?_setCells_in g (Nm.bys r) l.length w hc (j - l.length) (by omega)
        rw [show l.length + (j - l.length) = j by omega] at e
        rw [e]
        have e2 : (Nm.bys r)[j - l.length]? = some (.int .u8 (c.toNat : Int)) := by simp [Nm.bys, hj]
        rw [List.getElem?_eq_getElem (by omega)] at e2
        exact e2
    · exact ⟨World.os_setCells _ _ _ _, sc_tape _ _ _ _, World.output_setCells _ _ _ _, Nat.le_of_eq (sc_size _ _ _ _).symm, fun k hk => World.heap_setCells_other w g _ _ (by omega) (by omega)⟩
  · have hold : (Builtin.firstCells i0.size l.length (.slice (some ⟨g, 0, none⟩) l.length cap)).run Tryz.prog w.drew = .ok (Nm.bys l).toArray w.drew := by
      rw [hz1]
      refine run_firstCells_some w.drew 1 l.length ⟨g, 0, none⟩ l.length cap (Nm.bys l) (by rw [Nm.bys_length, Nat.mul_one]) ?_
      intro j u hu
      obtain ⟨c, hc, rfl⟩ := bys_get hu
      have := h6 j c hc
      rw [Nm.addr_add, Nat.zero_add]
      exact this
    have hr := fun ty => run_append_grow_src (P := Tryz.prog) w 22 tx ty 5 i0 (.int .u8 0) Tryz.underlying22 hi hz0 (some ⟨g, 0, none⟩) l.length cap (Nm.bys l) hold x r.length (Nm.bys r) (by rw [hz1]; exact hs) (by omega) (by omega) (by rw [hz2]; exact growslice_fits (by omega) (by omega))
    have hge := grownCap_ge w (l.length + r.length) cap 5
    have hle := grownCap_le_maxLen w (l.length + r.length) cap 5 (by unfold maxLen; omega)
    generalize grownCap w (l.length + r.length) cap 5 = C at *
    have hall : ∀ j, j < C → ∃ u, ((Nm.bys l ++ Nm.bys r).toArray ++ Builtin.zeroCells (Value.int IntKind.u8 0).cells (C - (l.length + r.length)))[j]? = some u := by
      intro j hj
      have hz : ((Nm.bys l ++ Nm.bys r).toArray ++ Builtin.zeroCells (Value.int IntKind.u8 0).cells (C - (l.length + r.length))).size = C := by
        have hz1' : (Value.int IntKind.u8 0).cells.size = 1 := rfl
        simp only [Array.size_append, List.size_toArray, size_zeroCells, hz1', List.length_append, Nm.bys_length]
        omega
      exact ⟨_, Array.getElem?_eq_getElem (by omega)⟩
    have hcell : ∀ j, (w.drew.alloc (.cells ((Nm.bys l ++ Nm.bys r).toArray ++ Builtin.zeroCells (Value.int IntKind.u8 0).cells (C - (l.length + r.length))) 5)).cell? ⟨w.heap.size, j, none⟩ = ((Nm.bys l ++ Nm.bys r).toArray ++ Builtin.zeroCells (Value.int IntKind.u8 0).cells (C - (l.length + r.length)))[j]? := by
      intro j
      exact World.cell?_alloc_new w.drew _ _ j
    refine ⟨_, _, hr, ⟨w.heap.size, C, by rw [List.length_append], by rw [List.length_append]; exact hge, hle, hB, by simp, ?_, ?_⟩, ?_⟩
    · intro j hj
      obtain ⟨u, hu⟩ := hall j hj
      exact ⟨by rw [hcell, hu]; rfl, World.frozen?_alloc_new w.drew _ _ j⟩
    · intro j c hj
      rw [hcell]
      have e : (Nm.bys l ++ Nm.bys r)[j]? = some (.int .u8 (c.toNat : Int)) := by
        rw [← Nm.bys_append, Nm.bys, List.getElem?_map, hj]; rfl
      rw [Array.getElem?_append_left (by have := (List.getElem?_eq_some_iff.1 e).1; simpa using this)]
      simpa using e
    · exact ((Below.refl B w).drew).alloc hB _

theorem FRow.below {w w' : World} {B : Nat} {v : Value} {l : List UInt8} (h : FRow w B v l) (hb : Below w.heap.size w w') : FRow w' B v l := by
  obtain ⟨g, cap, rfl, h1, h2, h3, h4, h5, h6⟩ := h
  have hc : ∀ j, w'.cell? ⟨g, j, none⟩ = w.cell? ⟨g, j, none⟩ := fun j => hb.cell h4
  have hfz : ∀ j, w'.frozen? ⟨g, j, none⟩ = w.frozen? ⟨g, j, none⟩ := fun j => by
    simp only [World.frozen?, hb.block g h4]
  refine ⟨g, cap, rfl, h1, h2, h3, Nat.lt_of_lt_of_le h4 hb.size, ?_, ?_⟩
  · intro j hj; rw [hc, hfz]; exact h5 j hj
  · intro j c hj; rw [hc]; exact h6 j c hj

/-- string(b) of such a row. -/
theorem FRow.str {w : World} {B : Nat} {v : Value} {l : List UInt8} (h : FRow w B v l) : (convert 22 9 v).run Tryz.prog w = .ok (.string ⟨l.toArray⟩) w := by
  obtain ⟨g, cap, rfl, h1, h2, h3, h4, h5, h6⟩ := h
  refine run_convert_bytes_back w 22 9 5 ⟨g, 0, none⟩ cap l Tryz.underlying22 Tryz.underlying5 Tryz.underlying9 ?_
  intro j hj
  rw [Nm.addr_add, Nat.zero_add]
  exact h6 j _ (List.getElem?_eq_getElem hj)

/-- []byte(s). -/
theorem FRow.new (s : ByteArray) (w : World) (hs : s.size ≤ 1000000000000) : ∃ v W, (convert 9 22 (.string s)).run Tryz.prog w = .ok v W ∧ FRow W w.heap.size v s.data.toList ∧ Below w.heap.size w W := by
  have hge := grownCap_ge w s.size 0 5
  have hle := grownCap_le_maxLen w s.size 0 5 (by unfold maxLen; omega)
  have hr := run_bytes_of_string w 9 22 5 s Tryz.underlying9 Tryz.underlying22 Tryz.underlying5
  generalize grownCap w s.size 0 5 = C at *
  have hl : s.data.toList.length = s.size := by simp
  have hz : (bytesRow s C).size = C := by
    have : s.data.size = s.size := rfl
    simp [bytesRow]; omega
  have hcell : ∀ j, (w.drew.alloc (.cells (bytesRow s C) 5 ((bytesRow s C).size, (bytesRow s C).size + 1))).cell? ⟨w.heap.size, j, none⟩ = (bytesRow s C)[j]? := fun j =>
    cell_of_row _ w.heap.size j _ 5 _ (heap_alloc_new w.drew _)
  refine ⟨_, _, hr, ⟨w.heap.size, C, by rw [hl], by omega, hle, Nat.le_refl _, by simp, ?_, ?_⟩, ((Below.refl _ w).drew).alloc (Nat.le_refl _) _⟩
  · intro j hj
    refine ⟨by rw [hcell, Array.getElem?_eq_getElem (by omega)]; rfl, ?_⟩
    have e := World.frozen?_alloc_mark w.drew (bytesRow s C) 5 (bytesRow s C).size ((bytesRow s C).size + 1) j
    rw [show w.heap.size = w.drew.heap.size from rfl, e]
    simp; omega
  · intro j c hj
    have hj' : j < s.data.size := by
      have := (List.getElem?_eq_some_iff.1 hj).1
      simpa using this
    have hc : s.data[j] = c := by
      have := (List.getElem?_eq_some_iff.1 hj).2
      simpa using this
    rw [hcell, bytesRow_at s _ j hj', hc]

/-- The operation, for the walk. -/
theorem wpList_append_run {ops : Array Oper} {rest : List Oper} {o : Oper} {a : Act} {w : World} {Q : Exit → Act → World → Prop} (hgd : o.guard = none) (s x : Operand) (t u : TypeId)
    (ho : o.op = .call { callee := .builtin .append, args := #[s, x], argTypes := #[t, u] }) (v xv : Value) (hs : a.eval s = v) (hx : a.eval x = xv)
    (v' : Value) (w' : World) (hr : ∀ ty, (Builtin.append_ #[t, u] ty #[v, xv]).run Tryz.prog w = .ok v' w')
    (h : wpList Tryz.prog ops Q rest (a.put o.dst v') w') : wpList Tryz.prog ops Q (o :: rest) a w := by
  refine wpList_plain hgd fun K hK => ?_
  have hr := hr o.type
  unfold Oper.wp execOp
  simp only [ho, resolve, invoke, builtin, Sem.run_bind, Sem.run_pure, Result.andThen_ok, List.map_toArray, List.map_cons, List.map_nil, hs, hx, hr]
  exact hK _ _ h
end Go.Proofs.YtfficbpalibmoaaGreatDoor
