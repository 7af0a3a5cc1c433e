import Derived.Test.YtcamccoaoiobdaaGreatJBmC
/- The records that are kept, and the rules over them: the tree's answers are the model's. -/
namespace Go.Proofs.YtcamccoaoiobdaaGreat
open Go.RowKit
set_option linter.unusedVariables false

theorem kin_of {x y : It} (hx : GoodI x) (hy : GoodI y) : kinB x y = true ↔ OfS (labI x) x.r.ty y := by
  simp only [kinB, Bool.and_eq_true, decide_eq_true_eq, OfS, OfO]
  rw [good_fo hy hx]
theorem dup_iff {l : List It} {x : It} (hl : ∀ y ∈ l, GoodI y) (hx : GoodI x) : dupI l x = true ↔ ∃ y ∈ l, OfD (labI x) x.r.ty x.dt y := by
  rw [dupI, List.any_eq_true]
  constructor
  · rintro ⟨y, hy, h⟩
    simp only [Bool.and_eq_true, decide_eq_true_eq] at h
    exact ⟨y, hy, (kin_of hx (hl y hy)).1 h.1, h.2⟩
  · rintro ⟨y, hy, h⟩
    refine ⟨y, hy, ?_⟩
    simp only [Bool.and_eq_true, decide_eq_true_eq]
    exact ⟨(kin_of hx (hl y hy)).2 h.1, h.2⟩

/-- Whether the i-th record is kept. -/
def keptB (l : List It) (i : Nat) : Bool := match l[i]? with
  | some x => !dupI (l.take i) x
  | none => false
structure KInv (l : List It) (os : List GOw) (ks : List Ld) : Prop where
  ats : ks.map (·.at_) = (List.range l.length).filter (keptB l)
  ok : ∀ k ∈ ks, ∃ x, l[k.at_]? = some x ∧ k.ty = x.r.ty ∧ ∃ o ∈ os, o.blk = k.ob ∧ OfO o.lab x ∧ ∃ s ∈ o.ss, s.blk = k.sb ∧ s.ty = x.r.ty
theorem KInv.nil : KInv [] [] [] := ⟨rfl, by simp⟩
theorem KInv.len {l : List It} {os : List GOw} {ks : List Ld} (h : KInv l os ks) : ks.length ≤ l.length := by
  have := congrArg List.length h.ats
  rw [List.length_map] at this
  rw [this]
  exact Nat.le_trans (List.length_filter_le _ _) (by simp)
theorem KInv.step {l : List It} {x : It} {lv : Value} {os os' : List GOw} {o' : GOw} {s' : GSe} {isNew : Bool} {ks : List Ld} (h : KInv l os ks) (hl : ∀ y ∈ l, GoodI y) (hx : GoodI x) (hR : LayR l x lv os os' o' s' isNew) :
    KInv (l ++ [x]) os' (if isNew = true then ks ++ [⟨l.length, x.r.ty, o'.blk, s'.blk⟩] else ks) := by
  have hnew : isNew = !dupI l x := by
    have h1 := hR.nw
    have h2 := dup_iff hl hx
    cases hd : dupI l x with
    | true =>
      obtain ⟨y, hy, h3⟩ := h2.1 hd
      cases hi : isNew with
      | false => rfl
      | true => exact absurd h3 (h1.1 hi y hy)
    | false =>
      refine h1.2 (fun y hy h3 => ?_)
      have := h2.2 ⟨y, hy, h3⟩
      rw [hd] at this; cases this
  have hats : (List.range (l ++ [x]).length).filter (keptB (l ++ [x])) = (List.range l.length).filter (keptB l) ++ (if isNew = true then [l.length] else []) := by
    rw [List.length_append, List.length_singleton, List.range_succ, List.filter_append]
    congr 1
    · apply List.filter_congr
      intro i hi
      have hi' : i < l.length := by simpa using hi
      rw [keptB, keptB, List.getElem?_append_left hi', List.take_append_of_le_length (by omega)]
    · rw [List.filter_cons, keptB, List.getElem?_append_right (Nat.le_refl _), List.take_left']
      · simp only [Nat.sub_self, List.getElem?_cons_zero, hnew]
        cases dupI l x <;> rfl
      · rfl
  have old : ∀ k ∈ ks, ∃ z, (l ++ [x])[k.at_]? = some z ∧ k.ty = z.r.ty ∧ ∃ o ∈ os', o.blk = k.ob ∧ OfO o.lab z ∧ ∃ s ∈ o.ss, s.blk = k.sb ∧ s.ty = z.r.ty := by
    intro k hk
    obtain ⟨z, h1, h2, o, ho, h3, h4, s, hs, h5, h6⟩ := h.ok k hk
    obtain ⟨q, hq, q1, q2, _, q3⟩ := hR.kept o ho
    obtain ⟨t, ht, t1, t2⟩ := q3 s hs
    exact ⟨z, by rw [List.getElem?_append_left (List.getElem?_eq_some_iff.1 h1).1]; exact h1, h2, q, hq, by rw [q1, h3], by rw [q2]; exact h4, t, ht, by rw [t1, h5], by rw [t2, h6]⟩
  cases hi : isNew with
  | false =>
    refine ⟨?_, by simpa [hi] using old⟩
    rw [hats, hi]
    simp [h.ats]
  | true =>
    refine ⟨?_, fun k hk => ?_⟩
    · rw [hats, hi]
      simp [h.ats]
    · simp only [if_true, List.mem_append, List.mem_singleton] at hk
      rcases hk with hk | rfl
      · exact old k hk
      · exact ⟨x, by simp, rfl, o', hR.isOwn.1, rfl, hR.isOwn.2, s', hR.isSet.1, rfl, hR.isSet.2⟩

/-- A rule as it is asked of a record that is kept. -/
def askK (l : List It) (p : Nat → It → Bool) (k : Ld) : Bool := match l[k.at_]? with
  | some x => p k.at_ x
  | none => false
theorem find_congrL {α : Type} {p q : α → Bool} : ∀ {l : List α}, (∀ x ∈ l, p x = q x) → l.find? p = l.find? q := by
  intro l
  induction l with
  | nil => intro _; rfl
  | cons x l ih =>
    intro h
    rw [List.find?_cons, List.find?_cons, h x (by simp), ih (fun y hy => h y (by simp [hy]))]
theorem fst_rule {l : List It} {os : List GOw} {ks : List Ld} (hK : KInv l os ks) (hl : ∀ y ∈ l, GoodI y) (p : Nat → It → Bool) (hp : ∀ i x, x.out = true → p i x = false) (code : Int) :
    fstR (askK l p) code ks = match firstI p (twI l) with
      | some i => .tuple #[.int .i64 code, .int .i64 (i : Int)]
      | none => .tuple #[.int .i64 0, .int .i64 0] := by
  have e : firstI p (twI l) = (ks.find? (askK l p)).map (·.at_) := by
    have e1 : ks.find? (askK l p) = ks.find? ((fun i => match l[i]? with | some x => p i x | none => false) ∘ (·.at_)) := rfl
    rw [e1, ← List.find?_map, hK.ats, List.find?_filter, firstI, twI_len]
    apply find_congrL
    intro i hi
    have hi' : i < l.length := by simpa using hi
    have hx : l[i]? = some l[i] := List.getElem?_eq_getElem hi'
    rw [twI_get hx, keptB, hx]
    have hg := hl l[i] (List.mem_of_getElem? hx)
    simp only
    by_cases hd : dupI (l.take i) l[i] = true
    · rw [hp i (outI (dupI (l.take i) l[i]) l[i]) (by simp [outI, hd])]
      simp [hd]
    · have hd' : dupI (l.take i) l[i] = false := by simpa using hd
      have : outI (dupI (l.take i) l[i]) l[i] = l[i] := by rw [hd']; simp [outI]
      rw [this]
      simp [hd']
  rw [e, fstR]
  cases ks.find? (askK l p) with
  | none => rfl
  | some x => rfl

/-- Whether there is one before: what is left out doesn't matter, for the first of its kind is not. -/
theorem hasI_iff {l : List It} (hl : ∀ y ∈ l, GoodI y) (i : Nat) (fo : ByteArray) (t : Int) : hasI ((twI l).take i) fo t = true ↔ ∃ (j : Nat) (y : It), j < i ∧ l[j]? = some y ∧ y.fo = fo ∧ y.r.ty = t := by
  rw [hasI, List.any_eq_true]
  constructor
  · rintro ⟨z, hz, h⟩
    obtain ⟨j, hj⟩ := List.getElem?_of_mem hz
    have hjl := (List.getElem?_eq_some_iff.1 hj).1
    rw [List.length_take, twI_len] at hjl
    rw [List.getElem?_take_of_lt (by omega)] at hj
    have hx : l[j]? = some l[j] := List.getElem?_eq_getElem (by omega)
    rw [twI_get hx] at hj
    obtain rfl := Option.some.inj hj
    simp only [outI, Bool.and_eq_true] at h
    exact ⟨j, l[j], by omega, hx, of_decide_eq_true h.1.2, of_decide_eq_true h.2⟩
  · rintro ⟨j0, y0, hj0, hy0, h1, h2⟩
    obtain ⟨j, y, hF⟩ := First.ex (P := fun y : It => y.fo = fo ∧ y.r.ty = t) (l := l.take i) ⟨y0, List.mem_of_getElem? (i := j0) (by rw [List.getElem?_take_of_lt hj0]; exact hy0), h1, h2⟩
    have hji : j < i := by have := hF.lt; rw [List.length_take] at this; omega
    have hy : l[j]? = some y := by have := hF.1; rw [List.getElem?_take_of_lt hji] at this; exact this
    have hd : dupI (l.take j) y = false := by
      cases hd : dupI (l.take j) y with
      | false => rfl
      | true =>
        exfalso
        rw [dupI, List.any_eq_true] at hd
        obtain ⟨z, hz, h⟩ := hd
        simp only [kinB, Bool.and_eq_true, decide_eq_true_eq] at h
        obtain ⟨m, hm⟩ := List.getElem?_of_mem hz
        have hml := (List.getElem?_eq_some_iff.1 hm).1
        rw [List.length_take] at hml
        rw [List.getElem?_take_of_lt (by omega)] at hm
        exact hF.2.2 m z (by omega) (by rw [List.getElem?_take_of_lt (by omega)]; exact hm) ⟨h.1.1.trans hF.2.1.1, h.1.2.trans hF.2.1.2⟩
    refine ⟨y, List.mem_of_getElem? (i := j) ?_, ?_⟩
    · rw [List.getElem?_take_of_lt hji, twI_get hy, hd]
      simp [outI]
    · have := (hl y (List.mem_of_getElem? hy)).2.2.2
      simp [this, hF.2.1.1, hF.2.1.2]
theorem hasI_all {l : List It} (hl : ∀ y ∈ l, GoodI y) (fo : ByteArray) (t : Int) : hasI (twI l) fo t = true ↔ ∃ y ∈ l, y.fo = fo ∧ y.r.ty = t := by
  have h := hasI_iff hl l.length fo t
  rw [List.take_of_length_le (by rw [twI_len]; exact Nat.le_refl _)] at h
  rw [h]
  constructor
  · rintro ⟨j, y, _, hy, h1⟩; exact ⟨y, List.mem_of_getElem? hy, h1⟩
  · rintro ⟨y, hy, h1⟩
    obtain ⟨j, hj⟩ := List.getElem?_of_mem hy
    exact ⟨j, y, (List.getElem?_eq_some_iff.1 hj).1, hj, h1⟩

theorem isIn_set {ss : List GSe} (h : SeS ss) (t : Int) : isIn (sCmp t) ss = true ↔ ∃ s ∈ ss, s.ty = t := by
  rcases place_split (f := sCmp t) h (sCmp_mono t) with ⟨hi, A, C, e, hp, ha, hc⟩ | ⟨hi, A, o, C, e, hp, h0, ha, hc⟩
  · rw [hi]
    refine Iff.intro (fun h => by cases h) (fun h9 => ?_)
    obtain ⟨s, hs, h1⟩ := h9
    have h0 : sCmp t s = 0 := sCmp_zero.2 h1
    rw [e] at hs
    rcases List.mem_append.1 hs with hs | hs
    · have := ha s hs; omega
    · have := hc s hs; omega
  · rw [hi]
    exact ⟨fun _ => ⟨o, by rw [e]; simp, sCmp_zero.1 h0⟩, fun _ => rfl⟩
theorem hasT_iff {os : List GOw} (h : OwS os ∧ ∀ o ∈ os, SeS o.ss) (lab : List ByteArray) (t : Int) : hasT lab t os = true ↔ ∃ o ∈ os, Nm.cmpLs o.lab lab = 0 ∧ ∃ s ∈ o.ss, s.ty = t := by
  rcases place_split (f := oCmp lab) h.1 (oCmp_mono lab) with ⟨hi, A, C, e, hp, ha, hc⟩ | ⟨hi, A, o, C, e, hp, h0, ha, hc⟩
  · have e9 : hasT lab t os = false := by
      rw [hasT]
      cases os[posOf (oCmp lab) os]? with
      | none => rfl
      | some o => rw [hi]; rfl
    rw [e9]
    refine Iff.intro (fun h => by cases h) (fun h9 => ?_)
    obtain ⟨q, hq, h1, _⟩ := h9
    rw [e] at hq
    rcases List.mem_append.1 hq with hq | hq
    · have := ha q hq; rw [oCmp] at this; omega
    · have := hc q hq; rw [oCmp] at this; omega
  · have hg : os[posOf (oCmp lab) os]? = some o := by
      rw [hp, e, List.getElem?_append_right (Nat.le_refl _)]
      simp
    have hm : o ∈ os := List.mem_of_getElem? hg
    have e9 : hasT lab t os = isIn (sCmp t) o.ss := by rw [hasT, hg, hi]; rfl
    rw [e9, isIn_set (h.2 o hm)]
    constructor
    · exact fun h => ⟨o, hm, h0, h⟩
    · rintro ⟨q, hq, h1, h2⟩
      rw [e] at hq
      rcases mem_mid hq with rfl | hq | hq
      · exact h2
      · have := ha q hq; rw [oCmp] at this; omega
      · have := hc q hq; rw [oCmp] at this; omega
/-- The tree has a set just where a record makes one. -/
theorem TInv.sets {l : List It} {os : List GOw} (h : TInv l os) (lab : List ByteArray) (t : Int) : (∃ o ∈ os, Nm.cmpLs o.lab lab = 0 ∧ ∃ s ∈ o.ss, s.ty = t) ↔ ∃ y ∈ l, OfS lab t y := by
  constructor
  · rintro ⟨o, ho, h1, s, hs, h2⟩
    obtain ⟨y, hy, _⟩ := h.set o ho s hs
    exact ⟨y, hy.mem, by rw [OfO, ← cmpLs_eq_right h1]; exact hy.2.1.1, by rw [hy.2.1.2, h2]⟩
  · rintro ⟨y, hy, h1⟩
    obtain ⟨o, ho, h2, s, hs, h3, _⟩ := h.cov y hy
    exact ⟨o, ho, by rw [← cmpLs_eq_left h2]; exact h1.1, s, hs, by rw [h3, h1.2]⟩
theorem TInv.has {l : List It} {os : List GOw} (h : TInv l os) (hl : ∀ y ∈ l, GoodI y) {a : ByteArray} {lab : List ByteArray} (ha : Nm.split a = some lab) (t : Int) : hasT lab t os = hasI (twI l) (Nm.foldS a) t := by
  rw [Bool.eq_iff_iff, hasT_iff ⟨h.sorted.1, fun o ho => (h.sorted.2 o ho).1⟩, h.sets, hasI_all hl]
  constructor
  · rintro ⟨y, hy, h1, h2⟩
    exact ⟨y, hy, by rw [(hl y hy).2.1]; exact (fold_lab (hl y hy).1 ha).2 h1, h2⟩
  · rintro ⟨y, hy, h1, h2⟩
    rw [(hl y hy).2.1] at h1
    exact ⟨y, hy, (fold_lab (hl y hy).1 ha).1 h1, h2⟩
/-- Owners are told apart by their labels. -/
theorem TInv.one {l : List It} {os : List GOw} (h : TInv l os) {o q : GOw} (ho : o ∈ os) (hq : q ∈ os) (e : Nm.cmpLs o.lab q.lab = 0) : o = q := by
  obtain ⟨i, hi⟩ := List.getElem?_of_mem ho
  obtain ⟨j, hj⟩ := List.getElem?_of_mem hq
  have hi' := List.getElem?_eq_some_iff.1 hi
  have hj' := List.getElem?_eq_some_iff.1 hj
  have hp := List.pairwise_iff_getElem.1 h.sorted.1
  rcases Nat.lt_trichotomy i j with h1 | h1 | h1
  · have := hp i j hi'.1 hj'.1 h1
    rw [hi'.2, hj'.2] at this
    omega
  · subst h1
    rw [hi] at hj
    exact Option.some.inj hj
  · have := hp j i hj'.1 hi'.1 h1
    rw [hi'.2, hj'.2] at this
    have h2 := cmpLs_anti o.lab q.lab
    omega

/-! The rules. -/
theorem before_iff {l : List It} {os : List GOw} (hT : TInv l os) (hl : ∀ y ∈ l, GoodI y) {i : Nat} {x : It} {o : GOw} {s : GSe} (hx : l[i]? = some x) (ho : o ∈ os) (hox : OfO o.lab x) (hs : s ∈ o.ss) (hst : s.ty = x.r.ty) : ((i : Int) != (s.fi : Int)) = hasI ((twI l).take i) x.fo x.r.ty := by
  obtain ⟨y, hF, _⟩ := hT.set o ho s hs
  have hle : s.fi ≤ i := by
    rcases Nat.lt_or_ge i s.fi with h | h
    · exact absurd ⟨hox, hst.symm⟩ (hF.2.2 i x h hx)
    · exact h
  rw [Bool.eq_iff_iff, hasI_iff hl]
  have hgx := hl x (List.mem_of_getElem? hx)
  constructor
  · intro h
    have hne : s.fi ≠ i := by intro e; rw [e] at h; simp at h
    have hgy := hl y hF.mem
    refine ⟨s.fi, y, by omega, hF.1, ?_, ?_⟩
    · rw [good_fo hgy hgx, cmpLs_eq_right hox]
      exact hF.2.1.1
    · rw [hF.2.1.2, hst]
  · rintro ⟨j, z, hj, hz, h1, h2⟩
    have hgz := hl z (List.mem_of_getElem? hz)
    have hzo : OfS o.lab s.ty z := ⟨by rw [OfO, ← cmpLs_eq_right hox]; exact (good_fo hgz hgx).1 h1, by rw [h2, hst]⟩
    have : s.fi ≤ j := by
      rcases Nat.lt_or_ge j s.fi with h | h
      · exact absurd hzo (hF.2.2 j z h hz)
      · exact h
    rw [bne_iff_ne]
    omega
theorem rule_soa {l : List It} {os : List GOw} (hT : TInv l os) (hl : ∀ y ∈ l, GoodI y) {apex : ByteArray} {al : List ByteArray} (ha : Nm.split apex = some al) (hu : ∀ y ∈ l, isUnderS y.r.own apex = true) {i : Nat} {x : It} {o : GOw} {s : GSe} (hx : l[i]? = some x) (ho : o ∈ os) (hox : OfO o.lab x) (hs : s ∈ o.ss) (hst : s.ty = x.r.ty) :
    (x.r.ty == 6 && (decide (al.length < o.lab.length) || ((i : Int) != (s.fi : Int)))) = ru1 (twI l) (Nm.foldS apex) i x := by
  have hgx := hl x (List.mem_of_getElem? hx)
  have hun : underB (labI x) al = true := by have := hu x (List.mem_of_getElem? hx); rwa [isUnder_some hgx.1 ha] at this
  rw [before_iff hT hl hx ho hox hs hst, ru1, hgx.2.2.2]
  simp only [Bool.not_false, Bool.true_and]
  by_cases h6 : x.r.ty = 6
  · rw [h6]
    simp only [beq_self_eq_true, Bool.true_and, decide_true]
    have hfo : x.fo = Nm.foldS apex ↔ Nm.cmpLs (labI x) al = 0 := by rw [hgx.2.1]; exact fold_lab hgx.1 ha
    have hle : al.length < o.lab.length ↔ x.fo ≠ Nm.foldS apex := by rw [← len_same hox, under_len hun, Ne, Ne, hfo]
    by_cases h : x.fo = Nm.foldS apex
    · rw [← h]
      have h' : ¬ al.length < o.lab.length := fun z => hle.1 z h
      simp [h']
    · have h' : al.length < o.lab.length := hle.2 h
      simp [h', h]
  · simp [h6]
theorem rule_wild {l : List It} {os : List GOw} (hT : TInv l os) (hl : ∀ y ∈ l, GoodI y) {i : Nat} {x : It} {o : GOw} (hx : l[i]? = some x) (ho : o ∈ os) (hox : OfO o.lab x) : ((x.r.ty == 2 || x.r.ty == 39) && wildL o.lab) = ru2 x := by
  have hgx := hl x (List.mem_of_getElem? hx)
  rw [ru2, hgx.2.2.2, hgx.2.1, starB_fold hgx.1, wildL_same hox]
  simp only [Bool.not_false, Bool.true_and]
  rw [Bool.and_comm]
  congr 1
theorem rule_single {l : List It} {os : List GOw} (hT : TInv l os) (hl : ∀ y ∈ l, GoodI y) {i : Nat} {x : It} {o : GOw} {s : GSe} (hx : l[i]? = some x) (ho : o ∈ os) (hox : OfO o.lab x) (hs : s ∈ o.ss) (hst : s.ty = x.r.ty) : ((x.r.ty == 5 || x.r.ty == 39) && ((i : Int) != (s.fi : Int))) = ru3 (twI l) i x := by
  have hgx := hl x (List.mem_of_getElem? hx)
  rw [before_iff hT hl hx ho hox hs hst, ru3, hgx.2.2.2]
  simp only [Bool.not_false, Bool.true_and]
  congr 1
theorem rule_alias {l : List It} {os : List GOw} (hT : TInv l os) (hl : ∀ y ∈ l, GoodI y) {i : Nat} {x : It} {o : GOw} (hx : l[i]? = some x) (ho : o ∈ os) (hox : OfO o.lab x) : (x.r.ty != 5 && x.r.ty != 47 && isIn (sCmp 5) o.ss) = ru4 (twI l) x := by
  have hgx := hl x (List.mem_of_getElem? hx)
  have e : isIn (sCmp 5) o.ss = hasI (twI l) x.fo 5 := by
    rw [Bool.eq_iff_iff, isIn_set (hT.sorted.2 o ho).1, hasI_all hl]
    constructor
    · rintro ⟨s, hs, h1⟩
      obtain ⟨y, hF, _⟩ := hT.set o ho s hs
      refine ⟨y, hF.mem, ?_, by rw [hF.2.1.2, h1]⟩
      rw [good_fo (hl y hF.mem) hgx, cmpLs_eq_right hox]
      exact hF.2.1.1
    · rintro ⟨y, hy, h1, h2⟩
      have h3 : Nm.cmpLs (labI y) o.lab = 0 := by rw [← cmpLs_eq_right hox]; exact (good_fo (hl y hy) hgx).1 h1
      obtain ⟨q, hq, h4, s, hs, h5, _⟩ := hT.cov y hy
      obtain rfl := hT.one ho hq (by rw [← cmpLs_eq_left h3]; exact h4)
      exact ⟨s, hs, by rw [h5, h2]⟩
  rw [e, ru4, hgx.2.2.2]
  simp only [Bool.not_false, Bool.true_and]
  have z : ∀ a b : Int, (a != b) = decide (a ≠ b) := fun a b => by rw [Bool.eq_iff_iff]; simp
  rw [z, z]
theorem rule_below {l : List It} {os : List GOw} (hT : TInv l os) (hl : ∀ y ∈ l, GoodI y) {i : Nat} {x : It} {o : GOw} (hx : l[i]? = some x) (ho : o ∈ os) (hox : OfO o.lab x) (hinj : ∀ q ∈ os, q.blk = o.blk → q = o) : decide (o.blk ∈ (belK os).2.map (·.blk)) = ru5 (twI l) x := by
  have hgx := hl x (List.mem_of_getElem? hx)
  have I := bel_inv os hT.sorted.1
  have h1 : o.blk ∈ (belK os).2.map (·.blk) ↔ o ∈ (belK os).2 := by
    rw [List.mem_map]
    constructor
    · rintro ⟨q, hq, e⟩
      rw [← hinj q (I.sub q hq) e]; exact hq
    · intro h; exact ⟨o, h, rfl⟩
  rw [Bool.eq_iff_iff, decide_eq_true_eq, h1, I.out o ho, ru5, hgx.2.2.2]
  simp only [Bool.not_false, Bool.true_and]
  rw [List.any_eq_true]
  constructor
  · rintro ⟨q, hq, h2, h3, h4⟩
    obtain ⟨s, hs, h5⟩ := (isIn_set (hT.sorted.2 q hq).1 39).1 h2
    obtain ⟨y, hF, _⟩ := hT.set q hq s hs
    have hgy := hl y hF.mem
    have hyq : Nm.cmpLs (labI y) q.lab = 0 := hF.2.1.1
    refine ⟨y, List.mem_of_getElem? (i := s.fi) ?_, ?_⟩
    · rw [twI_get hF.1]
      have hd : dupI (l.take s.fi) y = false := by
        cases hd : dupI (l.take s.fi) y with
        | false => rfl
        | true =>
          exfalso
          rw [dup_iff (fun z hz => hl z (List.mem_of_mem_take hz)) hgy] at hd
          obtain ⟨z, hz, ⟨h6, h7⟩, _⟩ := hd
          obtain ⟨m, hm⟩ := List.getElem?_of_mem hz
          have hml := (List.getElem?_eq_some_iff.1 hm).1
          rw [List.length_take] at hml
          rw [List.getElem?_take_of_lt (by omega)] at hm
          exact hF.2.2 m z (by omega) hm ⟨by rw [OfO, ← cmpLs_eq_right hyq]; exact h6, by rw [h7]; exact hF.2.1.2⟩
      rw [hd]
      simp [outI]
    · have e1 : Nm.cmpLs (labI x) (labI y) = Nm.cmpLs o.lab q.lab := by rw [cmpLs_eq_left hox, cmpLs_eq_right hyq]
      have e2 : y.fo ≠ x.fo := fun e => h3 (by rw [← e1]; exact (good_fo hgx hgy).1 e.symm)
      have e3 : isUnderS x.fo y.fo = true := by rw [hgx.2.1, hgy.2.1, isUnder_fold hgx.1 hgy.1, underB_same hox hyq]; exact h4
      have e4 : y.r.ty = 39 := by rw [hF.2.1.2, h5]
      rw [be5, hgy.2.2.2, e4, e3]
      simp [e2]
  · rintro ⟨z, hz, h2⟩
    obtain ⟨j, hj⟩ := List.getElem?_of_mem hz
    have hjl := (List.getElem?_eq_some_iff.1 hj).1
    rw [twI_len] at hjl
    have hy : l[j]? = some l[j] := List.getElem?_eq_getElem hjl
    rw [twI_get hy] at hj
    obtain rfl := Option.some.inj hj
    have hgy := hl l[j] (List.mem_of_getElem? hy)
    simp only [be5, outI, Bool.and_eq_true] at h2
    obtain ⟨⟨⟨_, h3'⟩, h4'⟩, h5⟩ := h2
    have h3 : l[j].r.ty = 39 := of_decide_eq_true h3'
    have h4 : l[j].fo ≠ x.fo := of_decide_eq_true h4'
    obtain ⟨q, hq, h6, s, hs, h7, _⟩ := hT.cov l[j] (List.mem_of_getElem? hy)
    have h6' : Nm.cmpLs (labI l[j]) q.lab = 0 := h6
    refine ⟨q, hq, (isIn_set (hT.sorted.2 q hq).1 39).2 ⟨s, hs, by rw [h7, h3]⟩, fun e => h4 ?_, ?_⟩
    · refine ((good_fo hgx hgy).2 ?_).symm
      rw [cmpLs_eq_left hox, cmpLs_eq_right h6']
      exact e
    · rw [hgx.2.1, hgy.2.1, isUnder_fold hgx.1 hgy.1, underB_same hox h6'] at h5
      exact h5
end Go.Proofs.YtcamccoaoiobdaaGreat
