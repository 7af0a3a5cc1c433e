import Derived.Test.YtcamccoaoiobdaaGreatBmA
/- What the tree holds of the records that were laid into it: mathematics. -/
namespace Go.Proofs.YtcamccoaoiobdaaGreat
open Go.RowKit
set_option linter.unusedVariables false

def labI (x : It) : List ByteArray := (Nm.split x.r.own).getD []
/-- A record as the rules see it. -/
def GoodI (x : It) : Prop := Nm.split x.r.own = some (labI x) ∧ x.fo = Nm.foldS x.r.own ∧ x.dt = foldR x.r.ty x.r.da ∧ x.out = false
def OfO (lab : List ByteArray) (y : It) : Prop := Nm.cmpLs (labI y) lab = 0
def OfS (lab : List ByteArray) (ty : Int) (y : It) : Prop := OfO lab y ∧ y.r.ty = ty
def OfD (lab : List ByteArray) (ty : Int) (fd : ByteArray) (y : It) : Prop := OfS lab ty y ∧ y.dt = fd
theorem good_fo {x y : It} (hx : GoodI x) (hy : GoodI y) : x.fo = y.fo ↔ Nm.cmpLs (labI x) (labI y) = 0 := by
  rw [hx.2.1, hy.2.1]
  exact fold_lab hx.1 hy.1

/-- What the tree holds of the records l. -/
structure TInv (l : List It) (os : List GOw) : Prop where
  sorted : OwS os ∧ ∀ o ∈ os, SeS o.ss ∧ ∀ s ∈ o.ss, DaS s.da
  len : os.length ≤ l.length ∧ ∀ o ∈ os, o.ss.length ≤ l.length ∧ ∀ s ∈ o.ss, s.da.length ≤ l.length
  own : ∀ o ∈ os, ∃ i x, First (OfO o.lab) l i x ∧ o.nm = x.r.own ∧ o.lab = labI x
  set : ∀ o ∈ os, ∀ s ∈ o.ss, ∃ x, First (OfS o.lab s.ty) l s.fi x ∧ s.tt = x.r.tt
  dat : ∀ o ∈ os, ∀ s ∈ o.ss, ∀ p ∈ s.da, ∃ i x, First (OfD o.lab s.ty p.1) l i x ∧ p.2 = x.r.da
  cov : ∀ x ∈ l, ∃ o ∈ os, OfO o.lab x ∧ ∃ s ∈ o.ss, s.ty = x.r.ty ∧ ∃ p ∈ s.da, p.1 = x.dt
theorem TInv.nil : TInv [] [] := ⟨⟨List.Pairwise.nil, by simp⟩, by simp, by simp, by simp, by simp, by simp⟩
theorem TInv.trs {l : List It} {os : List GOw} (h : TInv l os) (hl : l.length ≤ 400000) : TrS os :=
  ⟨h.sorted.1, fun o ho => ⟨(h.sorted.2 o ho).1, by have := (h.len.2 o ho).1; omega, fun s hs => ⟨(h.sorted.2 o ho).2 s hs, by have := (h.len.2 o ho).2 s hs; omega⟩⟩⟩

theorem pair_mid {α : Type} {R : α → α → Prop} {A C : List α} {x : α} (h : (A ++ C).Pairwise R) (ha : ∀ a ∈ A, R a x) (hc : ∀ c ∈ C, R x c) : (A ++ x :: C).Pairwise R := by
  rw [List.pairwise_append] at h ⊢
  refine ⟨h.1, List.pairwise_cons.2 ⟨hc, h.2.1⟩, fun a hm b hb => ?_⟩
  rcases List.mem_cons.1 hb with rfl | hb
  · exact ha a hm
  · exact h.2.2 a hm b hb
theorem pair_drop {α : Type} {R : α → α → Prop} {A C : List α} {o : α} (h : (A ++ o :: C).Pairwise R) : (A ++ C).Pairwise R := by
  refine h.sublist ?_
  exact List.Sublist.append_left (List.sublist_cons_self o C) A

/-- The tree parted at a record's owner, set and data. -/
structure LayP (own : ByteArray) (lv : Value) (lab : List ByteArray) (ty tt : Int) (at_ : Nat) (fd da : ByteArray) (os os' : List GOw) (o' : GOw) (s' : GSe) (isNew : Bool) : Prop where
  spl : ∃ (A C : List GOw) (o1 : GOw) (A2 C2 : List GSe) (s2 : GSe), os' = A ++ o' :: C ∧ (∀ a ∈ A, Nm.cmpLs a.lab lab < 0) ∧ (∀ c ∈ C, 0 < Nm.cmpLs c.lab lab) ∧
    o'.blk = o1.blk ∧ o'.lab = o1.lab ∧ o'.nm = o1.nm ∧ o'.lv = o1.lv ∧
    ((os = A ++ o1 :: C ∧ Nm.cmpLs o1.lab lab = 0) ∨ (os = A ++ C ∧ o1.lab = lab ∧ o1.nm = own ∧ o1.ss = [] ∧ o1.lv = lv)) ∧
    o'.ss = A2 ++ s' :: C2 ∧ (∀ a ∈ A2, a.ty < ty) ∧ (∀ c ∈ C2, ty < c.ty) ∧ s'.blk = s2.blk ∧ s'.ty = ty ∧ s2.ty = ty ∧ s'.fi = s2.fi ∧ s'.tt = s2.tt ∧
    (o1.ss = A2 ++ s2 :: C2 ∨ (o1.ss = A2 ++ C2 ∧ s2.tt = tt ∧ s2.fi = at_ ∧ s2.da = [])) ∧
    ((isNew = false ∧ s'.da = s2.da ∧ ∃ p ∈ s2.da, p.1 = fd) ∨ (isNew = true ∧ ∃ A3 C3, s2.da = A3 ++ C3 ∧ s'.da = A3 ++ (fd, da) :: C3 ∧ (∀ a ∈ A3, Nm.ordL a.1.data.toList fd.data.toList < 0) ∧ (∀ c ∈ C3, 0 < Nm.ordL c.1.data.toList fd.data.toList)))

theorem layP_of {own : ByteArray} {lv : Value} {lab : List ByteArray} {ty tt : Int} {at_ : Nat} {fd da : ByteArray} {os os' : List GOw} {ob sb : Nat} {isNew : Bool} (hs : OwS os ∧ ∀ o ∈ os, SeS o.ss ∧ ∀ s ∈ o.ss, DaS s.da) (h : LayG own lv lab ty tt at_ fd da os os' ob sb isNew) :
    ∃ o' s', LayP own lv lab ty tt at_ fd da os os' o' s' isNew ∧ o'.blk = ob ∧ s'.blk = sb := by
  obtain ⟨o1, os1, s2, ss2, rv2, rv3, hO, hS, rfl, rfl, hN, hos⟩ := h
  have hss : SeS o1.ss ∧ ∀ s ∈ o1.ss, DaS s.da := by
    rcases hO with ⟨_, _, h1, _⟩ | ⟨_, _, _, _, _, h1⟩
    · exact hs.2 o1 (List.mem_of_getElem? h1)
    · rw [h1]; exact ⟨List.Pairwise.nil, by simp⟩
  have hdd : DaS s2.da := by
    rcases hS with ⟨_, _, h1, _⟩ | ⟨_, _, _, _, _, h1⟩
    · exact hss.2 s2 (List.mem_of_getElem? h1)
    · rw [h1]; exact List.Pairwise.nil
  obtain ⟨s', hs'⟩ : ∃ s' : GSe, s' = { s2 with rv := rv3, da := putF (dCmp fd) (fd, da) s2.da } := ⟨_, rfl⟩
  rw [← hs'] at hos
  have pS : ∃ (A2 C2 : List GSe), ss2.set (posOf (sCmp ty) o1.ss) s' = A2 ++ s' :: C2 ∧ (∀ a ∈ A2, a.ty < ty) ∧ (∀ c ∈ C2, ty < c.ty) ∧ s2.ty = ty ∧ (o1.ss = A2 ++ s2 :: C2 ∨ (o1.ss = A2 ++ C2 ∧ s2.tt = tt ∧ s2.fi = at_ ∧ s2.da = [])) := by
    have gt : ∀ {A : List GSe}, (∀ c ∈ A, 0 < sCmp ty c) → ∀ c ∈ A, ty < c.ty := fun h c hc => by
      have := h c hc
      rw [sCmp] at this
      rcases Int.lt_trichotomy c.ty ty with h1 | h1 | h1
      · rw [Nm.cmpI_lt h1] at this; omega
      · rw [Nm.cmpI_eq h1] at this; omega
      · exact h1
    have lt : ∀ {A : List GSe}, (∀ c ∈ A, sCmp ty c < 0) → ∀ c ∈ A, c.ty < ty := fun h c hc => cmpI_neg.1 (h c hc)
    rcases place_split (f := sCmp ty) hss.1 (sCmp_mono ty) with ⟨hi, A, C, e, hp, ha, hc⟩ | ⟨hi, A, o, C, e, hp, h0, ha, hc⟩
    · rcases hS with ⟨h1, _⟩ | ⟨_, h2, h3, h4, h5, h6⟩
      · rw [hi] at h1; cases h1
      · refine ⟨A, C, ?_, lt ha, gt hc, h3, .inr ⟨e, h4, h5, h6⟩⟩
        rw [h2, hp, e, ins_len, set_len]
    · rcases hS with ⟨_, h2, h3, h4⟩ | ⟨h1, _⟩
      · have e2 : s2 = o := by
          rw [hp, e, List.getElem?_append_right (Nat.le_refl _)] at h3
          simp at h3
          exact h3.symm
        subst e2
        refine ⟨A, C, ?_, lt ha, gt hc, h4, .inl e⟩
        rw [h2, hp, e, set_len]
      · rw [hi] at h1; cases h1
  obtain ⟨A2, C2, e2, hA2, hC2, hty, hcase2⟩ := pS
  rw [e2] at hos
  obtain ⟨o', ho'⟩ : ∃ o' : GOw, o' = { o1 with rv := rv2, ss := A2 ++ s' :: C2 } := ⟨_, rfl⟩
  rw [← ho'] at hos
  have pD : (isNew = false ∧ s'.da = s2.da ∧ ∃ p ∈ s2.da, p.1 = fd) ∨ (isNew = true ∧ ∃ A3 C3, s2.da = A3 ++ C3 ∧ s'.da = A3 ++ (fd, da) :: C3 ∧ (∀ a ∈ A3, Nm.ordL a.1.data.toList fd.data.toList < 0) ∧ (∀ c ∈ C3, 0 < Nm.ordL c.1.data.toList fd.data.toList)) := by
    have e3 : s'.da = putF (dCmp fd) (fd, da) s2.da := by rw [hs']
    rcases place_split (f := dCmp fd) hdd (dCmp_mono fd) with ⟨hi, A, C, e, hp, ha, hc⟩ | ⟨hi, A, o, C, e, hp, h0, ha, hc⟩
    · refine .inr ⟨by rw [hN, hi]; rfl, A, C, e, ?_, ha, hc⟩
      rw [e3, putF, hi, hp]
      simp only [Bool.false_eq_true, if_false]
      rw [e, ins_len]
    · refine .inl ⟨by rw [hN, hi]; rfl, by rw [e3, putF, hi]; rfl, o, by rw [e]; simp, dCmp_zero.1 h0⟩
  refine ⟨o', s', ⟨?_⟩, by rw [ho'], by rw [hs']⟩
  rcases place_split (f := oCmp lab) hs.1 (oCmp_mono lab) with ⟨hi, A, C, e, hp, ha, hc⟩ | ⟨hi, A, o, C, e, hp, h0, ha, hc⟩
  · rcases hO with ⟨h1, _⟩ | ⟨_, h2, h3, h4, h5, h6⟩
    · rw [hi] at h1; cases h1
    · refine ⟨A, C, o1, A2, C2, s2, ?_, ha, hc, by rw [ho'], by rw [ho'], by rw [ho'], by rw [ho'], .inr ⟨e, h3, h5, h6, h4⟩, by rw [ho'], hA2, hC2, by rw [hs'], by rw [hs']; exact hty, hty, by rw [hs'], by rw [hs'], hcase2, pD⟩
      rw [hos, h2, hp, e, ins_len, set_len]
  · rcases hO with ⟨_, h2, h3, h4⟩ | ⟨h1, _⟩
    · have e1 : o1 = o := by
        rw [hp, e, List.getElem?_append_right (Nat.le_refl _)] at h3
        simp at h3
        exact h3.symm
      subst e1
      refine ⟨A, C, o1, A2, C2, s2, ?_, ha, hc, by rw [ho'], by rw [ho'], by rw [ho'], by rw [ho'], .inl ⟨e, h4⟩, by rw [ho'], hA2, hC2, by rw [hs'], by rw [hs']; exact hty, hty, by rw [hs'], by rw [hs'], hcase2, pD⟩
      rw [hos, h2, hp, e, set_len]
    · rw [hi] at h1; cases h1

/-- What a record that is laid makes of it. -/
structure LayR (l : List It) (x : It) (lv : Value) (os os' : List GOw) (o' : GOw) (s' : GSe) (isNew : Bool) : Prop where
  inv : TInv (l ++ [x]) os'
  isOwn : o' ∈ os' ∧ OfO o'.lab x
  isSet : s' ∈ o'.ss ∧ s'.ty = x.r.ty
  nw : isNew = true ↔ ∀ y ∈ l, ¬ OfD (labI x) x.r.ty x.dt y
  kept : ∀ o ∈ os, ∃ q ∈ os', q.blk = o.blk ∧ q.lab = o.lab ∧ q.lv = o.lv ∧ ∀ s ∈ o.ss, ∃ t ∈ q.ss, t.blk = s.blk ∧ t.ty = s.ty
  lvs : ∀ q ∈ os', (∃ o ∈ os, q.lv = o.lv ∧ q.lab = o.lab) ∨ (q.lv = lv ∧ q.lab = labI x)
theorem mem_mid {α : Type} {A C : List α} {x q : α} (h : q ∈ A ++ x :: C) : q = x ∨ q ∈ A ∨ q ∈ C := by
  rcases List.mem_append.1 h with h | h
  · exact .inr (.inl h)
  · rcases List.mem_cons.1 h with h | h
    · exact .inl h
    · exact .inr (.inr h)

theorem lay_r {l : List It} {x : It} {lv : Value} {os os' : List GOw} {o' : GOw} {s' : GSe} {isNew : Bool} (hI : TInv l os) (h : LayP x.r.own lv (labI x) x.r.ty x.r.tt l.length x.dt x.r.da os os' o' s' isNew) : LayR l x lv os os' o' s' isNew := by
  obtain ⟨A, C, o1, A2, C2, s2, eos, hA, hC, eb, el, en, ev, hO, ess, hA2, hC2, sb, st, st2, sf, stt, hS, hD⟩ := h.spl
  have olab : Nm.cmpLs o1.lab (labI x) = 0 := by
    rcases hO with ⟨_, h1⟩ | ⟨_, h1, _⟩
    · exact h1
    · rw [h1]; exact cmpLs_self _
  have isO : ∀ y, OfO o1.lab y ↔ OfO (labI x) y := fun y => by rw [OfO, OfO, cmpLs_eq_right olab]
  have nz : ∀ o, (o ∈ A ∨ o ∈ C) → Nm.cmpLs o.lab (labI x) ≠ 0 := fun o ho => by
    rcases ho with ho | ho
    · have := hA o ho; omega
    · have := hC o ho; omega
  have nt : ∀ s, (s ∈ A2 ∨ s ∈ C2) → s.ty ≠ x.r.ty := fun s hs => by
    rcases hs with hs | hs
    · have := hA2 s hs; omega
    · have := hC2 s hs; omega
  have acO : ∀ o, (o ∈ A ∨ o ∈ C) → o ∈ os := fun o ho => by
    rcases hO with ⟨e, _⟩ | ⟨e, _⟩ <;> rw [e] <;> rcases ho with ho | ho <;> simp [ho]
  have acS : ∀ s, (s ∈ A2 ∨ s ∈ C2) → s ∈ o1.ss := fun s hs => by
    rcases hS with e | ⟨e, _⟩ <;> rw [e] <;> rcases hs with hs | hs <;> simp [hs]
  have o1os : o1.ss ≠ [] → o1 ∈ os := fun hne => by
    rcases hO with ⟨e, _⟩ | ⟨_, _, _, h1, _⟩
    · rw [e]; simp
    · exact absurd h1 hne
  have mne : ∀ {s : GSe}, s ∈ o1.ss → o1 ∈ os := fun hs => o1os (List.ne_nil_of_mem hs)
  have covO : ∀ y ∈ l, OfO (labI x) y → o1 ∈ os ∧ ∃ s ∈ o1.ss, s.ty = y.r.ty ∧ ∃ p ∈ s.da, p.1 = y.dt := by
    intro y hy h1
    obtain ⟨o, ho, h2, s, hs, h3, p, hp, h4⟩ := hI.cov y hy
    have h5 : Nm.cmpLs o.lab (labI x) = 0 := by rw [← cmpLs_eq_left h2]; exact h1
    rcases hO with ⟨e, _⟩ | ⟨e, _⟩
    · rw [e] at ho
      rcases mem_mid ho with rfl | ho
      · exact ⟨by rw [e]; simp, s, hs, h3, p, hp, h4⟩
      · exact absurd h5 (nz o ho)
    · rw [e] at ho
      exact absurd h5 (nz o (List.mem_append.1 ho))
  have covS : ∀ y ∈ l, OfS (labI x) x.r.ty y → o1.ss = A2 ++ s2 :: C2 ∧ ∃ p ∈ s2.da, p.1 = y.dt := by
    intro y hy h1
    obtain ⟨_, s, hs, h3, hp⟩ := covO y hy h1.1
    rw [h1.2] at h3
    rcases hS with e | ⟨e, _⟩
    · rw [e] at hs
      rcases mem_mid hs with rfl | hs
      · exact ⟨e, hp⟩
      · exact absurd h3 (nt s hs)
    · rw [e] at hs
      exact absurd h3 (nt s (List.mem_append.1 hs))
  have covD : ∀ y ∈ l, OfD (labI x) x.r.ty x.dt y → isNew = false := by
    intro y hy h1
    obtain ⟨_, p, hp, h3⟩ := covS y hy h1.1
    rw [h1.2] at h3
    have h0 : Nm.ordL p.1.data.toList x.dt.data.toList = 0 := dCmp_zero.2 h3
    rcases hD with ⟨h4, _⟩ | ⟨_, A3, C3, e, _, ha, hc⟩
    · exact h4
    · rw [e] at hp
      rcases List.mem_append.1 hp with hp | hp
      · have := ha p hp; omega
      · have := hc p hp; omega
  have s2da : s2.da ≠ [] → s2 ∈ o1.ss := fun hne => by
    rcases hS with e | ⟨_, _, _, e⟩
    · rw [e]; simp
    · exact absurd e hne
  have nw : isNew = true ↔ ∀ y ∈ l, ¬ OfD (labI x) x.r.ty x.dt y := by
    constructor
    · intro h1 y hy h2
      rw [covD y hy h2] at h1; cases h1
    · intro h1
      rcases hD with ⟨_, _, p, hp, h3⟩ | ⟨h2, _⟩
      · exfalso
        have hs := s2da (List.ne_nil_of_mem hp)
        obtain ⟨i, y, hy, _⟩ := hI.dat o1 (mne hs) s2 hs p hp
        obtain ⟨⟨z1, z2⟩, z3⟩ := hy.2.1
        exact h1 y hy.mem ⟨⟨(isO y).1 z1, by rw [z2, st2]⟩, by rw [z3, h3]⟩
      · exact h2
  have sub3 : ∀ p ∈ s2.da, p ∈ s'.da := fun p hp => by
    rcases hD with ⟨_, e, _⟩ | ⟨_, A3, C3, e, e', _⟩
    · rw [e]; exact hp
    · rw [e']; rw [e] at hp
      rcases List.mem_append.1 hp with hp | hp <;> simp [hp]
  have xp : ∃ p ∈ s'.da, p.1 = x.dt := by
    rcases hD with ⟨_, e, p, hp, h3⟩ | ⟨_, A3, C3, e, e', _⟩
    · exact ⟨p, by rw [e]; exact hp, h3⟩
    · exact ⟨(x.dt, x.r.da), by rw [e']; simp, rfl⟩
  have o'm : o' ∈ os' := by rw [eos]; simp
  have s'm : s' ∈ o'.ss := by rw [ess]; simp
  have acO' : ∀ o, (o ∈ A ∨ o ∈ C) → o ∈ os' := fun o ho => by rw [eos]; rcases ho with ho | ho <;> simp [ho]
  have acS' : ∀ s, (s ∈ A2 ∨ s ∈ C2) → s ∈ o'.ss := fun s hs => by rw [ess]; rcases hs with hs | hs <;> simp [hs]
  have isOwn : OfO o'.lab x := by rw [OfO, el]; exact cmpLs_symm olab
  have o1so : SeS o1.ss ∧ ∀ s ∈ o1.ss, DaS s.da := by
    rcases hO with ⟨e, _⟩ | ⟨_, _, _, h1, _⟩
    · exact hI.sorted.2 o1 (by rw [e]; simp)
    · rw [h1]; exact ⟨List.Pairwise.nil, by simp⟩
  have s2so : DaS s2.da := by
    rcases hS with e | ⟨_, _, _, e⟩
    · exact o1so.2 s2 (by rw [e]; simp)
    · rw [e]; exact List.Pairwise.nil
  have ow : OwS os' := by
    rw [eos]
    refine pair_mid ?_ (fun a ha => ?_) (fun c hc => ?_)
    · rcases hO with ⟨e, _⟩ | ⟨e, _⟩
      · exact pair_drop (by rw [← e]; exact hI.sorted.1)
      · rw [← e]; exact hI.sorted.1
    · rw [el, cmpLs_eq_right olab]; exact hA a ha
    · rw [el, cmpLs_eq_left olab, cmpLs_anti c.lab]; have := hC c hc; omega
  have se : SeS o'.ss := by
    rw [ess]
    refine pair_mid ?_ (fun a ha => by rw [st]; exact hA2 a ha) (fun c hc => by rw [st]; exact hC2 c hc)
    rcases hS with e | ⟨e, _⟩
    · exact pair_drop (by rw [← e]; exact o1so.1)
    · rw [← e]; exact o1so.1
  have da : DaS s'.da := by
    rcases hD with ⟨_, e, _⟩ | ⟨_, A3, C3, e, e', ha, hc⟩
    · rw [e]; exact s2so
    · rw [e']
      refine pair_mid (by rw [← e]; exact s2so) ha (fun c h1 => ?_)
      rw [ordL_anti c.1.data.toList]
      have := hc c h1
      simp only
      omega
  have l1 : os'.length ≤ os.length + 1 := by
    rw [eos]
    rcases hO with ⟨e, _⟩ | ⟨e, _⟩ <;> rw [e] <;> simp <;> omega
  have l2 : o'.ss.length ≤ o1.ss.length + 1 := by
    rw [ess]
    rcases hS with e | ⟨e, _⟩ <;> rw [e] <;> simp <;> omega
  have l3 : s'.da.length ≤ s2.da.length + 1 := by
    rcases hD with ⟨_, e, _⟩ | ⟨_, A3, C3, e, e', _⟩
    · rw [e]; omega
    · rw [e', e]; simp; omega
  have l4 : o1.ss.length ≤ l.length ∧ ∀ s ∈ o1.ss, s.da.length ≤ l.length := by
    rcases hO with ⟨e, _⟩ | ⟨_, _, _, h1, _⟩
    · exact hI.len.2 o1 (by rw [e]; simp)
    · rw [h1]; simp
  have l5 : s2.da.length ≤ l.length := by
    rcases hS with e | ⟨_, _, _, e⟩
    · exact l4.2 s2 (by rw [e]; simp)
    · rw [e]; simp
  have hll : (l ++ [x]).length = l.length + 1 := by simp
  refine ⟨⟨⟨ow, fun q hq => ?_⟩, ⟨by have := hI.len.1; omega, fun q hq => ?_⟩, fun q hq => ?_, fun q hq s hs => ?_, fun q hq s hs p hp => ?_, fun y hy => ?_⟩, ⟨o'm, isOwn⟩, ⟨s'm, st⟩, nw, fun o ho => ?_, fun q hq => ?_⟩
  · rw [eos] at hq
    rcases mem_mid hq with rfl | hq
    · refine ⟨se, fun s hs => ?_⟩
      rw [ess] at hs
      rcases mem_mid hs with rfl | hs
      · exact da
      · exact o1so.2 s (acS s hs)
    · exact hI.sorted.2 q (acO q hq)
  · rw [eos] at hq
    rcases mem_mid hq with rfl | hq
    · refine ⟨by omega, fun s hs => ?_⟩
      rw [ess] at hs
      rcases mem_mid hs with rfl | hs
      · omega
      · have := l4.2 s (acS s hs); omega
    · have h1 := hI.len.2 q (acO q hq)
      exact ⟨by omega, fun s hs => by have := h1.2 s hs; omega⟩
  · rw [eos] at hq
    rcases mem_mid hq with rfl | hq
    · rcases hO with ⟨e, _⟩ | ⟨e, h1, h2, h3, _⟩
      · obtain ⟨i, y, h1, h2, h3⟩ := hI.own o1 (by rw [e]; simp)
        exact ⟨i, y, by rw [el]; exact h1.snoc x, by rw [en, h2], by rw [el, h3]⟩
      · refine ⟨l.length, x, First.new (fun y hy h4 => ?_) isOwn, by rw [en, h2], by rw [el, h1]⟩
        rw [el, isO] at h4
        obtain ⟨_, s, hs, _⟩ := covO y hy h4
        rw [h3] at hs
        cases hs
    · obtain ⟨i, y, h1, h2⟩ := hI.own q (acO q hq)
      exact ⟨i, y, h1.snoc x, h2⟩
  · rw [eos] at hq
    rcases mem_mid hq with rfl | hq
    · rw [ess] at hs
      rcases mem_mid hs with rfl | hs
      · rcases hS with e | ⟨e, h1, h2, h3⟩
        · have hm : s2 ∈ o1.ss := by rw [e]; simp
          obtain ⟨y, h1, h2⟩ := hI.set o1 (mne hm) s2 hm
          exact ⟨y, by rw [el, st, sf, ← st2]; exact h1.snoc x, by rw [stt, h2]⟩
        · refine ⟨x, ?_, by rw [stt, h1]⟩
          rw [sf, h2]
          refine First.new (fun y hy h4 => ?_) ⟨isOwn, st.symm⟩
          rw [el, st] at h4
          have h5 := (covS y hy ⟨(isO y).1 h4.1, h4.2⟩).1
          rw [e] at h5
          have h6 : s2 ∈ A2 ++ C2 := by rw [h5]; simp
          exact nt s2 (List.mem_append.1 h6) st2
      · obtain ⟨y, h1, h2⟩ := hI.set o1 (mne (acS s hs)) s (acS s hs)
        exact ⟨y, by rw [el]; exact h1.snoc x, h2⟩
    · obtain ⟨y, h1, h2⟩ := hI.set q (acO q hq) s hs
      exact ⟨y, h1.snoc x, h2⟩
  · rw [eos] at hq
    rcases mem_mid hq with rfl | hq
    · rw [ess] at hs
      rcases mem_mid hs with rfl | hs
      · have hcase : p ∈ s2.da ∨ (isNew = true ∧ p = (x.dt, x.r.da)) := by
          rcases hD with ⟨_, e, _⟩ | ⟨h1, A3, C3, e, e', _⟩
          · rw [e] at hp; exact .inl hp
          · rw [e'] at hp
            rcases mem_mid hp with h2 | h2
            · exact .inr ⟨h1, h2⟩
            · rw [e]; exact .inl (List.mem_append.2 h2)
        rcases hcase with hp | ⟨h1, rfl⟩
        · have hm := s2da (List.ne_nil_of_mem hp)
          obtain ⟨i, y, h1, h2⟩ := hI.dat o1 (mne hm) s2 hm p hp
          exact ⟨i, y, by rw [el, st, ← st2]; exact h1.snoc x, h2⟩
        · refine ⟨l.length, x, First.new (fun y hy h4 => ?_) ⟨⟨isOwn, st.symm⟩, rfl⟩, rfl⟩
          rw [el, st] at h4
          exact nw.1 h1 y hy ⟨⟨(isO y).1 h4.1.1, h4.1.2⟩, h4.2⟩
      · obtain ⟨i, y, h1, h2⟩ := hI.dat o1 (mne (acS s hs)) s (acS s hs) p hp
        exact ⟨i, y, by rw [el]; exact h1.snoc x, h2⟩
    · obtain ⟨i, y, h1, h2⟩ := hI.dat q (acO q hq) s hs p hp
      exact ⟨i, y, h1.snoc x, h2⟩
  · rcases List.mem_append.1 hy with hy | hy
    · obtain ⟨o, ho, h2, s, hs, h3, p, hp, h4⟩ := hI.cov y hy
      by_cases hoo : Nm.cmpLs o.lab (labI x) = 0
      · have h5 : OfO (labI x) y := by rw [OfO, cmpLs_eq_left h2]; exact hoo
        obtain ⟨hm, s, hs, h3, p, hp, h4⟩ := covO y hy h5
        refine ⟨o', o'm, by rw [el]; exact (isO y).2 h5, ?_⟩
        rcases hS with e | ⟨e, _⟩
        · rw [e] at hs
          rcases mem_mid hs with rfl | hs
          · exact ⟨s', s'm, by rw [st, ← st2, h3], p, sub3 p hp, h4⟩
          · exact ⟨s, acS' s hs, h3, p, hp, h4⟩
        · rw [e] at hs
          exact ⟨s, acS' s (List.mem_append.1 hs), h3, p, hp, h4⟩
      · have hm : o ∈ A ∨ o ∈ C := by
          rcases hO with ⟨e, _⟩ | ⟨e, _⟩
          · rw [e] at ho
            rcases mem_mid ho with rfl | ho
            · exact absurd olab hoo
            · exact ho
          · rw [e] at ho; exact List.mem_append.1 ho
        exact ⟨o, acO' o hm, h2, s, hs, h3, p, hp, h4⟩
    · obtain rfl := List.mem_singleton.1 hy
      obtain ⟨p, hp, h1⟩ := xp
      exact ⟨o', o'm, isOwn, s', s'm, st, p, hp, h1⟩
  · have hm : o = o1 ∨ o ∈ A ∨ o ∈ C := by
      rcases hO with ⟨e, _⟩ | ⟨e, _⟩
      · rw [e] at ho; exact mem_mid ho
      · rw [e] at ho; exact .inr (List.mem_append.1 ho)
    rcases hm with rfl | hm
    · refine ⟨o', o'm, eb, el, ev, fun s hs => ?_⟩
      have hm2 : s = s2 ∨ s ∈ A2 ∨ s ∈ C2 := by
        rcases hS with e | ⟨e, _⟩
        · rw [e] at hs; exact mem_mid hs
        · rw [e] at hs; exact .inr (List.mem_append.1 hs)
      rcases hm2 with rfl | hm2
      · exact ⟨s', s'm, sb, by rw [st, st2]⟩
      · exact ⟨s, acS' s hm2, rfl, rfl⟩
    · exact ⟨o, acO' o hm, rfl, rfl, rfl, fun s hs => ⟨s, hs, rfl, rfl⟩⟩
  · rw [eos] at hq
    rcases mem_mid hq with rfl | hq
    · rcases hO with ⟨e, _⟩ | ⟨_, h1, _, _, h2⟩
      · exact .inl ⟨o1, by rw [e]; simp, ev, el⟩
      · exact .inr ⟨by rw [ev, h2], by rw [el, h1]⟩
    · exact .inl ⟨q, acO q hq, rfl, rfl⟩
end Go.Proofs.YtcamccoaoiobdaaGreat
