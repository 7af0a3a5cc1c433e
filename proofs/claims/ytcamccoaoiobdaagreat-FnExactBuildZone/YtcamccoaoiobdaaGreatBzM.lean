import Derived.Test.YtcamccoaoiobdaaGreatBzK
import Derived.Test.YtcamccoaoiobdaaGreatJBmE
/- The builder while it lays its records: what lies where. -/
namespace Go.Proofs.YtcamccoaoiobdaaGreat
open Go.RowKit
set_option linter.unusedVariables false

def trTys : List TypeId := [114, 170, 173, 92, 132, 134, 125, 127]
/-- What type the block has. -/
def TyAt (W : World) (b : Nat) (ts : List TypeId) : Prop := ∃ cs T r, W.heap[b]? = some (.cells cs T r) ∧ T ∈ ts
theorem ty_blk {W : World} {b : Nat} {cs : Array Value} {T : TypeId} {ts : List TypeId} (h : Blk W b cs T) (hT : T ∈ ts) : TyAt W b ts := ⟨cs, T, _, h, hT⟩
theorem ty_own {W : World} {B e s n : Nat} {v : Value} {xs : List Value} {ts : List TypeId} (h : W.ownsRow B e s v n xs) (hT : e ∈ ts) : ∀ b ∈ v.ownBlock.toList, TyAt W b ts := by
  intro b hb
  rcases h.2 with ⟨rfl, _⟩ | ⟨q, cap, cur, rfl, _, hh, _⟩
  · simp [Value.ownBlock] at hb
  · simp [Value.ownBlock] at hb
    subst hb
    exact ⟨_, _, _, hh, hT⟩
theorem TrAt.types {W : World} {B th : Nat} {rv : Value} {os : List GOw} (h : TrAt W B th rv os) : ∀ b ∈ fpT th rv os, TyAt W b trTys := by
  intro b hb
  simp only [fpT, List.mem_cons, List.mem_append, List.mem_flatMap] at hb
  rcases hb with rfl | hb | ⟨o, ho, hb⟩
  · exact ty_blk h.head (by decide)
  · exact ty_own h.rows (by decide) b hb
  · have ow := h.owners o ho
    simp only [fpO, List.mem_cons, List.mem_append, List.mem_flatMap] at hb
    rcases hb with rfl | rfl | hb | ⟨s, hs, hb⟩
    · exact ty_blk ow.node (by decide)
    · exact ty_blk ow.head (by decide)
    · exact ty_own ow.rows (by decide) b hb
    · have sw := ow.sets s hs
      simp only [fpS, List.mem_cons] at hb
      rcases hb with rfl | rfl | hb
      · exact ty_blk sw.node (by decide)
      · exact ty_blk sw.head (by decide)
      · exact ty_own sw.rows (by decide) b hb
theorem own_out {W : World} {B e s n : Nat} {v : Value} {xs : List Value} {ts : List TypeId} {b : Nat} (h : W.ownsRow B e s v n xs) (ht : TyAt W b ts) (hT : e ∉ ts) : b ∉ v.ownBlock.toList := by
  intro hb
  obtain ⟨cs, T, r, h1, h2⟩ := ht
  rcases h.2 with ⟨rfl, _⟩ | ⟨q, cap, cur, rfl, _, hh, _⟩
  · simp [Value.ownBlock] at hb
  · simp [Value.ownBlock] at hb
    subst hb
    rw [hh] at h1
    cases h1
    exact hT h2
theorem blk_out {W : World} {b c : Nat} {cs : Array Value} {T : TypeId} {ts : List TypeId} (h : Blk W c cs T) (ht : TyAt W b ts) (hT : T ∉ ts) : b ≠ c := by
  rintro rfl
  obtain ⟨cs', T', r, h1, h2⟩ := ht
  rw [Blk] at h
  rw [h] at h1
  cases h1
  exact hT h2
theorem own_outs {fp : List Nat} {W W' : World} {B e s n : Nat} {v : Value} {xs : List Value} (h : W.ownsRow B e s v n xs) (ho : Outs fp W W') (hn : ∀ b ∈ fp, b ∉ v.ownBlock.toList) : W'.ownsRow B e s v n xs :=
  own_keep h (fun b hb => ho.block b (own_lt h b hb) (fun hm => hn b hm hb))
theorem blk_outs {fp : List Nat} {W W' : World} {b : Nat} {cs : Array Value} {T : TypeId} (h : Blk W b cs T) (ho : Outs fp W W') (hn : b ∉ fp) : Blk W' b cs T := blk_keep h (ho.block b (blk_lt h) hn)
theorem rowBlk_own {W : World} {B e s n : Nat} {v : Value} {xs : List Value} (h : W.ownsRow B e s v n xs) {b : Nat} (hb : rowBlk v = some b) : b ∈ v.ownBlock.toList := by
  rcases h.2 with ⟨rfl, _⟩ | ⟨q, cap, cur, rfl, _, hh, _⟩
  · cases hb
  · simp [rowBlk] at hb
    simp [Value.ownBlock, hb]

/-- The tree and what is kept. -/
structure BSt (B : Nat) (W : World) (th : Nat) (its : List It) (rv : Value) (os : List GOw) (kv : Value) (ks : List Ld) : Prop where
  tr : TrAt W B th rv os
  inv : TInv its os
  kin : KInv its os ks
  kept : W.ownsRow B 109 4 kv ks.length (ldVs ks)
  lab : LabAt W (fpT th rv os) os
  fpl : ∀ b ∈ fpT th rv os, b = th ∨ B ≤ b
  lty : ∀ o ∈ os, o.lab ≠ [] → ∀ b, rowBlk o.lv = some b → TyAt W b [9]
theorem ty_keep {W W' : World} {b : Nat} {ts : List TypeId} (h : TyAt W b ts) (he : W'.heap[b]? = W.heap[b]?) : TyAt W' b ts := by
  obtain ⟨cs, T, r, h1, h2⟩ := h
  exact ⟨cs, T, r, he.trans h1, h2⟩
theorem BSt.nil {B th : Nat} {W : World} (h : Blk W th #[cmpLv, .slice none 0 0] 125) : BSt B W th [] (.slice none 0 0) [] (.slice none 0 0) [] :=
  ⟨⟨h, World.ownsRow_nil _ _ _ _, by simp, by simp [fpT, Value.ownBlock]⟩, TInv.nil, KInv.nil, World.ownsRow_nil _ _ _ _, by simp [LabAt], by simp [fpT, Value.ownBlock], by simp⟩
/-- Whatever touches none of its blocks. -/
theorem BSt.outs {B th : Nat} {W W' : World} {its : List It} {rv kv : Value} {os : List GOw} {ks : List Ld} {fp : List Nat} (h : BSt B W th its rv os kv ks) (ho : Outs fp W W') (h1 : ∀ b ∈ fp, b ∉ fpT th rv os) (h2 : ∀ b ∈ fp, b ∉ kv.ownBlock.toList)
    (h3 : ∀ o ∈ os, ∀ b ∈ fp, rowBlk o.lv ≠ some b) : BSt B W' th its rv os kv ks := by
  refine ⟨h.tr.keep (fun b hb => ho.block b (h.tr.lt b hb) (fun hm => h1 b hm hb)), h.inv, h.kin, own_outs h.kept ho h2, fun o hm => ?_, h.fpl, fun o hm hne b hb => ty_keep (h.lty o hm hne b hb) (ho.block b ((h.lab o hm).far hne b hb).2 (fun hf => h3 o hm b hf hb))⟩
  have hl := h.lab o hm
  refine ⟨srow_keep hl.row (fun hne b hb => ho.block b (hl.far hne b hb).2 (fun hf => h3 o hm b hf hb)), fun hne b hb => ⟨(hl.far hne b hb).1, Nat.lt_of_lt_of_le (hl.far hne b hb).2 ho.size⟩, hl.fit⟩
theorem BSt.below {B th : Nat} {W W' : World} {its : List It} {rv kv : Value} {os : List GOw} {ks : List Ld} (h : BSt B W th its rv os kv ks) (hb : Below W.heap.size W W') : BSt B W' th its rv os kv ks :=
  h.outs (Outs.below (fp := []) hb) (by simp) (by simp) (by simp)

/-- A record has been laid. -/
structure LaidR (B N : Nat) (W W' : World) (th : Nat) (its : List It) (x : It) (rv rv' : Value) (os os' : List GOw) (kv : Value) (ks : List Ld) (ob sb : Nat) (isNew : Bool) : Prop where
  tr : TrAt W' B th rv' os'
  inv : TInv (its ++ [x]) os'
  kin : KInv (its ++ [x]) os' (if isNew = true then ks ++ [⟨its.length, x.r.ty, ob, sb⟩] else ks)
  kept : W'.ownsRow B 109 4 kv ks.length (ldVs ks)
  lab : LabAt W' (fpT th rv' os') os'
  fpl : ∀ b ∈ fpT th rv' os', b = th ∨ B ≤ b
  sbm : sb ∈ fpT th rv' os'
  lvb : ∀ o ∈ os', o.lab ≠ [] → ∀ b, rowBlk o.lv = some b → b < N
  lty : ∀ o ∈ os', o.lab ≠ [] → ∀ b, rowBlk o.lv = some b → TyAt W' b [9]
  tt : ∃ tt : Int, W'.cell? ⟨sb, 0, none⟩ = some (.int .i64 tt) ∧ mixI its x = decide (tt ≠ x.r.tt)
theorem laid_r {B N th at_ : Nat} {W W' : World} {its : List It} {x : It} {lv : Value} {rv rv' kv : Value} {os os' : List GOw} {ks : List Ld} {ob sb : Nat} {isNew : Bool} (h : BSt B W th its rv os kv ks) (hB : B ≤ W.heap.size) (hg : ∀ y ∈ its, GoodI y) (hx : GoodI x) (hat : at_ = its.length)
    (hL : LayG x.r.own lv (labI x) x.r.ty x.r.tt at_ x.dt x.r.da os os' ob sb isNew) (hT : TrAt W' B th rv' os') (ho : Outs (fpT th rv os) W W') (hf : ∀ b ∈ fpT th rv' os', b ∈ fpT th rv os ∨ W.heap.size ≤ b)
    (hlv : LabOK W (fpT th rv os) lv (labI x)) (hN1 : ∀ o ∈ os, o.lab ≠ [] → ∀ b, rowBlk o.lv = some b → b < N) (hN2 : labI x ≠ [] → ∀ b, rowBlk lv = some b → b < N) (hT2 : labI x ≠ [] → ∀ b, rowBlk lv = some b → TyAt W b [9]) : LaidR B N W W' th its x rv rv' os os' kv ks ob sb isNew := by
  subst hat
  obtain ⟨o', s', hP, eo, es⟩ := layP_of h.inv.sorted hL
  have hR := lay_r h.inv hP
  refine ⟨hT, hR.inv, by rw [← eo, ← es]; exact h.kin.step hg hx hR, own_outs h.kept ho (fun b hb => own_out h.kept (h.tr.types b hb) (by decide)), fun q hq => ?_, fun b hb => ?_, ?_, fun q hq => ?_, fun q hq => ?_, ?_⟩
  · rcases hR.lvs q hq with ⟨o, hm, e1, e2⟩ | ⟨e1, e2⟩
    · have := (h.lab o hm).outs ho hf
      rw [e1, e2]; exact this
    · have := hlv.outs ho hf
      rw [e1, e2]; exact this
  · rcases hf b hb with h1 | h1
    · exact h.fpl b h1
    · exact .inr (by omega)
  · rw [← es]
    simp only [fpT, fpO, fpS, List.mem_cons, List.mem_append, List.mem_flatMap]
    exact .inr (.inr ⟨o', hR.isOwn.1, .inr (.inr (.inr ⟨s', hR.isSet.1, .inl rfl⟩))⟩)
  · rcases hR.lvs q hq with ⟨o, hm, e1, e2⟩ | ⟨e1, e2⟩
    · rw [e1, e2]; exact hN1 o hm
    · rw [e1, e2]; exact hN2
  · rcases hR.lvs q hq with ⟨o, hm, e1, e2⟩ | ⟨e1, e2⟩
    · rw [e1, e2]
      intro hne b hb
      exact ty_keep (h.lty o hm hne b hb) (ho.block b ((h.lab o hm).far hne b hb).2 ((h.lab o hm).far hne b hb).1)
    · rw [e1, e2]
      intro hne b hb
      exact ty_keep (hT2 hne b hb) (ho.block b (hlv.far hne b hb).2 (hlv.far hne b hb).1)
  · have sw := (hT.owners o' hR.isOwn.1).sets s' hR.isSet.1
    refine ⟨s'.tt, by rw [← es]; exact (blk_cell sw.node 0).trans rfl, ?_⟩
    obtain ⟨y, hF, ht⟩ := hR.inv.set o' hR.isOwn.1 s' hR.isSet.1
    have hox : Nm.cmpLs (labI x) o'.lab = 0 := hR.isOwn.2
    have hkin : ∀ z ∈ its, (kinB x z = true ↔ OfS o'.lab s'.ty z) := fun z hz => by
      rw [kin_of hx (hg z hz), hR.isSet.2, OfS, OfS, OfO, OfO, cmpLs_eq_right hox]
    by_cases hfi : s'.fi < its.length
    · have hy : its[s'.fi]? = some y := by have := hF.1; rwa [List.getElem?_append_left hfi] at this
      have hfind := find_take_at (l := its) (p := kinB x) (k := its.length) hfi hy ((hkin y (List.mem_of_getElem? hy)).2 hF.2.1) (fun j z hj hz => by
        cases hb : kinB x z with
        | false => rfl
        | true =>
          exfalso
          exact hF.2.2 j z hj (by rw [List.getElem?_append_left (by omega)]; exact hz) ((hkin z (List.mem_of_getElem? hz)).1 hb))
      rw [List.take_length] at hfind
      rw [mixI, hfind, ht]
    · have hlt := hF.lt
      have e : s'.fi = its.length := by rw [List.length_append, List.length_singleton] at hlt; omega
      have hy : y = x := by
        have h1 := hF.1
        rw [e, List.getElem?_append_right (Nat.le_refl _)] at h1
        simp at h1
        exact h1.symm
      have hno : its.find? (kinB x) = none := by
        have := find_take_no (l := its) (p := kinB x) (k := its.length) (fun j z hj hz => by
          cases hb : kinB x z with
          | false => rfl
          | true =>
            exfalso
            exact hF.2.2 j z (by omega) (by rw [List.getElem?_append_left hj]; exact hz) ((hkin z (List.mem_of_getElem? hz)).1 hb))
        rwa [List.take_length] at this
      rw [mixI, hno, ht, hy]
      simp
end Go.Proofs.YtcamccoaoiobdaaGreat
