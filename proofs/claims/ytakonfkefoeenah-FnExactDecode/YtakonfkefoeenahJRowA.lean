import Derived.Test.YtakonfkefoeenahLst
import Derived.Test.YtakonfkefoeenahJDataM
import Derived.Test.YtakonfkefoeenahRd11
import Derived.Maps.AppendAt
import Derived.Deep.RegionHeld
import Derived.Test.YtakonfkefoeenahRows
/- Rows that lie apart. -/
namespace Go.Proofs.Ytakonfkefoeenah
open Go.RowKit
set_option linter.unusedVariables false

theorem row_blk {W : World} {B e s m b : Nat} {v : Value} {xs : List Value} {cs : Array Value} {T : TypeId} (h : W.ownsRow B e s v m xs) (hb : Blk W b cs T) (hne : e ≠ T) : v.ownBlock ≠ some b := by
  rcases h.2 with ⟨rfl, _⟩ | ⟨g', cap', cur, rfl, _, hh, _⟩
  · simp [Value.ownBlock]
  · simp only [Value.ownBlock, ne_eq, Option.some.injEq]
    intro e2
    subst e2
    unfold Blk at hb
    rw [hh] at hb
    simp at hb
    exact hne hb.2

theorem row_apart {W W1 : World} {B e s m : Nat} {v u : Value} {xs : List Value} (h : W.ownsRow B e s v m xs) (hg : W.grownBy W1 u.ownBlock) (ha : Apart u v) : W1.ownsRow B e s v m xs := by
  refine h.kept hg ?_
  cases hu : u.ownBlock with
  | none =>
    cases hv : v.ownBlock with
    | none => exact .inl rfl
    | some k => right; simp
  | some k => right; exact ha k hu

end Go.Proofs.Ytakonfkefoeenah
/- The lists of a message, one entry behind the other: mathematics. -/
namespace Go.Proofs.Ytakonfkefoeenah

/-- How many entries list k has. -/
def cntK (l : List UInt8) (k : Nat) : Nat := if k = 1 then n16 l 6 else if k = 2 then n16 l 8 else if k = 3 then n16 l 10 else 0

def cont4 (l : List UInt8) (pos : Nat) (m : Mm) : Rs Mm := if pos < l.length then .bad 10 else .ok m pos
def cont3 (l : List UInt8) (c pos : Nat) (m : Mm) : Rs Mm :=
  match manyS (rrS l) c pos m.ex with
  | .inl c => .bad c
  | .inr (x, p) => cont4 l p ⟨m.qs, m.an, m.au, x⟩
def cont2 (l : List UInt8) (c pos : Nat) (m : Mm) : Rs Mm :=
  match manyS (rrS l) c pos m.au with
  | .inl c => .bad c
  | .inr (x, p) => cont3 l (n16 l 10) p ⟨m.qs, m.an, x, m.ex⟩
def cont1 (l : List UInt8) (c pos : Nat) (m : Mm) : Rs Mm :=
  match manyS (rrS l) c pos m.an with
  | .inl c => .bad c
  | .inr (x, p) => cont2 l (n16 l 8) p ⟨m.qs, x, m.au, m.ex⟩

/-- What is left to be read: c entries of list k from a place on, and the lists behind it. -/
def contK (l : List UInt8) (k c pos : Nat) (m : Mm) : Rs Mm := if k = 1 then cont1 l c pos m else if k = 2 then cont2 l c pos m else if k = 3 then cont3 l c pos m else cont4 l pos m

/-- An entry more in list k. -/
def addK (m : Mm) (k : Nat) (r : Rm) : Mm := if k = 1 then ⟨m.qs, m.an ++ [r], m.au, m.ex⟩ else if k = 2 then ⟨m.qs, m.an, m.au ++ [r], m.ex⟩ else ⟨m.qs, m.an, m.au, m.ex ++ [r]⟩

theorem listsS_cont {l : List UInt8} {qs : List Qm} {p : Nat} (h : manyS (quS l) (n16 l 4) 12 [] = .ok qs p) : listsS l = contK l 1 (cntK l 1) p ⟨qs, [], [], []⟩ := by
  rw [listsS, h, contK, if_pos rfl, cntK, if_pos rfl, cont1]
  simp only
  cases manyS (rrS l) (n16 l 6) p [] using Rs.elim with
  | bad c => rfl
  | ok an p2 =>
    simp only
    rw [cont2]
    simp only
    cases manyS (rrS l) (n16 l 8) p2 [] using Rs.elim with
    | bad c => rfl
    | ok au p3 =>
      simp only
      rw [cont3]
      simp only
      cases manyS (rrS l) (n16 l 10) p3 [] using Rs.elim with
      | bad c => rfl
      | ok ex p4 => rfl

theorem contK_zero {l : List UInt8} {k pos : Nat} {m : Mm} (h1 : 1 ≤ k) (h3 : k ≤ 3) : contK l k 0 pos m = contK l (k + 1) (cntK l (k + 1)) pos m := by
  have : k = 1 ∨ k = 2 ∨ k = 3 := by omega
  rcases this with rfl | rfl | rfl
  · simp [contK, cont1, manyS, cntK]
  · simp [contK, cont2, manyS, cntK]
  · simp [contK, cont3, manyS]

theorem contK_bad {l : List UInt8} {k c pos : Nat} {m : Mm} {code : Int} (h1 : 1 ≤ k) (h3 : k ≤ 3) (h : rrS l pos = .bad code) : contK l k (c + 1) pos m = .bad code := by
  have : k = 1 ∨ k = 2 ∨ k = 3 := by omega
  rcases this with rfl | rfl | rfl
  · simp [contK, cont1, manyS, h]
  · simp [contK, cont2, manyS, h]
  · simp [contK, cont3, manyS, h]

theorem contK_ok {l : List UInt8} {k c pos q : Nat} {m : Mm} {r : Rm} (h1 : 1 ≤ k) (h3 : k ≤ 3) (h : rrS l pos = .ok r q) : contK l k (c + 1) pos m = contK l k c q (addK m k r) := by
  have : k = 1 ∨ k = 2 ∨ k = 3 := by omega
  rcases this with rfl | rfl | rfl
  · simp [contK, cont1, manyS, h, addK]
  · simp [contK, cont2, manyS, h, addK]
  · simp [contK, cont3, manyS, h, addK]

theorem contK_end {l : List UInt8} {c pos : Nat} {m : Mm} : contK l 4 c pos m = if pos < l.length then .bad 10 else .ok m pos := rfl

theorem rrS_place {l : List UInt8} {p q : Nat} {r : Rm} (h : rrS l p = .ok r q) : q ≤ l.length := by
  rw [rrS] at h
  split at h
  · cases h
  · split at h
    · split at h
      · split at h
        · cases h
        · cases h; assumption
      · cases h
    · cases h
end Go.Proofs.Ytakonfkefoeenah
/- A message's lists: one more entry. -/
namespace Go.Proofs.Ytakonfkefoeenah
open Go.RowKit
set_option linter.unusedVariables false

theorem row_other {W W1 : World} {B e s m e' s' m' B' : Nat} {v u : Value} {xs ys : List Value} (h : W.ownsRow B e s v m xs) (hu : W.ownsRow B' e' s' u m' ys) (hne : e ≠ e') (hg : W.grownBy W1 u.ownBlock) : W1.ownsRow B e s v m xs := own_apart h hu hne hg

theorem apart_after {W : World} {B e s m : Nat} {v v' u : Value} {ys : List Value} (hat : v'.ownBlock = v.ownBlock ∨ v'.ownBlock = some W.heap.size) (ha : Apart v u) (hu : W.ownsRow B e s u m ys) : Apart v' u := by
  intro k hk hk2
  rcases hat with h | h
  · exact ha k (by rw [← h]; exact hk) hk2
  · rw [h] at hk
    have := (hu.lt k hk2).2
    simp only [Option.some.injEq] at hk
    omega
theorem apart_symm {u v : Value} (h : Apart u v) : Apart v u := fun k h1 h2 => h k h2 h1

theorem Lists.app1 {W W1 : World} {B : Nat} {m : Mm} {q x y z x' : Value} {r : Rm} (h : Lists W B m q x y z) (ho : W1.ownsRow B 58 5 x' (m.an.length + 1) (rrCs (m.an ++ [r]))) (hg : W.grownBy W1 x.ownBlock) (hat : x'.ownBlock = x.ownBlock ∨ x'.ownBlock = some W.heap.size) : Lists W1 B ⟨m.qs, m.an ++ [r], m.au, m.ex⟩ q x' y z :=
  ⟨own_apart h.rq h.ra (by decide) hg, by simpa using ho, row_apart h.ru hg h.au, row_apart h.rx hg h.ax, apart_after hat h.au h.ru, apart_after hat h.ax h.rx, h.ux⟩
theorem Lists.app2 {W W1 : World} {B : Nat} {m : Mm} {q x y z y' : Value} {r : Rm} (h : Lists W B m q x y z) (ho : W1.ownsRow B 58 5 y' (m.au.length + 1) (rrCs (m.au ++ [r]))) (hg : W.grownBy W1 y.ownBlock) (hat : y'.ownBlock = y.ownBlock ∨ y'.ownBlock = some W.heap.size) : Lists W1 B ⟨m.qs, m.an, m.au ++ [r], m.ex⟩ q x y' z :=
  ⟨own_apart h.rq h.ru (by decide) hg, row_apart h.ra hg (apart_symm h.au), by simpa using ho, row_apart h.rx hg h.ux, apart_symm (apart_after hat (apart_symm h.au) h.ra), h.ax, apart_after hat h.ux h.rx⟩
theorem Lists.app3 {W W1 : World} {B : Nat} {m : Mm} {q x y z z' : Value} {r : Rm} (h : Lists W B m q x y z) (ho : W1.ownsRow B 58 5 z' (m.ex.length + 1) (rrCs (m.ex ++ [r]))) (hg : W.grownBy W1 z.ownBlock) (hat : z'.ownBlock = z.ownBlock ∨ z'.ownBlock = some W.heap.size) : Lists W1 B ⟨m.qs, m.an, m.au, m.ex ++ [r]⟩ q x y z' :=
  ⟨own_apart h.rq h.rx (by decide) hg, row_apart h.ra hg (apart_symm h.ax), row_apart h.ru hg (apart_symm h.ux), by simpa using ho, h.au, apart_symm (apart_after hat (apart_symm h.ax) h.ra), apart_symm (apart_after hat (apart_symm h.ux) h.ru)⟩

/-- A field of the message's variable is set: the lists stand. -/
theorem lists_field {b B i : Nat} {m : Mm} {q x y z v : Value} {W : World} {cs : Array Value} (h : Lists W B m q x y z) (hb : Blk W b cs 28) : Lists (W.setCell ⟨b, i, none⟩ v) B m q x y z := lists_setAll h hb [v] i

theorem cell_new5 (w : World) (vs : List Value) (e : Nat) : ∀ (j : Nat) (u : Value), vs[j]? = some u → (w.alloc (.cells vs.toArray e)).cell? ((⟨w.heap.size, 0, none⟩ : Addr).add j) = some u := cell_newL w vs e
end Go.Proofs.Ytakonfkefoeenah
/- A region whose last operation, a store, may break what is held: everything else waits for nothing of it. -/
namespace Go.Proofs.Ytakonfkefoeenah
open Go

section
variable {P : Program} {ops : Array Oper} {Q : Exit → Act → World → Prop} {md : Region.Mode} {S : World → Prop} {L : Nat}

/-- Whatever order is picked from here on, and S holds behind every operation but number L. -/
def wpAnyL (P : Program) (md : Region.Mode) (ops : Array Oper) (Q : Exit → Act → World → Prop) (S : World → Prop) (L : Nat) : Nat → Array Bool → Act → World → Prop
  | 0, listed, a, w => Region.ready md ops listed = [] ∧ Q .normal a w
  | fuel + 1, listed, a, w =>
    (Region.ready md ops listed = [] → Q .normal a w) ∧
    ∀ i ∈ Region.ready md ops listed, wpOp P ops Q i (fun a' w' => (i = L ∨ S w') ∧ wpAnyL P md ops Q S L fuel (listed.setIfInBounds i true) a' w') a w

theorem wpAny_of_last : ∀ (fuel : Nat) (listed : Array Bool) (a : Act) (w : World), wpAnyL P md ops Q S L fuel listed a w → wpAny P md ops Q fuel listed a w
  | 0, _, _, _, h => h
  | fuel + 1, _, _, _, h => ⟨h.1, fun i hi => wpOp_mono (fun a' w' h' => wpAny_of_last fuel _ a' w' h'.2) (h.2 i hi)⟩

/-- Number L waits for number i. -/
def waitsFor (md : Region.Mode) (ops : Array Oper) (L i : Nat) : Bool := match ops[L]? with
  | some o => o.after.any (fun e => Region.binds md e && e.on == i)
  | none => true

/-- Of two that may come up neither waits for the other. -/
theorem ready_free {listed : Array Bool} {i j : Nat} {oj : Oper} (hi : i ∈ Region.ready md ops listed) (hj : j ∈ Region.ready md ops listed) (ho : ops[j]? = some oj) : ∀ e ∈ oj.after, Region.binds md e = true → e.on ≠ i := by
  rintro e he hb rfl
  obtain ⟨_, o, ho2, hall⟩ := mem_ready.1 hj
  obtain rfl : oj = o := Option.some.inj (ho.symm.trans ho2)
  have h1 := hall e he hb
  have h0 := (mem_ready.1 hi).1
  rw [Array.getD_eq_getD_getElem?] at h0 h1
  cases hx : listed[e.on]? with
  | none => rw [hx] at h1; cases h1
  | some b => rw [hx] at h0 h1; simp only [Option.getD_some] at h0 h1; rw [h0] at h1; cases h1

/-- So number L does not come up ahead of what it waits for. -/
theorem last_waits {listed : Array Bool} {i j : Nat} (hL : waitsFor md ops L i = true) (hi : i ∈ Region.ready md ops listed) (hj : j ∈ Region.ready md ops listed) : j ≠ L := by
  rintro rfl
  obtain ⟨_, o, ho, _⟩ := mem_ready.1 hj
  rw [waitsFor, ho] at hL
  simp only [Array.any_eq_true', Bool.and_eq_true, beq_iff_eq] at hL
  obtain ⟨e, he, hb, h⟩ := hL
  exact ready_free hi hj ho e he hb h

/-- What nobody touches that may come ahead of it. -/
def Untouched (md : Region.Mode) (ops : Array Oper) (oi : Oper) (i : Nat) (listed : Array Bool) : Prop := ∀ j oj, ops[j]? = some oj → j ≠ i → listed.getD j true = false → (∀ e ∈ oj.after, Region.binds md e = true → e.on ≠ i) → oi.apart ops oj = true

theorem Untouched.more {oi : Oper} {i j : Nat} {listed : Array Bool} (h : Untouched md ops oi i listed) (hj : listed.getD j true = false) : Untouched md ops oi i (listed.setIfInBounds j true) := by
  intro k ok hk hki hun
  refine h k ok hk hki ?_
  rcases Nat.decEq j k with hne | rfl
  · rw [getD_set_ne true hne] at hun; exact hun
  · exact hj

theorem wpAnyL_first {i : Nat} {oi : Oper} {v : Value} (hi : ops[i]? = some oi) (hsel : ∀ (j : Nat) (o : Oper) cs b, ops[j]? = some o → o.op ≠ .select cs b)
    (hQ : ∀ c a w, Q (.panic c) (a.put oi.dst v) w → Q (.panic c) a w) (hL : waitsFor md ops L i = true) (fuel : Nat) :
    ∀ (listed : Array Bool) (a : Act) (w : World), Untouched md ops oi i listed → i ∈ Region.ready md ops listed → YieldsIf P ops S oi v a → S w →
      wpAnyL P md ops Q S L fuel (listed.setIfInBounds i true) (a.put oi.dst v) w → wpAnyL P md ops Q S L (fuel + 1) listed a w := by
  induction fuel with
  | zero =>
    intro listed a w _ hr hy hS H
    refine ⟨fun h => absurd (h ▸ hr) (by simp), fun j hj => ?_⟩
    rcases Nat.decEq j i with hne | rfl
    · exact absurd (H.1 ▸ ready_mono hj hne) (by simp)
    · exact hy.wpOp hi hS ⟨.inr hS, H⟩
  | succ fuel ih =>
    intro listed a w hun hr hy hS H
    refine ⟨fun h => absurd (h ▸ hr) (by simp), fun j hj => ?_⟩
    rcases Nat.decEq j i with hne | rfl
    · obtain ⟨hju, oj, hoj, _⟩ := mem_ready.1 hj
      have hstep := wpOp_putIf hoj (hun j oj hoj hne hju (ready_free hr hj hoj)) (fun cs b => hsel i oi cs b hi) (fun cs b => hsel j oj cs b hoj) hQ hy (H.2 j (ready_mono hj hne))
      refine wpOp_mono (fun a' w' ⟨hy', hS', hW⟩ => ?_) hstep
      have hSw := hS'.resolve_left (last_waits hL hr hj)
      exact ⟨.inr hSw, ih _ a' w' (hun.more hju) (ready_mono hr (Ne.symm hne)) hy' hSw (by rw [Array.setIfInBounds_comm _ _ hne]; exact hW)⟩
    · exact hy.wpOp hi hS ⟨.inr hS, H⟩

/-- Take number i first. -/
theorem wpAnyL_take {i : Nat} {oi : Oper} {v : Value} {fuel : Nat} {listed : Array Bool} {a : Act} {w : World} (hi : ops[i]? = some oi)
    (hs : Region.noSelect ops = true) (hf : Region.free md ops listed i = true) (hr : (Region.ready md ops listed).contains i = true) (hL : waitsFor md ops L i = true)
    (hQ : ∀ c a w, Q (.panic c) (a.put oi.dst v) w → Q (.panic c) a w) (hy : YieldsIf P ops S oi v a) (hS : S w)
    (h : wpAnyL P md ops Q S L fuel (listed.setIfInBounds i true) (a.put oi.dst v) w) : wpAnyL P md ops Q S L (fuel + 1) listed a w :=
  wpAnyL_first hi (Region.noSelect_spec hs) hQ hL fuel listed a w (Region.free_spec hi hf) (by simpa using hr) hy hS h

/-- Just one may come up, and it is not number L. -/
theorem wpAnyL_one {i : Nat} {o : Oper} {fuel : Nat} {listed : Array Bool} {a : Act} {w : World} (hr : Region.ready md ops listed = [i]) (ho : ops[i]? = some o)
    (h : ∀ K' : Act → World → Prop, Shut (∀ a w, S w → (S w → wpAnyL P md ops Q S L fuel (listed.setIfInBounds i true) a w) → K' a w) → if Region.wanted o (yielded ops a.tmps) = true then Oper.wp P o a w K' Q else K' (a.put o.dst undef) w) :
    wpAnyL P md ops Q S L (fuel + 1) listed a w := by
  refine ⟨fun h0 => (by rw [hr] at h0; cases h0), fun j hj => ?_⟩
  rw [hr] at hj
  obtain rfl : j = i := by simpa using hj
  exact wpOp_step ho (fun K' hK => h K' (fun a w hS hW => hK a w ⟨.inr hS, hW hS⟩))

/-- Number L comes up, the last of all. -/
theorem wpAnyL_end {o : Oper} {fuel : Nat} {listed : Array Bool} {a : Act} {w : World} (hr : Region.ready md ops listed = [L]) (ho : ops[L]? = some o) (he : Region.ready md ops (listed.setIfInBounds L true) = [])
    (h : ∀ K' : Act → World → Prop, Shut (∀ a w, Q .normal a w → K' a w) → if Region.wanted o (yielded ops a.tmps) = true then Oper.wp P o a w K' Q else K' (a.put o.dst undef) w) :
    wpAnyL P md ops Q S L (fuel + 1) listed a w := by
  refine ⟨fun h0 => (by rw [hr] at h0; cases h0), fun j hj => ?_⟩
  rw [hr] at hj
  obtain rfl : j = L := by simpa using hj
  refine wpOp_step ho (fun K' hK => h K' (fun a w hq => hK a w ⟨.inl rfl, ?_⟩))
  cases fuel with
  | zero => exact ⟨he, hq⟩
  | succ n => exact ⟨fun _ => hq, by rw [he]; intro i hi; cases hi⟩

theorem wp_region_last {id : Nat} {a : Act} {w : World} (S : World → Prop) (L : Nat) (hm : P.follows .mixedOrders = true) (hS : S w.drew)
    (h : S w.drew → wpAnyL P .any ops Q S L ops.size (Array.replicate ops.size false) a w.drew) : (Code.region id ops true).wp P Q a w :=
  wp_region_any hm (wpAny_of_last _ _ _ _ (h hS))
end
end Go.Proofs.Ytakonfkefoeenah
