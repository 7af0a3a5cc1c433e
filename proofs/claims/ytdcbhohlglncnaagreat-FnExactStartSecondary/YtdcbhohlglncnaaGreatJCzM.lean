import Derived.Test.YtdcbhohlglncnaaGreatJMath
import Derived.Test.YtdcbhohlglncnaaGreatBzD
import Derived.Test.YtdcbhohlglncnaaGreatJTbBL
/- Whether a zone is the zone of its records: mathematics. -/
namespace Go.Proofs.YtdcbhohlglncnaaGreat
open Go.RowKit
set_option linter.unusedVariables false
def eqSz (a b : Sz) : Bool := decide (a.own = b.own) && decide (a.ty = b.ty) && decide (a.tt = b.tt) && decide (a.da = b.da)
theorem eqSz_iff {a b : Sz} : eqSz a b = true ↔ a = b := by
 obtain ⟨a1, a2, a3, a4⟩ := a
 obtain ⟨b1, b2, b3, b4⟩ := b
 simp only [eqSz, Bool.and_eq_true, decide_eq_true_eq, Sz.mk.injEq]
 constructor
 · rintro ⟨⟨⟨h1, h2⟩, h3⟩, h4⟩; exact ⟨h1, h2, h3, h4⟩
 · rintro ⟨h1, h2, h3, h4⟩; exact ⟨⟨⟨h1, h2⟩, h3⟩, h4⟩
def eqZs : List Sz → List Sz → Bool
 | [], [] => true
 | a :: xs, b :: ys => eqSz a b && eqZs xs ys
 | _, _ => false
theorem eqZs_iff : ∀ {xs ys : List Sz}, eqZs xs ys = true ↔ xs = ys
 | [], [] => by simp [eqZs]
 | [], b :: ys => by simp [eqZs]
 | a :: xs, [] => by simp [eqZs]
 | a :: xs, b :: ys => by
   rw [eqZs, Bool.and_eq_true, eqSz_iff, eqZs_iff]
   simp
theorem eqZs_all {xs ys : List Sz} (hl : xs.length = ys.length) (h : ∀ (j : Nat) (a b : Sz), xs[j]? = some a → ys[j]? = some b → a = b) : eqZs xs ys = true := by
 rw [eqZs_iff]
 apply List.ext_getElem?
 intro j
 by_cases hj : j < xs.length
 · have h1 : xs[j]? = some xs[j] := List.getElem?_eq_getElem hj
   have h2 : ys[j]? = some ys[j] := List.getElem?_eq_getElem (by omega)
   rw [h1, h2, h j _ _ h1 h2]
 · rw [List.getElem?_eq_none (by omega), List.getElem?_eq_none (by omega)]
theorem eqZs_not {xs ys : List Sz} {j : Nat} {a b : Sz} (h1 : xs[j]? = some a) (h2 : ys[j]? = some b) (h : eqSz a b = false) : eqZs xs ys = false := by
 cases hq : eqZs xs ys with
 | false => rfl
 | true =>
   rw [eqZs_iff] at hq
   subst hq
   rw [h1] at h2
   obtain rfl := Option.some.inj h2
   rw [eqSz_iff.2 rfl] at h
   cases h
theorem eqZs_len {xs ys : List Sz} (h : xs.length ≠ ys.length) : eqZs xs ys = false := by
 cases hq : eqZs xs ys with
 | false => rfl
 | true => rw [eqZs_iff] at hq; subst hq; exact absurd rfl h
/-- Whether a zone is valid. -/
def zOK (ps : List Zp) (o : ByteArray) : Bool := decide ((bldE (zoneRecs ps) o).1 = 0) && eqZs (bldZ (zoneRecs ps)) (ps.map (·.1))
theorem bldE_nil (o : ByteArray) : (bldE [] o).1 ≠ 0 := by
 rw [bldE]
 split
 · decide
 · rw [if_neg (by simp)]
   have h1 : badOne o [] 0 = none := rfl
   have h2 : badI ([].map itemOf) = -1 := rfl
   rw [h1]
   simp only
   rw [h2, if_neg (by decide)]
   have h3 : rulesI (itsOf []) (Nm.foldS o) = (20, -1) := rfl
   rw [h3]
   decide
theorem zOK_big {ps : List Zp} {o : ByteArray} (h : 500 < ps.length ∨ 500 < dsum ps) : zOK ps o = false := by
 rw [zOK, zoneRecs, if_pos h, decide_eq_false (bldE_nil o)]
 rfl
theorem zOK_recs {ps : List Zp} {o : ByteArray} (h : zOK ps o = true) : (bldE (zoneRecs ps) o).1 = 0 ∧ bldZ (zoneRecs ps) = ps.map (·.1) := by
 simp only [zOK, Bool.and_eq_true, decide_eq_true_eq] at h
 exact ⟨h.1, eqZs_iff.1 h.2⟩
theorem recs_fit {ps : List Zp} {N : Nat} (h : ∀ p ∈ ps, p.1.own.size ≤ N ∧ ∀ x ∈ p.1.da, x.size ≤ N) : ∀ r ∈ zoneRecs ps, r.own.size ≤ N ∧ r.da.size ≤ N := by
 intro r hr
 unfold zoneRecs at hr
 split at hr
 · cases hr
 · simp only [recsAll, recsOf, List.mem_flatMap, List.mem_map] at hr
   obtain ⟨p, hp, d, hd, rfl⟩ := hr
   exact ⟨(h p hp).1, (h p hp).2 d hd⟩
theorem ZOwn.zrow {w : World} {B : Nat} {v : Value} {ps : List Zp} (h : ZOwn w B v ps) : ZRow w v ps :=
 ⟨CRow.of_owns h.outer, fun p hp => by obtain ⟨i, hi⟩ := List.getElem?_of_mem hp; exact Nm.SRow.of_owns (h.inner i p hi)⟩
end Go.Proofs.YtdcbhohlglncnaaGreat
