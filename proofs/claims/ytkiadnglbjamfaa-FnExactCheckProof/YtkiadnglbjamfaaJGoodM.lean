import Derived.Test.YtkiadnglbjamfaaCutM
import Derived.Test.YtkiadnglbjamfaaJMath
import Derived.Test.YtkiadnglbjamfaaRows
import Derived.WalkKit
import Derived.WalkSpells
import Derived.WalkLawsBesides
/- Data of its form: its parts and its places. Mathematics. -/
namespace Go.Proofs.Ytkiadnglbjamfaa
open Go.RowKit

theorem code_zero {t : Int} {d : ByteArray} : cutCode t d = 0 ↔ ∃ sp, cutS t d = some sp := by
  by_cases h : t < 0 ∨ 65535 < t
  · obtain ⟨h1, h2⟩ := code_type (d := d) h
    rw [h1, h2]; simp
  · by_cases h1 : 65535 < d.size
    · obtain ⟨h2, h3⟩ := code_long h h1
      rw [h2, h3]; simp
    · cases hq : Dt.spans (Dt.implP t) 0 d with
      | none => obtain ⟨h2, h3⟩ := code_none h h1 hq; rw [h2, h3]; simp
      | some sp => obtain ⟨h2, h3⟩ := code_some h h1 hq; rw [h2, h3]; simp

/-- Of data of its form: its parts, and where the names stand. -/
theorem good_parts {t : Int} {d : ByteArray} (h : cutCode t d = 0) : ∃ ps, Dt.parts (Dt.specP t) d = some ps ∧ cutS t d = some (Dt.spansOf (Dt.specP t) ps 0) ∧ d.size ≤ 65535 := by
  obtain ⟨sp, hsp⟩ := code_zero.1 h
  by_cases ht : t < 0 ∨ 65535 < t
  · rw [(code_type (d := d) ht).2] at hsp; cases hsp
  · by_cases h1 : 65535 < d.size
    · rw [(code_long ht h1).2] at hsp; cases hsp
    · have e : cutS t d = Dt.spans (Dt.implP t) 0 d := by rw [cutS, if_neg ht, if_neg h1]
      rw [e, ← Dt.forms_agree, Dt.spans_of_parts] at hsp
      cases hq : Dt.parts (Dt.specP t) d with
      | none => rw [hq] at hsp; simp at hsp
      | some ps =>
        refine ⟨ps, rfl, ?_, by omega⟩
        rw [e, ← Dt.forms_agree, Dt.spans_of_parts, hq]; rfl

theorem part_le : ∀ (ps : List ByteArray) (x : ByteArray), x ∈ ps → x.size ≤ (Dt.catL ps).length := by
  intro ps
  induction ps with
  | nil => intro x h; simp at h
  | cons y ps ih =>
    intro x h
    have e : (Dt.catL (y :: ps)).length = y.size + (Dt.catL ps).length := by simp [Dt.catL]
    rcases List.mem_cons.1 h with rfl | h
    · omega
    · have := ih x h; omega

theorem isN_let (c : UInt8) : (Dt.letP c).isN = decide (c.toNat = 110) := by
  by_cases h : c = 110
  · subst h; rfl
  · have h' : c.toNat ≠ 110 := fun e => h (UInt8.toNat_inj.1 (by simpa using e))
    simp only [h', decide_false]
    unfold Dt.letP
    rw [if_neg h]
    repeat' split
    all_goals rfl

theorem spans_few : ∀ (fs : List Dt.Pc) (a : Nat) (d : ByteArray) (sp : List (Nat × Nat)), Dt.spans fs a d = some sp → sp.length ≤ fs.length := by
  intro fs
  induction fs with
  | nil =>
    intro a d sp h
    rw [Dt.spans] at h
    split at h
    · simp at h; subst h; simp
    · simp at h
  | cons p r ih =>
    intro a d sp h
    rw [Dt.spans] at h
    cases hq : Dt.sz p d with
    | none => rw [hq] at h; simp at h
    | some n =>
      rw [hq] at h
      cases hr : Dt.spans r (a + n) (d.extract n d.size) with
      | none => simp [hr] at h
      | some l =>
        have := ih _ _ _ hr
        simp [hr] at h
        subst h
        cases p.isN <;> simp <;> omega

theorem cut_few (t : Int) (d : ByteArray) : ((cutS t d).getD []).length ≤ 5 := by
  cases h : cutS t d with
  | none => simp
  | some sp =>
    rw [cutS] at h
    split at h
    · cases h
    · split at h
      · cases h
      · have h1 := spans_few _ _ _ _ h
        have h2 := implP_len t
        simp; omega

end Go.Proofs.Ytkiadnglbjamfaa
/- A row of strings of the call's own. -/
namespace Go.Proofs.Ytkiadnglbjamfaa
open Go.RowKit

theorem Try.infoStr : (Try.prog.info? 9).map (fun i => (i.zero, i.size, i.bytes)) = some (some (.string ByteArray.empty), 1, 16) := by kernel_rfl

theorem own_step {W wr w1 : World} {v v' : Value} {B e : Nat} {ls : List ByteArray} {x : ByteArray} (hB : B ≤ wr.heap.size)
    (hown : wr.ownsRow B e 1 v ls.length (ls.map Value.string)) (hbel : Below B W wr) (o : Obj)
    (hown' : w1.ownsRow B e 1 v' (ls.length + 1) (ls.map Value.string ++ [.string x])) (hgrow : (wr.alloc o).grownBy w1 v.ownBlock) :
    w1.ownsRow B e 1 v' (ls ++ [x]).length ((ls ++ [x]).map Value.string) ∧ Below B W w1 := by
  refine ⟨by simpa using hown', ?_⟩
  refine (hbel.alloc hB o).grown hgrow (by simp; omega) ?_
  intro k hk
  exact (hown.lt k hk).1

theorem cell_new1 (w : World) (x : Value) (e : Nat) : ∀ (j : Nat) (u : Value), [x][j]? = some u → (w.alloc (.cells #[x] e)).cell? ((⟨w.heap.size, 0, none⟩ : Addr).add j) = some u := by
  intro j u hj
  match j, hj with
  | 0, hj => simp at hj; subst hj; simp [Addr.add]

theorem own_below {w w' : World} {B e s n : Nat} {v : Value} {xs : List Value} (h : w.ownsRow B e s v n xs) (hb : Below w.heap.size w w') : w'.ownsRow B e s v n xs :=
  h.kept (row := none) ⟨hb.os, hb.tape, hb.output, hb.size, fun k hk _ => hb.block k hk⟩ (by cases v.ownBlock <;> simp)

theorem own_base {w : World} {B B' e s n : Nat} {v : Value} {xs : List Value} (h : w.ownsRow B e s v n xs) (hb : B' ≤ B) : w.ownsRow B' e s v n xs := by
  refine ⟨h.1, ?_⟩
  rcases h.2 with hn | ⟨g, cap, cur, hv, hbg, rest⟩
  · exact .inl hn
  · exact .inr ⟨g, cap, cur, hv, Nat.le_trans hb hbg, rest⟩
end Go.Proofs.Ytkiadnglbjamfaa
