import Derived.Test.YtpahnhpeelaigaaJPartsM
import Derived.Test.YtpahnhpeelaigaaRows
import Derived.RegionTactic
import Derived.BigRegion
import Derived.Test.YtpahnhpeelaigaaWtQ
import Derived.Test.YtpahnhpeelaigaaWrM
import Derived.Test.YtpahnhpeelaigaaParts
import Derived.Laws.OwnMore
/- spec.l04Pointed by its contract. -/
namespace Go.Proofs.Ytpahnhpeelaigaa
open Go.RowKit
set_option linter.unusedVariables false

set_option maxRecDepth 100000 in
set_option maxHeartbeats 800000 in
theorem l04Pointed_any (t : Nat) (w : World) :
    Calls Try.prog 54 #[.int .i64 t] w fun e w' => e = .returned (.bool (decide (pointed t))) ∧ w' = w := by
  by_cases h : pointed t
  · rcases h with rfl | rfl | rfl | rfl | rfl
    all_goals
      go_enter Try.func54, Try.ntmps54
      go_wp2
      go_ret
      exact ⟨rfl, rfl⟩
  · have HD : Hid (decide (pointed t) = false) := by exact decide_eq_false h
    unfold pointed at h
    have b2 : ((t : Int) == 2) = false := by rw [beq_eq_false_iff_ne]; omega
    have b5 : ((t : Int) == 5) = false := by rw [beq_eq_false_iff_ne]; omega
    have b6 : ((t : Int) == 6) = false := by rw [beq_eq_false_iff_ne]; omega
    have b12 : ((t : Int) == 12) = false := by rw [beq_eq_false_iff_ne]; omega
    have b15 : ((t : Int) == 15) = false := by rw [beq_eq_false_iff_ne]; omega
    clear h
    go_enter Try.func54, Try.ntmps54
    go_wp2
    go_ret
    rw [HD.out]
    exact ⟨rfl, rfl⟩
end Go.Proofs.Ytpahnhpeelaigaa
/- A byte of the model's writer is stored. -/
namespace Go.Proofs.Ytpahnhpeelaigaa
open Go.RowKit
set_option linter.unusedVariables false

theorem bys_set (bs : List UInt8) (j : Nat) (x : UInt8) : (Nm.bys bs).set j (.int .u8 (x.toNat : Int)) = Nm.bys (bs.set j x) := by
  simp [Nm.bys, List.map_set]
theorem SW.store {w : World} {g B b cap n : Nat} {bs : List UInt8} {pls : List (ByteArray × Nat)} {vp : Value} (h : SW w g B bs pls (.slice (some ⟨b, 0, none⟩) n cap) vp) (hn : n = bs.length) (j : Nat) (x : UInt8) :
    SW (w.setCell ⟨b, j, none⟩ (.int .u8 (x.toNat : Int))) g B (bs.set j x) pls (.slice (some ⟨b, 0, none⟩) n cap) vp := by
  subst hn
  have hb := h.rb
  have hne : (Value.slice (some ⟨b, 0, none⟩) bs.length cap).ownBlock ≠ some g := own_blk hb h.blk (by decide)
  have hgb : g ≠ b := by intro e; subst e; exact hne rfl
  refine ⟨blk_far h.blk hgb, ?_, ?_, h.bg⟩
  · rw [← bys_set, List.length_set]
    exact (hb.stored j _).1
  · refine own_far h.rp ?_
    exact own_kinds h.rp hb (by decide) b rfl
theorem SW.storeBk {w0 w : World} {g B b cap n : Nat} {bs : List UInt8} {pls : List (ByteArray × Nat)} {vp : Value} (h : SW w g B bs pls (.slice (some ⟨b, 0, none⟩) n cap) vp) (hk : Bk B w0 w) (j : Nat) (x : Value) :
    Bk B w0 (w.setCell ⟨b, j, none⟩ x) := by
  have hb := h.rb
  have hBb : B ≤ b := (hb.lt b rfl).1
  refine ⟨hk.be.setCell hBb _, fun k c T hk' h1 h2 h3 => ?_⟩
  have hk2 := hk.kp k c T hk' h1 h2 h3
  refine blk_far hk2 (fun e => ?_)
  subst e
  exact own_blk hb hk2 (Ne.symm h1) rfl
theorem SW.some {w : World} {g B : Nat} {bs : List UInt8} {pls : List (ByteArray × Nat)} {vb vp : Value} (h : SW w g B bs pls vb vp) (hn : 0 < bs.length) : ∃ b cap, vb = .slice (some ⟨b, 0, none⟩) bs.length cap := by
  rcases h.rb.2 with ⟨rfl, h2⟩ | ⟨g', cap', cur, rfl, _⟩
  · simp at h2; simp [h2] at hn
  · exact ⟨g', cap', rfl⟩
theorem Bk.row {B b e s n : Nat} {w w' : World} {v : Value} {xs : List Value} (h : Bk B w w') (ho : w.ownsRow b e s v n xs) (h1 : e ≠ 5) (h2 : e ≠ 109) (h3 : e ≠ 67) : w'.ownsRow b e s v n xs := by
  refine ⟨ho.1, ?_⟩
  rcases ho.2 with hn | ⟨g, cap, cur, rfl, hb, hh, r⟩
  · exact .inl hn
  · exact .inr ⟨g, cap, cur, rfl, hb, h.kp g cur e hh h1 h2 h3, r⟩
theorem daP_step {fs : List Dt.Pc} {ps : List ByteArray} {k : Nat} {p : Dt.Pc} {x : ByteArray} {s : Wst} (hp : fs[k]? = some p) (hx : ps[k]? = some x) :
    daP (fs.drop k) (ps.drop k) s = daP (fs.drop (k + 1)) (ps.drop (k + 1)) (if p.isN then nmX x s else (s.1 ++ x.data.toList, s.2)) := by
  obtain ⟨h1, e1⟩ := List.getElem?_eq_some_iff.1 hp
  obtain ⟨h2, e2⟩ := List.getElem?_eq_some_iff.1 hx
  rw [List.drop_eq_getElem_cons h1, List.drop_eq_getElem_cons h2, e1, e2, daP]
theorem catL_step {ps : List ByteArray} {k : Nat} {x : ByteArray} (hx : ps[k]? = some x) : (Dt.catL (ps.drop k)).length = x.size + (Dt.catL (ps.drop (k + 1))).length := by
  obtain ⟨h2, e2⟩ := List.getElem?_eq_some_iff.1 hx
  rw [List.drop_eq_getElem_cons h2, e2]
  simp [Dt.catL]
end Go.Proofs.Ytpahnhpeelaigaa
