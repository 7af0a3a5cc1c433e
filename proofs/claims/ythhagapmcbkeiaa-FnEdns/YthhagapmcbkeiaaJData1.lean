import Derived.Test.YthhagapmcbkeiaaJSgR
import Derived.Test.YthhagapmcbkeiaaRows
import Derived.WalkSpells
import Derived.WalkLawsBesides
import Derived.Test.YthhagapmcbkeiaaJSgN
import Derived.Test.YthhagapmcbkeiaaJMath
import Derived.Test.YthhagapmcbkeiaaJWtN
import Derived.RegionTactic
import Derived.BigRegion
import Derived.Test.YthhagapmcbkeiaaJMvM
import Derived.Laws.OwnMore
import Derived.Test.YthhagapmcbkeiaaIwD
import Derived.Laws.IdiomCopy
/- The model's small functions of data, by their contracts. -/
namespace Go.Proofs.Ythhagapmcbkeiaa
open Go.RowKit

theorem txt_short {s : ByteArray} (h : 0 < s.size) (h1 : s.size < s[0].toNat + 1) : Dt.txtS s = ByteArray.empty := by
  rw [Dt.txtS, dif_pos h, if_neg (by omega)]
theorem txt_good {s : ByteArray} (h : 0 < s.size) (h1 : s[0].toNat + 1 ≤ s.size) : Dt.txtS s = s.extract 0 (s[0].toNat + 1) := by
  rw [Dt.txtS, dif_pos h, if_pos h1]
theorem txt_none {s : ByteArray} (h : s.size = 0) : Dt.txtS s = ByteArray.empty := by
  rw [Dt.txtS, dif_neg (by omega)]

end Go.Proofs.Ythhagapmcbkeiaa
/- spec.l02NameAt by its contract. -/
namespace Go.Proofs.Ythhagapmcbkeiaa
open Go.RowKit

theorem name_zero {s : ByteArray} {i : Nat} (h : i < s.size) (h2 : i < 255) (h0 : s[i].toNat = 0) : Dt.nameF 256 s i = s.extract 0 (i + 1) := by
  rw [Dt.nameF, dif_pos ⟨h, h2⟩, if_pos h0]
theorem name_big {s : ByteArray} {i : Nat} (h : i < s.size) (h2 : i < 255) (h0 : 63 < s[i].toNat) : Dt.nameF 256 s i = ByteArray.empty := by
  rw [Dt.nameF, dif_pos ⟨h, h2⟩, if_neg (by omega), if_pos h0]
theorem name_step {s : ByteArray} {i : Nat} (h : i < s.size) (h2 : i < 255) (h0 : s[i].toNat ≠ 0) (h1 : s[i].toNat ≤ 63) : Dt.nameF 256 s i = Dt.nameF 256 s (i + s[i].toNat + 1) := by
  rw [Dt.nameF, dif_pos ⟨h, h2⟩, if_neg h0, if_neg (by omega)]
  exact Dt.nameF_enough _ _ _ _ (by omega) (by omega)
theorem name_end {s : ByteArray} {i : Nat} (h : ¬ (i < s.size ∧ i < 255)) : Dt.nameF 256 s i = ByteArray.empty := by
  rw [Dt.nameF, dif_neg h]

end Go.Proofs.Ythhagapmcbkeiaa
/- spec.l02Map by its contract. -/
namespace Go.Proofs.Ythhagapmcbkeiaa
open Go.RowKit
set_option linter.unusedVariables false

end Go.Proofs.Ythhagapmcbkeiaa
/- spec.l02Parts by its contract. -/
namespace Go.Proofs.Ythhagapmcbkeiaa
open Go.RowKit

/-- The letters that a form is made of. -/
def okForm (f : ByteArray) : Prop := f.size ≤ 100 ∧ ∀ k, (h : k < f.size) → f[k] = 110 ∨ f[k] = 98 ∨ f[k] = 116 ∨ f[k] = 115 ∨ f[k] = 99 ∨ f[k] = 109 ∨ f[k] = 42

end Go.Proofs.Ythhagapmcbkeiaa
/- spec.l04Pointed by its contract. -/
namespace Go.Proofs.Ythhagapmcbkeiaa
open Go.RowKit
set_option linter.unusedVariables false

end Go.Proofs.Ythhagapmcbkeiaa
/- A byte of the model's writer is stored. -/
namespace Go.Proofs.Ythhagapmcbkeiaa
open Go.RowKit
set_option linter.unusedVariables false

theorem bys_set (bs : List UInt8) (j : Nat) (x : UInt8) : (Nm.bys bs).set j (.int .u8 (x.toNat : Int)) = Nm.bys (bs.set j x) := by
  simp [Nm.bys, List.map_set]
theorem daP_step {fs : List Dt.Pc} {ps : List ByteArray} {k : Nat} {p : Dt.Pc} {x : ByteArray} {s : Wst} (hp : fs[k]? = some p) (hx : ps[k]? = some x) :
    daP (fs.drop k) (ps.drop k) s = daP (fs.drop (k + 1)) (ps.drop (k + 1)) (if p.isN then nmX x s else (s.1 ++ x.data.toList, s.2)) := by
  obtain ⟨h1, e1⟩ := List.getElem?_eq_some_iff.1 hp
  obtain ⟨h2, e2⟩ := List.getElem?_eq_some_iff.1 hx
  rw [List.drop_eq_getElem_cons h1, List.drop_eq_getElem_cons h2, e1, e2, daP]
theorem catL_step {ps : List ByteArray} {k : Nat} {x : ByteArray} (hx : ps[k]? = some x) : (Dt.catL (ps.drop k)).length = x.size + (Dt.catL (ps.drop (k + 1))).length := by
  obtain ⟨h2, e2⟩ := List.getElem?_eq_some_iff.1 hx
  rw [List.drop_eq_getElem_cons h2, e2]
  simp [Dt.catL]
end Go.Proofs.Ythhagapmcbkeiaa
/- Two bytes of a string are copied into a row of the writer's. -/
namespace Go.Proofs.Ythhagapmcbkeiaa
open Go.RowKit
set_option linter.unusedVariables false

theorem run_copy_str2 {P : Program} (w : World) (dT sT ty elem : TypeId) (b o dLen dCap : Nat) (S : ByteArray) (x y : UInt8) (hS : S.data.toList = [x, y])
    (hu : P.underlying dT = some (.slice elem)) (hs : (P.info? elem).map (·.size) = some 1) (h2 : 2 ≤ dLen)
    (hc0 : (w.cell? ⟨b, o, none⟩).isSome = true) (hc1 : (w.cell? ⟨b, o + 1, none⟩).isSome = true) (hf0 : w.frozen? ⟨b, o, none⟩ = false) (hf1 : w.frozen? ⟨b, o + 1, none⟩ = false) :
    (Builtin.copy_ #[dT, sT] ty #[.slice (some ⟨b, o, none⟩) dLen dCap, .string S]).run P w = .ok (goInt 2) ((w.setCell ⟨b, o, none⟩ (.int .u8 (x.toNat : Int))).setCell ⟨b, o + 1, none⟩ (.int .u8 (y.toNat : Int))) := by
  have hst := run_storeCells_cells (P := P) b o [.int .u8 (x.toNat : Int), .int .u8 (y.toNat : Int)] 0 w
    (by intro j hj; simp at hj; rcases (show j = 0 ∨ j = 1 by omega) with rfl | rfl; exact hc0; exact hc1)
    (by intro j hj; simp at hj; rcases (show j = 0 ∨ j = 1 by omega) with rfl | rfl; exact hf0; exact hf1)
    (by intro v hv; simp at hv; rcases hv with rfl | rfl <;> rfl)
  have hsz : S.size = 2 := by
    have := congrArg List.length hS
    simpa using this
  have hmin : Nat.min S.size dLen = 2 := by rw [hsz]; exact Nat.min_eq_left h2
  have hcells : ((S.extract 0 2).data.map fun b => (Value.int .u8 (b.toNat : Int))).toList = [.int .u8 (x.toNat : Int), .int .u8 (y.toNat : Int)] := by
    have e : S.extract 0 2 = S := by rw [← hsz]; exact Dt.ext_all S
    rw [e, Array.toList_map, hS]
    rfl
  cases hq : P.info? elem with
  | none => simp [hq] at hs
  | some i =>
    have hi : i.size = 1 := by simpa [hq] using hs
    have hst2 : (storeCells ⟨b, o, none⟩ [.int .u8 (x.toNat : Int), .int .u8 (y.toNat : Int)]).run P w = .ok () ((w.setCell ⟨b, o, none⟩ (.int .u8 (x.toNat : Int))).setCell ⟨b, o + 1, none⟩ (.int .u8 (y.toNat : Int))) := hst
    have hsz2 : ∀ W : World, (Builtin.firstCells 1 2 (.string S)).run P W = .ok ((S.extract 0 2).data.map fun b => (Value.int .u8 (b.toNat : Int))) W := fun W => rfl
    have hlen : ∀ W : World, (Builtin.lenOf (.string S)).run P W = .ok 2 W := fun W => by
      have : (Builtin.lenOf (.string S)).run P W = .ok S.size W := rfl
      rw [this, hsz]
    have hmin2 : Nat.min 2 dLen = 2 := Nat.min_eq_left h2
    have hcl : (Array.map (fun b => Value.int IntKind.u8 (b.toNat : Int)) (S.extract 0 2).data) = #[.int .u8 (x.toNat : Int), .int .u8 (y.toNat : Int)] := Array.toList_inj.1 hcells
    rw [hcl] at hsz2
    simp [Builtin.copy_, run_underlying hu, hlen, hmin2, sizeOf, typeInfo, hq, hi, hsz2, hst2]
    done

theorem step_copy_str2 {P : Program} {ops : Array Oper} {o : Oper} {a : Act} {w : World} {K : Act → World → Prop} {Q : Exit → Act → World → Prop} {E : Prop} (hgd : o.guard = none) (d s : Operand) (dT sT : TypeId)
    (ho : o.op = .call { callee := .builtin .copy, args := #[d, s], argTypes := #[dT, sT] }) (elem : TypeId) (hu : P.underlying dT = some (.slice elem)) (hsz : (P.info? elem).map (·.size) = some 1)
    (b off dLen dCap : Nat) (hd : a.eval d = .slice (some ⟨b, off, none⟩) dLen dCap) (S : ByteArray) (hs : a.eval s = .string S) (x y : UInt8) (hS : S.data.toList = [x, y]) (h2 : 2 ≤ dLen)
    (hc0 : (w.cell? ⟨b, off, none⟩).isSome = true) (hc1 : (w.cell? ⟨b, off + 1, none⟩).isSome = true) (hf0 : w.frozen? ⟨b, off, none⟩ = false) (hf1 : w.frozen? ⟨b, off + 1, none⟩ = false)
    (h : K (a.put o.dst (goInt 2)) ((w.setCell ⟨b, off, none⟩ (.int .u8 (x.toNat : Int))).setCell ⟨b, off + 1, none⟩ (.int .u8 (y.toNat : Int)))) :
    if Region.wanted o (yielded ops a.tmps) = true then Oper.wp P o a w K Q else E := by
  have hw : Region.wanted o (yielded ops a.tmps) = true := by simp [Region.wanted, hgd]
  rw [if_pos hw]
  have hrun := run_copy_str2 (P := P) w dT sT o.type elem b off dLen dCap S x y hS hu hsz h2 hc0 hc1 hf0 hf1
  unfold Oper.wp
  simp [execOp, ho, resolve, invoke, builtin, hd, hs, hrun, Result.andThen]
  exact h

theorem PW.store {w : World} {g B b cap n : Nat} {bs : List UInt8} {vm : Value} (h : PW w g B bs (.slice (some ⟨b, 0, none⟩) n cap) vm) (hn : n = bs.length) (j : Nat) (x : UInt8) :
    PW (w.setCell ⟨b, j, none⟩ (.int .u8 (x.toNat : Int))) g B (bs.set j x) (.slice (some ⟨b, 0, none⟩) n cap) vm := by
  subst hn
  have hb := h.rb
  have hne : (Value.slice (some ⟨b, 0, none⟩) bs.length cap).ownBlock ≠ some g := own_blk hb h.blk (by decide)
  have hgb : g ≠ b := by intro e; subst e; exact hne rfl
  refine ⟨blk_far h.blk hgb, ?_, h.bg⟩
  rw [← bys_set, List.length_set]
  exact (hb.stored j _).1
theorem PW.storeBw {w0 w : World} {g B b cap n : Nat} {bs : List UInt8} {vm : Value} (h : PW w g B bs (.slice (some ⟨b, 0, none⟩) n cap) vm) (hk : Bw B w0 w) (j : Nat) (x : Value) :
    Bw B w0 (w.setCell ⟨b, j, none⟩ x) := by
  have hb := h.rb
  have hBb : B ≤ b := (hb.lt b rfl).1
  refine ⟨hk.be.setCell hBb _, fun k o hk' h1 h2 => ?_⟩
  have hk2 := hk.kp k o hk' h1 h2
  have hne : k ≠ b := by
    intro e
    subst e
    rcases hb.2 with ⟨h3, _⟩ | ⟨g', cap', cur, h3, _, hh, _⟩
    · cases h3
    · cases h3
      rw [hh] at hk2
      cases hk2
      exact h1 rfl
  rw [heap_setCell_other w ⟨b, j, none⟩ k _ (by simpa using hne)]
  exact hk2
theorem PW.some {w : World} {g B : Nat} {bs : List UInt8} {vb vm : Value} (h : PW w g B bs vb vm) (hn : 0 < bs.length) : ∃ b cap, vb = .slice (some ⟨b, 0, none⟩) bs.length cap := by
  rcases h.rb.2 with ⟨rfl, h2⟩ | ⟨g', cap', cur, rfl, _⟩
  · simp at h2; simp [h2] at hn
  · exact ⟨g', cap', rfl⟩
end Go.Proofs.Ythhagapmcbkeiaa
/- spec.l04WriteRecord by its contract. -/
namespace Go.Proofs.Ythhagapmcbkeiaa
open Go.RowKit
set_option linter.unusedVariables false

theorem u8_hi {n : Nat} (h : n < 65536) : ((UInt8.ofNat (n / 256)).toNat : Int) = (n : Int) / 256 := by
  simp
  omega
theorem u8_lo (n : Nat) : ((UInt8.ofNat (n % 256)).toNat : Int) = (n : Int) % 256 := by
  simp

end Go.Proofs.Ythhagapmcbkeiaa
