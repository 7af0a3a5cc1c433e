import Derived.Test.YtinbaopcapnbgaaSgM
import Derived.Test.YtinbaopcapnbgaaOrdM
import Derived.Test.YtinbaopcapnbgaaShC
/- (impl.signature).record by its contract. -/
namespace Go.Proofs.Ytinbaopcapnbgaa
open Go.RowKit
set_option linter.unusedVariables false

/-- a signature's cells -/
def sgC (nm : ByteArray) (t f : Nat) (sum : List UInt8) (id : Nat) : List Value := .string nm :: .int .i64 (t : Int) :: .int .i64 (f : Int) :: (Nm.bys sum ++ [.int .i64 (id : Int)])
def sgA (nm : ByteArray) (t f : Nat) (sum : List UInt8) (id : Nat) : Array Value := (sgC nm t f sum id).toArray
theorem sgA_size {nm : ByteArray} {t f id : Nat} {sum : List UInt8} (h : sum.length = 32) : (sgA nm t f sum id).size = 36 := by simp [sgA, sgC, Nm.bys_length, h]
theorem sgA_0 {nm : ByteArray} {t f id : Nat} {sum : List UInt8} : (sgA nm t f sum id)[0]? = some (.string nm) := by simp [sgA, sgC]
theorem sgA_1 {nm : ByteArray} {t f id : Nat} {sum : List UInt8} : (sgA nm t f sum id)[1]? = some (.int .i64 (t : Int)) := by simp [sgA, sgC]
theorem sgA_2 {nm : ByteArray} {t f id : Nat} {sum : List UInt8} : (sgA nm t f sum id)[2]? = some (.int .i64 (f : Int)) := by simp [sgA, sgC]
theorem sgA_35 {nm : ByteArray} {t f id : Nat} {sum : List UInt8} (h : sum.length = 32) : (sgA nm t f sum id)[35]? = some (.int .i64 (id : Int)) := by
  simp only [sgA, sgC, List.getElem?_toArray]
  show (Nm.bys sum ++ [.int .i64 (id : Int)])[32]? = _
  rw [List.getElem?_append_right (by rw [Nm.bys_length]; omega), Nm.bys_length, h]
  rfl
theorem sgA_sum {nm : ByteArray} {t f id i : Nat} {sum : List UInt8} {x : Value} (h : (Nm.bys sum)[i]? = some x) : (sgA nm t f sum id)[3 + i]? = some x := by
  simp only [sgA, sgC, List.getElem?_toArray]
  rw [show 3 + i = i + 1 + 1 + 1 by omega, List.getElem?_cons_succ, List.getElem?_cons_succ, List.getElem?_cons_succ, List.getElem?_append_left (List.getElem?_eq_some_iff.1 h).1]
  exact h

/-- the sum within a signature is read as text -/
theorem sum_str {w : World} {g : Nat} {nm : ByteArray} {t f id : Nat} {sum : List UInt8} {T : TypeId} (h : Blk w g (sgA nm t f sum id) T) (hs : sum.length = 32) : (convert 59 9 (.slice (some ⟨g, 3, none⟩) 32 32)).run Try.prog w = .ok (.string ⟨sum.toArray⟩) w := by
  refine row_strB (n := 32) ⟨by rw [Nm.bys_length, hs], _, _, rfl, Nat.le_refl _, by unfold maxLen; omega, fun _ => ⟨g, 3, rfl, fun i x hx => ?_⟩⟩
  rw [blk_cell h]
  exact sgA_sum hx

theorem cat_ex (x y : List UInt8) (X Y : ByteArray) (hX : X = ⟨x.toArray⟩) (hY : Y = ⟨y.toArray⟩) (hb : x.length + y.length ≤ 100000000) : ∃ C, (∀ W, (Go.Op.stringOp .add X Y).run Try.prog W = .ok (.string C) W) ∧ C = ⟨(x ++ y).toArray⟩ := by
  subst hX
  subst hY
  refine ⟨_, fun W => run_string_add_sum W _ _ (by rw [ba_size, ba_size]; omega), ba_cat x y⟩

/-- A struct or an array handed back. -/
theorem run_results_row {P : Program} {fn : Func} {tmps : Array Value} {w : World} {r : Nat} {t : TypeId} {p : Nat} {cs : Array Value} {d : TypeDesc} (hf : fn.results = #[.cell r t]) (ht : tmps[r]?.getD undef = .pointer (some ⟨p, 0, none⟩)) (hk : Blk w p cs t)
    (hu : P.underlying t = some d) (hd : (match d with | .struct _ | .array _ _ => true | _ => false) = true) (hi : (P.info? t).map (·.size) = some cs.size) : (results fn tmps).run P w = .ok (.agg cs) w := by
  have hl := run_loadVar_row w p t t cs (0, 0) d hk hu hd hi
  simp [results, hf, ht, asAddr, hl]

end Go.Proofs.Ytinbaopcapnbgaa
