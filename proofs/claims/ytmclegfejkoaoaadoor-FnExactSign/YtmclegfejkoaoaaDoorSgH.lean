import Derived.Test.YtmclegfejkoaoaaDoorSgR
import Derived.Test.YtmclegfejkoaoaaDoorJISu
import Derived.Deep.MidRow
/- Stretches of a block that are written. -/
namespace Go.Proofs.YtmclegfejkoaoaaDoor
open Go.RowKit
set_option linter.unusedVariables false

theorem spl_mid (l1 l2 l3 v : List Value) (h : v.length = l2.length) : spl (l1 ++ l2 ++ l3).toArray l1.length v = (l1 ++ v ++ l3).toArray := by
  apply Array.ext'
  apply List.ext_getElem?
  intro j
  rw [Array.getElem?_toList, Array.getElem?_toList, spl_get _ _ _ _ (by simp; omega)]
  simp only [List.getElem?_toArray]
  by_cases h1 : j < l1.length
  · rw [if_neg (by omega), List.append_assoc, List.append_assoc, List.getElem?_append_left h1, List.getElem?_append_left h1]
  · by_cases h2 : j < l1.length + v.length
    · rw [if_pos ⟨by omega, h2⟩, List.append_assoc, List.getElem?_append_right (by omega), List.getElem?_append_left (by omega)]
    · rw [if_neg (by omega), List.append_assoc, List.append_assoc, List.getElem?_append_right (by omega), List.getElem?_append_right (by omega), List.getElem?_append_right (by omega), List.getElem?_append_right (by omega), h]

theorem spl_sum {nm : ByteArray} {t f id : Nat} {z s : List UInt8} (hz : z.length = 32) (hs : s.length = 32) : spl (sgA nm t f z id) 3 (byA s).toList = sgA nm t f s id := by
  have e := spl_mid [.string nm, .int .i64 (t : Int), .int .i64 (f : Int)] (Nm.bys z) [.int .i64 (id : Int)] (Nm.bys s) (by rw [Nm.bys_length, Nm.bys_length, hz, hs])
  exact e

theorem wpList_store_mid {P : Program} {ops : Array Oper} {rest : List Oper} {o : Oper} {a : Act} {w : World} {Q : Exit → Act → World → Prop} (p x : Operand) (t T : TypeId) (hgd : o.guard = none) (ho : o.op = .store t p x) (hdst : o.dst = none) (b off : Nat) (c c' : Array Value) (hk : Blk w b c T)
    (hp : a.eval p = .pointer (some ⟨b, off, none⟩)) (hx : a.eval x = .agg c') (hi : (P.info? t).map (·.size) = some c'.size) (hs : off + c'.size ≤ c.size) (h1 : c'.all (·.oneCell') = true)
    (h : ∀ w', Blk w' b (spl c off c'.toList) T → Only b w w' → wpList P ops Q rest a w') : wpList P ops Q (o :: rest) a w :=
  wpList_plain hgd fun _ hK => by
    have hrun := run_storeVar_mid (P := P) w b off t c' (fun j hj => ⟨by rw [blk_cell hk, Array.getElem?_eq_getElem (by omega)]; rfl, blk_frozen hk _⟩) hi h1
    unfold Oper.wp execOp
    simp only [ho, hp, hx, Instr.storeAt, Instr.sureAddr, Sem.run_bind, Sem.run_pure, Result.andThen_ok, hrun]
    have e : a.put o.dst undef = a := by rw [hdst]; rfl
    refine hK _ _ ?_
    rw [e]
    exact h _ (blk_setCells _ _ _ _ hk) (only_setCells _ _ _ (Only.refl _ _))

/-- Two bytes of a row of one's own are written. -/
theorem own_part {w : World} {B e n g cap : Nat} {l1 l2 l3 v : List Value} (h : w.ownsRow B e 1 (.slice (some ⟨g, 0, none⟩) n cap) n (l1 ++ l2 ++ l3)) (hv : v.length = l2.length) :
    ∃ cur, Blk w g cur e ∧ l1.length + v.length ≤ cur.size ∧ ∀ w', Blk w' g (spl cur l1.length v) e → w'.ownsRow B e 1 (.slice (some ⟨g, 0, none⟩) n cap) n (l1 ++ v ++ l3) := by
  have hl := h.1
  rcases h.2 with ⟨h0, _⟩ | ⟨g', cap', cur, e1, hb, hg, hn, hm, hs, ht⟩
  · cases h0
  · cases e1
    have hc : cur = (l1 ++ l2 ++ (l3 ++ cur.toList.drop n)).toArray := by
      apply Array.ext'
      have := List.take_append_drop n cur.toList
      rw [Nat.mul_one] at ht
      rw [ht] at this
      simpa [List.append_assoc] using this.symm
    have hz : cur.size = (l1 ++ l2 ++ (l3 ++ cur.toList.drop n)).length := by
      have := congrArg Array.size hc
      simpa using this
    refine ⟨cur, hg, by rw [hz]; simp; omega, fun w' hk => ⟨by rw [← hl]; simp; omega, .inr ⟨g, cap, _, rfl, hb, hk, hn, hm, by rw [spl_size]; exact hs, ?_⟩⟩⟩
    rw [hc, spl_mid l1 l2 _ v hv]
    simp only [List.append_assoc]
    rw [← List.append_assoc, ← List.append_assoc, Nat.mul_one]
    have hln : (l1 ++ v ++ l3).length = n := by
      have := hl
      simp only [List.length_append] at this ⊢
      omega
    rw [← hln, ← List.append_assoc l1 v l3]
    exact List.take_left
end Go.Proofs.YtmclegfejkoaoaaDoor
