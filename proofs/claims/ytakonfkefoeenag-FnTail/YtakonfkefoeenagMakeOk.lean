/- MakeName of labels that fit. -/
import Derived.Test.YtakonfkefoeenagMakeM
namespace Go.Proofs.Ytakonfkefoeenag
open Go.RowKit

theorem wsum_two : ∀ (ls : List ByteArray), (∀ x ∈ ls, 1 ≤ x.size ∧ x.size ≤ 63) → 2 * ls.length ≤ Nm.wsum ls := by
  intro ls
  induction ls with
  | nil => intro _; simp
  | cons x r ih =>
    intro h
    have h1 := h x List.mem_cons_self
    have h2 := ih (fun y hy => h y (List.mem_cons_of_mem _ hy))
    simp only [Nm.wsum, List.length_cons]; omega

theorem make_wire_ok {ls : List ByteArray} (h : ∀ x ∈ ls, 1 ≤ x.size ∧ x.size ≤ 63) : makeS ls = (wireS ls, wireC ls) := by
  have hb : ls.any badB = false := by
    rw [List.any_eq_false]
    intro x hx
    have h1 := h x hx
    have h2 : badB x = false := by rw [badB, decide_eq_false]; omega
    simp [h2]
  by_cases hl : 127 < ls.length
  · have := wsum_two ls h
    rw [make_many hl, wireS, wireC, if_pos (by omega), if_pos (by omega)]
  · exact make_wire (by omega) hb

end Go.Proofs.Ytakonfkefoeenag
