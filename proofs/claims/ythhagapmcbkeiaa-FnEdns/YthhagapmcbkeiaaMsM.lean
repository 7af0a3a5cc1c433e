import Derived.Test.YthhagapmcbkeiaaIwB
/- How long a message is at most: mathematics. -/
namespace Go.Proofs.Ythhagapmcbkeiaa
open Go.RowKit
set_option linter.unusedVariables false

theorem rrWs_all (m : Mg) (h : mgOK m = true) : (msgW m).1.length ≤ 30000000 := by
  simp only [mgOK, Bool.and_eq_true, decide_eq_true_eq] at h
  obtain ⟨⟨⟨⟨⟨hsm, hhd⟩, hqs⟩, han⟩, hau⟩, hex⟩ := h
  have h0 := hdW_len m
  have h1 := qqWs_len m.qs (hdW m, []) hqs
  have h2 := rrWs_len m.an (qqWs m.qs (hdW m, [])) han
  have h3 := rrWs_len m.au (rrWs m.an (qqWs m.qs (hdW m, []))) hau
  have h4 := rrWs_len m.ex (rrWs m.au (rrWs m.an (qqWs m.qs (hdW m, [])))) hex
  rw [msgW]
  simp only [h0] at h1
  omega
end Go.Proofs.Ythhagapmcbkeiaa
