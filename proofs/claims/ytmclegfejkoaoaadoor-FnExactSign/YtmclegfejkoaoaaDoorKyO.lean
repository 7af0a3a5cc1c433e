import Derived.Test.YtmclegfejkoaoaaDoorRows
import Derived.WalkKit
import Derived.ProofKit
import Derived.OpenShut
import Derived.Deep.Slices
import Derived.ChangeSame
/- A key that came in, opened. -/
namespace Go.Proofs.YtmclegfejkoaoaaDoor
open Go.RowKit Go.Deep
set_option linter.unusedVariables false

section
variable {H : Type} {enc : TypeId × Value → H} {w : World} {base : Nat} {spare : Nat → Bool} {held : Bool}

theorem ky_c : Tryd.prog.cellsOf 9 = 1 ∧ Tryd.prog.cellsOf 24 = 2 := ⟨by kernel_rfl, by kernel_rfl⟩

set_option maxRecDepth 100000 in
theorem open_key {r : Reach} {b0 : Nat} {v : Value} {d : DataW H} {p : List MemPlace} (hv : Value.okWide Tryd.prog w r b0 24 v) (h : DataW.Trod enc Tryd.prog w base spare held 24 v d p) :
    ∃ kn sc : ByteArray, v = .agg #[.string kn, .string sc] ∧ kn.size ≤ maxLen ∧ sc.size ≤ maxLen := by
  obtain ⟨c1, c2⟩ := ky_c
  obtain ⟨cs, rfl, hsz⟩ := Go.WideShapes.okWide_struct Tryd.underlying24 hv
  obtain ⟨fuel, hf⟩ := h
  obtain ⟨xs, n, _, _, _, hxl, hf⟩ := DataW.trod_struct Tryd.underlying24 hf
  have hl : cs.toList.length = 2 := by simpa using hsz.trans c2
  obtain ⟨l⟩ := cs
  simp only [Value.cells] at hf
  have hl : l.length = 2 := hl
  clear hsz
  match l, hl with
  | [v0, v1], _ =>
    have g0 := hf 0 _ rfl
    have g1 := hf 1 _ rfl
    match xs, hxl with
    | [y0, y1], _ =>
      simp [c1] at g0 g1
      obtain ⟨s0, e0, _, w0⟩ := DataW.trod_string Tryd.underlying9 g0
      obtain ⟨s1, e1, _, w1⟩ := DataW.trod_string Tryd.underlying9 g1
      simp at e0 e1
      subst e0 e1
      exact ⟨s0, s1, rfl, w0, w1⟩
end
end Go.Proofs.YtmclegfejkoaoaaDoor
