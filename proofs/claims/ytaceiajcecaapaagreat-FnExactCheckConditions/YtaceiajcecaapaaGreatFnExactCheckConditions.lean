import Derived.Test.YtaceiajcecaapaaGreatRows
import Derived.WalkKit
import Derived.ProofKit
import Derived.OpenShut
import Derived.ShutString
import Derived.Below
import Derived.ChangeOld
import Derived.Lib.SmallJoins
import Derived.Test.YtaceiajcecaapaaGreatLCheckConditions
namespace Go.Proofs.YtaceiajcecaapaaGreat.fnExactCheckConditions
open Go.ChangeShapes Go.WideShapes Go.ChangeAt Go.RowKit
open Go.ChangeMaps (open_string shut_string)
set_option linter.unusedVariables false

theorem own : ownKnob Tryz.prog.godebug = none := by kernel_rfl
theorem laidOut : laidOutB Tryz.prog = true := by kernel_rfl

set_option maxRecDepth 100000 in
theorem lifted (os : Os) (started : os.Started) (H : Type) (enc : TypeId × Value → H) :
    ReturnsInHanded {} Tryz.checked os 3 .any (Rows.fnExactCheckConditionsSpec.pre6 enc Tryz.prog Tryz.f3 Rows.fnExactCheckConditionsRow.domain false) (Rows.fnExactCheckConditionsSpec.post enc Tryz.prog Tryz.f3 false true false false) := by
  refine returnsInHanded_of_change (C := Tryz.checked) own started (by kernel_rfl) Tryz.func3
    (ChangeSpec.witness6 (enc := enc) (C := Tryz.checked) false ⟨#[], #[.agg #[.string ByteArray.empty, .slice none 0 0], .slice none 0 0], []⟩ 8 (by kernel_rfl) (by kernel_rfl) (by kernel_rfl) (by kernel_rfl)) ?_
  intro W base args ds gs before hval0 hW hcnd _
  have hval : ∀ (j : Nat) t v, Tryz.f3.params[j]? = some t → args[j]? = some v → Value.okWide Tryz.prog W .any base t v := hval0
  have hW' := hW
  obtain ⟨p, q, hA0, hV, rfl, hfz, hnd⟩ := hW
  have hA : DataW.TrodAll enc Tryz.prog W 0 (fun _ => true) true Tryz.f3.params.toList args.toList ds p := hA0
  rw [Tryz.params3] at hA hval
  obtain ⟨v0, vs0, d0, ds0, p0, q0, hargs, rfl, rfl, h0, r0⟩ := trodAll_cons hA
  obtain ⟨v1, vs1, d1, ds1, p1, q1, rfl, rfl, rfl, h1, r1⟩ := trodAll_cons r0
  obtain ⟨rfl, rfl, rfl⟩ := trodAll_nil r1
  obtain rfl : args = #[v0, v1] := by cases args; simp_all
  obtain ⟨rfl, rfl⟩ := trodVars_none hV
  obtain ⟨a3, len3, cap3, rfl⟩ := okWide_slice Tryz.underlying25 (hval 1 25 v1 rfl rfl)
  have k1 := h1
  have lt1 : ∀ x ∈ p1, x.block < W.heap.size := by obtain ⟨m, hm⟩ := k1; exact DataW.trod_lt m _ _ _ hm
  obtain ⟨xs, w3, w4⟩ : ∃ xs : List Rr, CRow W (.slice a3 len3 cap3) xs.length 5 (rvVs xs) ∧ ∀ r ∈ xs, r.own.size ≤ maxLen ∧ r.da.size ≤ maxLen := by
    obtain ⟨fuel, hf⟩ := h1
    obtain ⟨xs, c, f⟩ := open_rrs Tryz.underlying25 (show DataW.trod enc Tryz.prog W 0 (fun _ => true) true fuel 25 [.slice a3 len3 cap3] = _ from hf)
    exact ⟨xs, c, fun r hr => ⟨(f r hr).1, (f r hr).2.1⟩⟩
  have k0 := h0
  have lt0 : ∀ x ∈ p0, x.block < W.heap.size := by obtain ⟨m, hm⟩ := k0; exact DataW.trod_lt m _ _ _ hm
  obtain ⟨o, v, ps, rfl, w0, w1, w2⟩ : ∃ (o : ByteArray) (v : Value) (ps : List Zp), v0 = .agg #[.string o, v] ∧ ZRow W v ps ∧ ZFit ps ∧ o.size ≤ maxLen := by
    obtain ⟨a0, a1, y0, y1, n, rfl, _, _, g0, g1⟩ := Go.Joins.open_agg2 Tryz.underlying24 (by kernel_rfl) (by kernel_rfl) (hval 0 24 v0 rfl rfl) h0
    obtain ⟨s, e0, _, hs⟩ := DataW.trod_string Tryz.underlying9 g0
    obtain ⟨ps, c1, c2⟩ := open_sets Tryz.underlying22 g1
    simp at e0
    subst e0
    exact ⟨s, a1, ps, rfl, c1, c2, hs⟩
  clear hA0 hval0
  refine (fnExactCheckConditions_walk o v ps _ xs W w0 w1 w2 w3 w4).mono fun e W' ⟨he, bel⟩ => ?_
  subst he
  exact ⟨_, rfl, _, _, _, [], _, [], hW', trodAll_mk1 (shut_bool Tryz.underlying4 _), (trodAll_cons_mk (Below.trod laidOut (by kernel_rfl) (of_decide_eq_true (by kernel_rfl)) k0 bel lt0) (trodAll_cons_mk (Below.trod laidOut (by kernel_rfl) (of_decide_eq_true (by kernel_rfl)) k1 bel lt1) trodAll_mk0)), rfl, bel.frame _, fun h => by cases h⟩

theorem over : Rows.fnExactCheckConditionsRow.holds Tryz.pinned (OpenSpec.ofChange Rows.fnExactCheckConditionsSpec) :=
  OpenClaim.holds_of_wide 3 Tryz.f3 rfl rfl rfl rfl rfl rfl rfl ⟨rfl, rfl, rfl, rfl, rfl⟩ rfl rfl rfl rfl rfl (by kernel_rfl) Tryz.func3 (by kernel_rfl)
    (of_decide_eq_true (by kernel_rfl)) (by unfold Func.isWrapper; first | (rw [if_pos (by decide +kernel)]; kernel_rfl) | (rw [if_neg (by decide +kernel)]; exact ⟨rfl, rfl⟩))
    (fun os started H enc _ => lifted os started H enc)

end Go.Proofs.YtaceiajcecaapaaGreat.fnExactCheckConditions
namespace Go.Proofs.YtaceiajcecaapaaGreat
theorem fnExactCheckConditions_holds : Rows.FnExactCheckConditionsSaid := fnExactCheckConditions.over
#print axioms fnExactCheckConditions_holds
end Go.Proofs.YtaceiajcecaapaaGreat
