import Derived.Test.YtakonfkefoeenagRow8
import Derived.Test.YtakonfkefoeenagDraw11
import Derived.Test.YtakonfkefoeenagTailM
import Derived.Test.YtakonfkefoeenagSRepl
import Derived.Test.YtakonfkefoeenagLabelsI
import Derived.Test.YtakonfkefoeenagSame
import Derived.Test.YtakonfkefoeenagRows
import Derived.WalkKit
import Derived.ProofKit
import Derived.OpenShut
import Derived.ShutString
import Derived.Below
import Derived.ChangeOld
/- The law FnTail: its walk. -/
namespace Go.Proofs.Ytakonfkefoeenag
open Go.RowKit
set_option linter.unusedVariables false

theorem sreplTail_of {a b c u : ByteArray} {k : Int} (h : replS a b c = (u, k)) (ha : a.size ≤ maxLen) (hb : b.size ≤ maxLen) (hc : c.size ≤ maxLen) (W : World) : Calls Try.prog 10 #[.string a, .string b, .string c] W fun e w' => e = .returned (.tuple #[.string u, .int .i64 k]) ∧ Below W.heap.size W w' := by
  have h1 := specReplaceTail_any a b c W ha hb hc
  rw [h] at h1
  exact h1

theorem replTail_of {a b c u : ByteArray} {k : Int} (h : replS a b c = (u, k)) (ha : a.size ≤ maxLen) (hb : b.size ≤ maxLen) (hc : c.size ≤ maxLen) (W : World) : Calls Try.prog 11 #[.string a, .string b, .string c] W fun e w' => e = .returned (.tuple #[.string u, .int .i64 k]) ∧ Below W.heap.size W w' := by
  have h1 := implReplaceTail_any a b c W ha hb hc
  rw [h] at h1
  exact h1

theorem same_of {a b : ByteArray} {c : Bool} (h : sameS a b = c) (ha : a.size ≤ maxLen) (hb : b.size ≤ maxLen) (W : World) : Calls Try.prog 14 #[.string a, .string b] W fun e w' => e = .returned (.bool c) ∧ Below W.heap.size W w' := by
  have h1 := implSameName_any a b W ha hb
  rw [h] at h1
  exact h1

theorem under_of {a b : ByteArray} {c : Bool} (h : isUnderS a b = c) (ha : a.size ≤ maxLen) (hb : b.size ≤ maxLen) (W : World) : Calls Try.prog 12 #[.string a, .string b] W fun e w' => e = .returned (.bool c) ∧ Below W.heap.size W w' := by
  have h1 := implIsUnder_any a b W ha hb
  rw [h] at h1
  exact h1

theorem labels_of (s : ByteArray) {n : Nat} (h : ((Nm.split s).getD []).length = n) (hs : s.size ≤ maxLen) (W : World) : Calls Try.prog 13 #[.string s] W fun e w' => ∃ a c, e = .returned (.slice a n c) ∧ Below W.heap.size W w' := by
  refine (implLabels_any s W hs).mono ?_
  rintro e w' ⟨v, rfl, hown, hb⟩
  obtain ⟨a, cap, rfl, _⟩ := Nm.SRow.of_owns hown
  rw [h]
  exact ⟨a, cap, rfl, hb⟩

theorem labels_le {s : ByteArray} {n : Nat} (h : ((Nm.split s).getD []).length = n) : n ≤ 255 := by
  subst h
  cases hq : Nm.split s with
  | none => simp
  | some ls => have := Nm.split_size hq; have := Nm.length_le_wsum ls; simp; omega

set_option maxRecDepth 100000 in
set_option maxHeartbeats 1600000 in
theorem fnTail_walk (a0 : Option Addr) (len0 cap0 : Nat) (z0 : List Int) (w : World) (w0 : Row8 w a0 len0 cap0 z0) :
    Calls Try.prog 4 #[.slice a0 len0 cap0] w fun e w' => e = .returned (.bool true) ∧ Below w.heap.size w w' := by
  by_cases hl0 : 1048576 < len0
  · have hl0' : (1048576 : Int) < (len0 : Int) := by omega
    go_enter Try.func4, Try.ntmps4
    go_wp2
    go_ret
    exact ⟨rfl, Below.refl _ _⟩
  have hl0' : (len0 : Int) ≤ 1048576 := by omega
  go_enter Try.func4, Try.ntmps4
  go_wp2_with fail
  refine (drawReplaceTail_any a0 len0 cap0 w (row8_code w0) (by omega)).mono ?_
  rintro e v1 ⟨a, b, c, rfl, hsa, hsb, hsc, hB1⟩
  replace hsa : a.size ≤ maxLen := by unfold maxLen; omega
  replace hsb : b.size ≤ maxLen := by unfold maxLen; omega
  replace hsc : c.size ≤ maxLen := by unfold maxLen; omega
  clear w0 hl0
  by_cases hz : (replS a b c).2 = 0
  · obtain ⟨g, k, h1, h2, h3, h4, h5, h6, h7⟩ := tail_facts hz
    have u1 : (g.toList != g.toList) = false := by simp
    have u2 : (g.toList == g.toList) = true := by simp
    clear hz
    generalize hng : ((Nm.split g).getD []).length = ng at *
    generalize hnc : ((Nm.split c).getD []).length = nc at *
    generalize hna : ((Nm.split a).getD []).length = na at *
    generalize hnb : ((Nm.split b).getD []).length = nb at *
    have lg := labels_le hng
    have lc := labels_le hnc
    have la := labels_le hna
    have lb := labels_le hnb
    have h4' : ((ng : Int) - (nc : Int) == (na : Int) - (nb : Int)) = true := by rw [beq_iff_eq]; exact h4
    go_wp2_with fail
    refine (sreplTail_of h1 hsa hsb hsc _).mono ?_
    rintro e v2 ⟨rfl, hb2⟩
    have hB2 := Nm.below_two hB1 hb2
    go_wp2_with fail
    refine (replTail_of h1 hsa hsb hsc _).mono ?_
    rintro e v3 ⟨rfl, hb3⟩
    have hB3 := Nm.below_two hB2 hb3
    go_wp2_with fail
    refine (replTail_of h5 h2 hsc hsb _).mono ?_
    rintro e v4 ⟨rfl, hb4⟩
    have hB4 := Nm.below_two hB3 hb4
    go_wp2_with fail
    refine (under_of h3 h2 hsc _).mono ?_
    rintro e v5 ⟨rfl, hb5⟩
    have hB5 := Nm.below_two hB4 hb5
    go_wp2_with fail
    refine (labels_of g hng h2 _).mono ?_
    rintro e v6 ⟨p6, q6, rfl, hb6⟩
    have hB6 := Nm.below_two hB5 hb6
    go_wp2_with fail
    refine (labels_of c hnc hsc _).mono ?_
    rintro e v7 ⟨p7, q7, rfl, hb7⟩
    have hB7 := Nm.below_two hB6 hb7
    go_wp2_with fail
    refine (labels_of a hna hsa _).mono ?_
    rintro e v8 ⟨p8, q8, rfl, hb8⟩
    have hB8 := Nm.below_two hB7 hb8
    go_wp2_with fail
    refine (labels_of b hnb hsb _).mono ?_
    rintro e v9 ⟨p9, q9, rfl, hb9⟩
    have hB9 := Nm.below_two hB8 hb9
    go_wp2_with fail
    refine (same_of h7 h6 hsa _).mono ?_
    rintro e v10 ⟨rfl, hb10⟩
    have hB10 := Nm.below_two hB9 hb10
    go_wp2
    go_ret
    exact ⟨rfl, hB10⟩
  · obtain ⟨g, k, h1⟩ : ∃ g k, replS a b c = (g, k) := ⟨_, _, rfl⟩
    rw [h1] at hz
    have hz1 : (k != 0) = true := by simpa using hz
    have hz2 : (k == 0) = false := by simpa using hz
    have u1 : (g.toList != g.toList) = false := by simp
    have u2 : (g.toList == g.toList) = true := by simp
    have u3 : (k != k) = false := by simp
    have u4 : (k == k) = true := by simp
    clear hz
    go_wp2_with fail
    refine (sreplTail_of h1 hsa hsb hsc _).mono ?_
    rintro e v2 ⟨rfl, hb2⟩
    have hB2 := Nm.below_two hB1 hb2
    go_wp2_with fail
    refine (replTail_of h1 hsa hsb hsc _).mono ?_
    rintro e v3 ⟨rfl, hb3⟩
    have hB3 := Nm.below_two hB2 hb3
    go_wp2
    go_ret
    exact ⟨rfl, hB3⟩
end Go.Proofs.Ytakonfkefoeenag
namespace Go.Proofs.Ytakonfkefoeenag.fnTail
open Go.ChangeShapes Go.WideShapes Go.ChangeAt Go.RowKit
open Go.ChangeMaps (open_string shut_string)
set_option linter.unusedVariables false

theorem own : ownKnob Try.prog.godebug = none := by kernel_rfl
theorem laidOut : laidOutB Try.prog = true := by kernel_rfl

def IsRow (k : IntKind) (w : World) (a : Option Addr) (len cap : Nat) (zs : List Int) : Prop :=
  (a = none ∧ len = 0 ∧ cap = 0 ∧ zs = []) ∨
  ∃ x, a = some x ∧ len ≤ cap ∧ cap ≤ maxLen ∧ zs.length = cap ∧ (∀ i, i < zs.length → w.cell? (x.add i) = some (.int k (zs.getD i 0))) ∧ ∀ n ∈ zs, (Lit.int k n).wf = true

theorem walk (a0 : Option Addr) (len0 cap0 : Nat) (z0 : List Int) (w : World) (w0 : IsRow .u8 w a0 len0 cap0 z0) :
    Calls Try.prog 4 #[.slice a0 len0 cap0] w fun e w' => e = .returned (.bool true) ∧ Below w.heap.size w w' :=
  fnTail_walk (a0 := a0) (len0 := len0) (cap0 := cap0) (z0 := z0) (w := w) (w0 := w0)

set_option maxRecDepth 100000 in
theorem lifted (os : Os) (started : os.Started) (H : Type) (enc : TypeId × Value → H) :
    ReturnsInHanded {} Try.checked os 4 .any (Rows.fnTailSpec.pre6 enc Try.prog Try.f4 Rows.fnTailRow.domain false) (Rows.fnTailSpec.post enc Try.prog Try.f4 false true false false) := by
  refine returnsInHanded_of_change (C := Try.checked) own started (by kernel_rfl) Try.func4
    (ChangeSpec.witness6 (enc := enc) (C := Try.checked) false ⟨#[], #[.slice none 0 0], []⟩ 8 (by kernel_rfl) (by kernel_rfl) (by kernel_rfl) (by kernel_rfl)) ?_
  intro W base args ds gs before hval0 hW hcnd _
  have hval : ∀ (j : Nat) t v, Try.f4.params[j]? = some t → args[j]? = some v → Value.okWide Try.prog W .any base t v := hval0
  have hW' := hW
  obtain ⟨p, q, hA0, hV, rfl, hfz, hnd⟩ := hW
  have hA : DataW.TrodAll enc Try.prog W 0 (fun _ => true) true Try.f4.params.toList args.toList ds p := hA0
  rw [Try.params4] at hA hval
  obtain ⟨v0, vs0, d0, ds0, p0, q0, hargs, rfl, rfl, h0, r0⟩ := trodAll_cons hA
  obtain ⟨rfl, rfl, rfl⟩ := trodAll_nil r0
  obtain rfl : args = #[v0] := by cases args; simp_all
  obtain ⟨rfl, rfl⟩ := trodVars_none hV
  obtain ⟨a0, len0, cap0, rfl⟩ := okWide_slice Try.underlying24 (hval 0 24 v0 rfl rfl)
  have k0 := h0
  have lt0 : ∀ x ∈ p0, x.block < W.heap.size := by obtain ⟨m, hm⟩ := k0; exact DataW.trod_lt m _ _ _ hm
  obtain ⟨z0, w0⟩ : ∃ zs, IsRow .u8 W a0 len0 cap0 zs := by
    obtain ⟨fuel, hf⟩ := h0
    rcases open_ints Try.underlying24 Try.underlying5 (by kernel_rfl) hf with ⟨hcs, _⟩ | ⟨x, l, c, zs, hcs, _, hl, hm, hz, _, hcell, hwz⟩
    · simp [Value.cells] at hcs
      obtain ⟨rfl, rfl, rfl⟩ := hcs
      exact ⟨[], .inl ⟨rfl, rfl, rfl, rfl⟩⟩
    · simp [Value.cells] at hcs
      obtain ⟨rfl, rfl, rfl⟩ := hcs
      exact ⟨zs, .inr ⟨_, rfl, hl, hm, by simpa using hz, hcell, hwz⟩⟩
  clear hA0 hval0
  refine (walk a0 len0 cap0 z0 W w0).mono fun e W' ⟨he, bel⟩ => ?_
  subst he
  exact ⟨_, rfl, _, _, _, [], _, [], hW', trodAll_mk1 (shut_bool Try.underlying4 _), (trodAll_cons_mk (Below.trod laidOut (by kernel_rfl) (of_decide_eq_true (by kernel_rfl)) k0 bel lt0) trodAll_mk0), rfl, bel.frame _, fun h => by cases h⟩

theorem over : Rows.fnTailRow.holds Try.pinned (OpenSpec.ofChange Rows.fnTailSpec) :=
  OpenClaim.holds_of_wide 4 Try.f4 rfl rfl rfl rfl rfl rfl rfl ⟨rfl, rfl, rfl, rfl, rfl⟩ rfl rfl rfl rfl rfl (by kernel_rfl) Try.func4 (by kernel_rfl)
    (of_decide_eq_true (by kernel_rfl)) (by unfold Func.isWrapper; first | (rw [if_pos (by decide +kernel)]; kernel_rfl) | (rw [if_neg (by decide +kernel)]; exact ⟨rfl, rfl⟩))
    (fun os started H enc _ => lifted os started H enc)

end Go.Proofs.Ytakonfkefoeenag.fnTail
namespace Go.Proofs.Ytakonfkefoeenag
theorem fnTail_holds : Rows.FnTailSaid := fnTail.over
#print axioms fnTail_holds
end Go.Proofs.Ytakonfkefoeenag
