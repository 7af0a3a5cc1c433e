import Derived.Test.YtilcbdhcojgcbaaJVfK
import Derived.Test.YtilcbdhcojgcbaaJRd8
import Derived.Test.YtilcbdhcojgcbaaJShK
/- impl.findSignature by its contract. -/
namespace Go.Proofs.Ytilcbdhcojgcbaa
open Go.RowKit
set_option linter.unusedVariables false

/-- What findSignature answers. -/
def fsV (m : Mm) : Array Value × Bool × Int := match (allR m).filter vTs with
  | [] => (sg0, false, 0)
  | [r] => (match m.ex.getLast? with
    | some x => if vTs x then (if datB r then (sgR r, true, 0) else (sg0, false, 32)) else (sg0, false, 32)
    | none => (sg0, false, 32))
  | _ => (sg0, false, 32)
theorem fsV_nil {m : Mm} (h : (allR m).filter vTs = []) : fsV m = (sg0, false, 0) := by rw [fsV, h]
theorem fsV_many {m : Mm} (h : 1 < ((allR m).filter vTs).length) : fsV m = (sg0, false, 32) := by
  rw [fsV]
  match hq : (allR m).filter vTs with
  | [] => rw [hq] at h; simp at h
  | [r] => rw [hq] at h; simp at h
  | _ :: _ :: _ => rfl
theorem fsV_none {m : Mm} {r : Rm} (h : (allR m).filter vTs = [r]) (hx : m.ex.getLast? = none) : fsV m = (sg0, false, 32) := by rw [fsV, h]; simp only [hx]
theorem fsV_not {m : Mm} {r x : Rm} (h : (allR m).filter vTs = [r]) (hx : m.ex.getLast? = some x) (ht : vTs x = false) : fsV m = (sg0, false, 32) := by rw [fsV, h]; simp only [hx, ht]; rfl
theorem fsV_one {m : Mm} {r x : Rm} (h : (allR m).filter vTs = [r]) (hx : m.ex.getLast? = some x) (ht : vTs x = true) : fsV m = if datB r then (sgR r, true, 0) else (sg0, false, 32) := by rw [fsV, h]; simp only [hx, ht]; rfl

theorem stray_all {m : Mm} {x : Rm} (hx : m.ex.getLast? = some x) : (allR m).filter vTs = (m.an ++ m.au ++ m.ex.dropLast).filter vTs ++ [x].filter vTs ∧ strayB m = (m.an ++ m.au ++ m.ex.dropLast).any vTs := by
  have e : m.ex = m.ex.dropLast ++ [x] := by
    obtain ⟨ys, hy⟩ := List.getLast?_eq_some_iff.1 hx
    rw [hy, List.dropLast_concat]
  constructor
  · rw [allR]
    conv => lhs; rw [e]
    rw [← List.filter_append, List.append_assoc (m.an ++ m.au)]
  · rw [strayB]; simp [List.any_append]
theorem stray_nil {m : Mm} (hx : m.ex.getLast? = none) : (allR m).filter vTs = (m.an ++ m.au).filter vTs ∧ strayB m = (m.an ++ m.au).any vTs := by
  have e : m.ex = [] := List.getLast?_eq_none_iff.1 hx
  constructor
  · rw [allR, e, List.append_nil]
  · rw [strayB, e]; simp [List.any_append]
theorem any_filter {xs : List Rm} : xs.any vTs = false ↔ xs.filter vTs = [] := by
  rw [List.filter_eq_nil_iff, List.any_eq_false]
theorem fsV_stray {m : Mm} (h : strayB m = true) : fsV m = (sg0, false, 32) := by
  cases hx : m.ex.getLast? with
  | none =>
    obtain ⟨e1, e2⟩ := stray_nil hx
    have hne : (allR m).filter vTs ≠ [] := by
      rw [e1]
      intro h0
      rw [e2, any_filter.2 h0] at h
      cases h
    match hq : (allR m).filter vTs, hne with
    | [r], _ => exact fsV_none hq hx
    | a :: b :: c, _ => exact fsV_many (by rw [hq]; simp)
  | some x =>
    obtain ⟨e1, e2⟩ := stray_all hx
    have hne : (m.an ++ m.au ++ m.ex.dropLast).filter vTs ≠ [] := by
      intro h0
      rw [e2, any_filter.2 h0] at h
      cases h
    cases ht : vTs x with
    | true =>
      apply fsV_many
      rw [e1, List.length_append]
      have h1 := List.length_pos_iff.2 hne
      have h2 : ([x].filter vTs).length = 1 := by simp [ht]
      omega
    | false =>
      have h2 : [x].filter vTs = [] := by simp [ht]
      rw [h2, List.append_nil] at e1
      match hq : (allR m).filter vTs with
      | [] => rw [hq] at e1; exact absurd e1.symm hne
      | [r] => exact fsV_not hq hx ht
      | a :: b :: c => exact fsV_many (by rw [hq]; simp)
theorem fsV_clean {m : Mm} (h : strayB m = false) : fsV m = match m.ex.getLast? with
    | none => (sg0, false, 0)
    | some r => if vTs r then (if datB r then (sgR r, true, 0) else (sg0, false, 32)) else (sg0, false, 0) := by
  cases hx : m.ex.getLast? with
  | none =>
    obtain ⟨e1, e2⟩ := stray_nil hx
    rw [e2] at h
    exact fsV_nil (e1.trans (any_filter.1 h))
  | some x =>
    obtain ⟨e1, e2⟩ := stray_all hx
    rw [e2] at h
    rw [any_filter.1 h, List.nil_append] at e1
    cases ht : vTs x with
    | true =>
      have : [x].filter vTs = [x] := by simp [ht]
      rw [this] at e1
      rw [fsV_one e1 hx ht]
      simp only [ht, if_true]
    | false =>
      have : [x].filter vTs = [] := by simp [ht]
      rw [this] at e1
      rw [fsV_nil e1]
      simp [ht]

theorem own_notblk {w : World} {B e s m : Nat} {v : Value} {xs : List Value} (ho : w.ownsRow B e s v m xs) {c : Nat} {cs : Array Value} {T : TypeId} (hb : Blk w c cs T) (hne : e ≠ T) : v.ownBlock ≠ some c := by
  rcases ho.2 with ⟨rfl, _⟩ | ⟨g', cap', cur, rfl, _, hh, _⟩
  · simp [Value.ownBlock]
  · simp only [Value.ownBlock, ne_eq, Option.some.injEq]
    intro e2
    subst e2
    unfold Blk at hb
    rw [hh] at hb
    simp at hb
    exact hne hb.2
theorem run_results_row3 {P : Program} {fn : Func} {tmps : Array Value} {w : World} {r s s2 : Nat} {t : TypeId} {p : Nat} {cs : Array Value} {d : TypeDesc} {v v2 : Value} (hf : fn.results = #[.cell r t, .tmp s, .tmp s2]) (ht : tmps[r]?.getD undef = .pointer (some ⟨p, 0, none⟩)) (hs : tmps[s]?.getD undef = v) (hs2 : tmps[s2]?.getD undef = v2) (hk : Blk w p cs t)
    (hu : P.underlying t = some d) (hd : (match d with | .struct _ | .array _ _ => true | _ => false) = true) (hi : (P.info? t).map (·.size) = some cs.size) : (results fn tmps).run P w = .ok (.tuple #[.agg cs, v, v2]) w := by
  have hl := run_loadVar_row w p t t cs (0, 0) d hk hu hd hi
  simp [results, hf, ht, hs, hs2, asAddr, hl]

set_option maxRecDepth 100000 in
set_option maxHeartbeats 1600000 in
theorem lists_ms (d f n1 n2 n3 n4 : Nat) (b1 b2 b3 b4 : Option Addr) (c1 c2 c3 c4 : Nat) (w : World) :
    Calls Try.prog 46 #[.agg (msA d f (.slice b1 n1 c1) (.slice b2 n2 c2) (.slice b3 n3 c3) (.slice b4 n4 c4))] w fun e w' => e = .returned (.agg #[.slice b2 n2 c2, .slice b3 n3 c3, .slice b4 n4 c4]) ∧ Below w.heap.size w w' := by
  simp only [msA]
  go_enter Try.func46, Try.ntmps46
  go_wp2
  refine bodyPost_ret (v := .agg #[.slice b2 n2 c2, .slice b3 n3 c3, .slice b4 n4 c4]) ?_ rfl ⟨rfl, ?_⟩
  · simp [results, Try.results46, go_sem, Result.andThen]
  · exact ((Below.refl _ _).alloc (Nat.le_refl _) _).alloc (by simp) _
end Go.Proofs.Ytilcbdhcojgcbaa
