import Derived.Test.YtmclegfejkoaoaaDoorRows
import Derived.ProofKit
import Derived.LaidMore
import Derived.OpenShut
import Derived.Below
import Derived.Lib.LaidTab
import Derived.MakeChecks
/- What a listed variable gives: its block, cell for cell. -/
namespace Go.Proofs.YtmclegfejkoaoaaDoor
open Go.RowKit Go.ChangeShapes

theorem laid_mem {P : Program} {w : World} : ∀ {l : List (String × DataW Unit)} {ps : List MemPlace}, DataW.LaidVars P w l ps → ∀ {n : String} {d : DataW Unit}, (n, d) ∈ l →
    ∃ g t cs fuel p, P.globalNamed n = some g ∧ (P.globals[g]?).map (·.type) = some t ∧ w.var? P n = some cs ∧ DataW.trod (fun _ => ()) P w 0 (fun _ => true) false fuel t cs.toList = some (d, p) := by
  intro l
  induction l with
  | nil => intro ps _ n d h; cases h
  | cons x r ih =>
    intro ps h n d hm
    obtain ⟨n0, d0⟩ := x
    obtain ⟨g, t, cs, fuel, p, q, h1, h2, h3, h4, hr, _⟩ := h
    rcases List.mem_cons.1 hm with e | e
    · cases e
      exact ⟨g, t, cs, fuel, p, h1, h2, h3, h4⟩
    · exact ih hr e

theorem var_block {P : Program} {w : World} {n : String} {g : Nat} {cs : Array Value} (hg : P.globalNamed n = some g) (h : w.var? P n = some cs) : ∃ t fr, w.heap[g]? = some (.cells cs t fr) := by
  simp only [World.var?, hg, Option.bind_some] at h
  split at h
  · rename_i c t fr hh
    cases h
    exact ⟨t, fr, hh⟩
  · cases h

/-- A listed table of integers. -/
theorem tab_of_laid {P : Program} {W : World} {l : List (String × DataW Unit)} (h : laidMet P l W) {name : String} {k : IntKind} {zs : List Int} {g : Nat} {t e : TypeId} {n : Nat}
    (hm : (name, Lib.tabData k zs) ∈ l) (hg : P.globalNamed name = some g) (hty : (P.globals[g]?).map (·.type) = some t) (ht : P.underlying t = some (.array n e)) (he : P.underlying e = some (.int k)) (hce : P.cellsOf e = 1) (hct : P.cellsOf t = n) :
    Lib.TabIs P W name k zs := by
  obtain ⟨ps, hv, _⟩ := h
  obtain ⟨g', t', cs, fuel, p, hg', ht', hvar, hd⟩ := laid_mem hv hm
  obtain rfl := Option.some.inj (hg.symm.trans hg')
  obtain rfl := Option.some.inj (hty.symm.trans ht')
  unfold Lib.TabIs
  rw [hvar, ← Lib.cells_of_tab ht he hce hct hd]

/-- A table of pairs of a text and a number. -/
def pairData {H : Type} (l : List (List UInt8 × Int)) : DataW H := .agg (l.map fun x => .agg [.lit (.string x.1), .lit (.int .i64 x.2)])
def pairCells (l : List (List UInt8 × Int)) : List Value := l.flatMap fun x => [.string ⟨x.1.toArray⟩, .int .i64 x.2]

theorem pairCells_at : ∀ (l : List (List UInt8 × Int)) (i : Nat) (x : List UInt8 × Int), l[i]? = some x → (pairCells l)[2 * i]? = some (.string ⟨x.1.toArray⟩) ∧ (pairCells l)[2 * i + 1]? = some (.int .i64 x.2) := by
  intro l
  induction l with
  | nil => intro i x h; simp at h
  | cons y r ih =>
    intro i x h
    cases i with
    | zero => simp at h; subst h; exact ⟨rfl, rfl⟩
    | succ i =>
      have e : pairCells (y :: r) = .string ⟨y.1.toArray⟩ :: .int .i64 y.2 :: pairCells r := rfl
      have := ih i x (by simpa using h)
      rw [e, show 2 * (i + 1) = 2 * i + 1 + 1 by omega, show 2 * i + 1 + 1 + 1 = (2 * i + 1) + 1 + 1 by omega]
      simpa using this
theorem pairCells_length (l : List (List UInt8 × Int)) : (pairCells l).length = 2 * l.length := by
  induction l with
  | nil => rfl
  | cons y r ih =>
    have e : pairCells (y :: r) = .string ⟨y.1.toArray⟩ :: .int .i64 y.2 :: pairCells r := rfl
    rw [e]; simp [ih]; omega

theorem cells_of_pairs {H : Type} {enc : TypeId × Value → H} {P : Program} {w : World} {base : Nat} {sp : Nat → Bool} {held : Bool} {fuel : Nat} {t e ts ti : TypeId} {f0 f1 : Field} {n : Nat} {cs : List Value} {zs : List (List UInt8 × Int)} {p : List MemPlace}
    (ht : P.underlying t = some (.array n e)) (he : P.underlying e = some (.struct #[f0, f1])) (h0 : f0.type = ts) (h1 : f1.type = ti) (o0 : f0.offset = 0) (o1 : f1.offset = 1)
    (hs : P.underlying ts = some .string) (hi : P.underlying ti = some (.int .i64)) (hcs : P.cellsOf ts = 1) (hci : P.cellsOf ti = 1) (hce : P.cellsOf e = 2) (hct : P.cellsOf t = 2 * n)
    (h : DataW.trod enc P w base sp held fuel t cs = some (pairData zs, p)) : cs = pairCells zs := by
  obtain ⟨xs, m, _, hx, hl, hxl, hel⟩ := DataW.trod_array ht h
  simp only [pairData, Prod.mk.injEq, DataW.agg.injEq] at hx
  have hx1 := hx.1
  have hzl : zs.length = n := by
    have := congrArg List.length hx1
    simp at this
    omega
  rw [hct] at hl
  apply List.ext_getElem?
  intro i
  by_cases hin : i < 2 * n
  · obtain ⟨k, hk⟩ : ∃ k, i = 2 * k ∨ i = 2 * k + 1 := ⟨i / 2, by omega⟩
    have hkn : k < n := by omega
    obtain ⟨y, hy⟩ : ∃ y, xs[k]? = some y := ⟨_, List.getElem?_eq_getElem (by omega)⟩
    obtain ⟨z, hz⟩ : ∃ z, zs[k]? = some z := ⟨_, List.getElem?_eq_getElem (by omega)⟩
    have hyz : y.1 = .agg [.lit (.string z.1), .lit (.int .i64 z.2)] := by
      have h1 := congrArg (fun l => l[k]?) hx1
      simp only [List.getElem?_map, hy, hz, Option.map_some, Option.some.injEq] at h1
      exact h1.symm
    have hek := hel k hkn
    rw [hy, hce] at hek
    obtain ⟨y0, y1, m2, hagg, _, d0, d1⟩ := trod_struct2 he hek
    rw [h0, o0, hcs] at d0
    rw [h1, o1, hci] at d1
    obtain ⟨s, c0, e0, _⟩ := DataW.trod_string hs d0
    obtain ⟨q, c1, e1, _⟩ := DataW.trod_int hi d1
    have hagg1 : y.1 = .agg [y0.1, y1.1] := by rw [hagg]
    rw [hyz, e0, e1] at hagg1
    simp only [DataW.agg.injEq, List.cons.injEq, DataW.lit.injEq, Lit.string.injEq, Lit.int.injEq, true_and, and_true] at hagg1
    have g0 : cs[2 * k]? = some (.string s) := by
      have := congrArg (fun l => l[0]?) c0
      simpa [List.getElem?_take, List.getElem?_drop, Nat.mul_comm] using this
    have g1 : cs[2 * k + 1]? = some (.int .i64 q) := by
      have := congrArg (fun l => l[0]?) c1
      simpa [List.getElem?_take, List.getElem?_drop, Nat.mul_comm] using this
    have hp := pairCells_at zs k z hz
    have es : (⟨z.1.toArray⟩ : ByteArray) = s := by rw [hagg1.1]
    rcases hk with rfl | rfl
    · rw [g0, hp.1, es]
    · rw [g1, hp.2, hagg1.2]
  · rw [List.getElem?_eq_none (by omega), List.getElem?_eq_none (by rw [pairCells_length]; omega)]

/-- A listed table of pairs: its block. -/
theorem pairs_of_laid {P : Program} {W : World} {l : List (String × DataW Unit)} (h : laidMet P l W) {name : String} {zs : List (List UInt8 × Int)} {g : Nat} {t e ts ti : TypeId} {f0 f1 : Field} {n : Nat}
    (hm : (name, pairData zs) ∈ l) (hg : P.globalNamed name = some g) (hty : (P.globals[g]?).map (·.type) = some t) (ht : P.underlying t = some (.array n e)) (he : P.underlying e = some (.struct #[f0, f1])) (h0 : f0.type = ts) (h1 : f1.type = ti) (o0 : f0.offset = 0) (o1 : f1.offset = 1)
    (hs : P.underlying ts = some .string) (hi : P.underlying ti = some (.int .i64)) (hcs : P.cellsOf ts = 1) (hci : P.cellsOf ti = 1) (hce : P.cellsOf e = 2) (hct : P.cellsOf t = 2 * n) :
    ∃ t fr, W.heap[g]? = some (.cells (pairCells zs).toArray t fr) := by
  obtain ⟨ps, hv, _⟩ := h
  obtain ⟨g', t', cs, fuel, p, hg', ht', hvar, hd⟩ := laid_mem hv hm
  obtain rfl := Option.some.inj (hg.symm.trans hg')
  obtain rfl := Option.some.inj (hty.symm.trans ht')
  obtain ⟨u, fr, hb⟩ := var_block hg hvar
  have hc := cells_of_pairs ht he h0 h1 o0 o1 hs hi hcs hci hce hct hd
  refine ⟨u, fr, ?_⟩
  rw [hb, ← hc]
end Go.Proofs.YtmclegfejkoaoaaDoor
