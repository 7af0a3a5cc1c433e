import Derived.Test.YtoiajlgmnkoekaaJCRow
import Derived.Deep.Slices
import Derived.ChangeSame
/- A slice of records that came in, opened. -/
namespace Go.Proofs.Ytoiajlgmnkoekaa
open Go.RowKit Go.Deep
set_option linter.unusedVariables false

section
variable {H : Type} {enc : TypeId × Value → H} {w : World} {base : Nat} {spare : Nat → Bool} {held : Bool}

theorem rr_c : Try.prog.cellsOf 9 = 1 ∧ Try.prog.cellsOf 2 = 1 ∧ Try.prog.cellsOf 32 = 5 := ⟨by kernel_rfl, by kernel_rfl, by kernel_rfl⟩

set_option maxRecDepth 100000 in
theorem open_rr {fuel : Nat} {cs : List Value} {x : DataW H × List MemPlace} (h : DataW.trod enc Try.prog w base spare held fuel 32 cs = some x) (hl : cs.length = 5) :
    ∃ r : Rr, cs = rvV r ∧ r.own.size ≤ maxLen ∧ r.da.size ≤ maxLen ∧ (Lit.int .i64 r.ty).wf = true ∧ (Lit.int .i64 r.cl).wf = true ∧ (Lit.int .i64 r.tt).wf = true := by
  obtain ⟨xs, n, _, _, _, hxl, hf⟩ := DataW.trod_struct Try.underlying32 h
  obtain ⟨c1, c2, _⟩ := rr_c
  match cs, hl with
  | [v0, v1, v2, v3, v4], _ =>
    have g0 := hf 0 _ rfl
    have g1 := hf 1 _ rfl
    have g2 := hf 2 _ rfl
    have g3 := hf 3 _ rfl
    have g4 := hf 4 _ rfl
    match xs, hxl with
    | [y0, y1, y2, y3, y4], _ =>
      simp [c1, c2] at g0 g1 g2 g3 g4
      obtain ⟨s0, e0, _, w0⟩ := DataW.trod_string Try.underlying9 g0
      obtain ⟨n1, e1, _, w1⟩ := DataW.trod_int Try.underlying2 g1
      obtain ⟨n2, e2, _, w2⟩ := DataW.trod_int Try.underlying2 g2
      obtain ⟨n3, e3, _, w3⟩ := DataW.trod_int Try.underlying2 g3
      obtain ⟨s4, e4, _, w4⟩ := DataW.trod_string Try.underlying9 g4
      simp at e0 e1 e2 e3 e4
      subst e0 e1 e2 e3 e4
      exact ⟨⟨s0, n1, n2, n3, s4⟩, rfl, w0, w4, w1, w2, w3⟩

theorem rr_default : Nonempty Rr := ⟨⟨.empty, 0, 0, 0, .empty⟩⟩

theorem choose_rr {n : Nat} {p : Nat → Rr → Prop} (h : ∀ i, i < n → ∃ x, p i x) : ∃ f : Nat → Rr, ∀ i, i < n → p i (f i) := by
  classical
  refine ⟨fun i => if hi : i < n then Classical.choose (h i hi) else ⟨.empty, 0, 0, 0, .empty⟩, fun i hi => ?_⟩
  simp only [dif_pos hi]
  exact Classical.choose_spec (h i hi)

theorem rv_range (f : Nat → Rr) : ∀ (n k j : Nat), k < n → j < 5 → (rvVs ((List.range n).map f))[k * 5 + j]? = (rvV (f k))[j]? := by
  intro n k j hk hj
  exact rvVs_at _ k j (f k) (by simp [hk]) hj

set_option maxRecDepth 100000 in
theorem open_rrs {t : TypeId} {fuel : Nat} {v : Value} {x : DataW H × List MemPlace} (ht : Try.prog.underlying t = some (.slice 32)) (h : DataW.trod enc Try.prog w base spare held fuel t [v] = some x) :
    ∃ xs : List Rr, CRow w v xs.length 5 (rvVs xs) ∧ ∀ r ∈ xs, r.own.size ≤ maxLen ∧ r.da.size ≤ maxLen ∧ (Lit.int .i64 r.ty).wf = true ∧ (Lit.int .i64 r.cl).wf = true ∧ (Lit.int .i64 r.tt).wf = true := by
  rcases open_slice ht h with ⟨e, _⟩ | ⟨a, len, cap, m, n, D, Pl, e, hb, hl, hm, hmm, _, hx⟩
  · simp at e
    subst e
    exact ⟨[], ⟨rfl, none, 0, rfl, Nat.le_refl _, by decide, fun h => absurd h (by simp)⟩, by simp⟩
  · simp at e
    subst e
    have hlm : len ≤ m := by rw [hmm]; split <;> omega
    obtain ⟨_, _, c5⟩ := rr_c
    rw [c5] at hx
    obtain ⟨f, hf⟩ := choose_rr (n := len) (p := fun i r => (∀ j, j < 5 → w.cell? ((a.add (i * 5)).add j) = (rvV r)[j]?) ∧ r.own.size ≤ maxLen ∧ r.da.size ≤ maxLen ∧ (Lit.int .i64 r.ty).wf = true ∧ (Lit.int .i64 r.cl).wf = true ∧ (Lit.int .i64 r.tt).wf = true) (fun i hi => by
      obtain ⟨cs', h1, h2⟩ := hx i (by omega)
      obtain ⟨_, hlen, hcell⟩ := World.cells?_some h1
      obtain ⟨r, rfl, q⟩ := open_rr h2 hlen
      exact ⟨r, hcell, q⟩)
    refine ⟨(List.range len).map f, ⟨?_, some a, cap, by simp, by simpa using hl, hm, fun hpos => ?_⟩, ?_⟩
    · rw [rvVs_len]
    · have hlen : 0 < len := by simpa using hpos
      obtain ⟨b, off, spot⟩ := a
      have h0 := (hf 0 hlen).1 0 (by decide)
      have h0' : w.cell? ((Addr.mk b off spot).add (0 * 5 + 0)) = some (.string (f 0).own) := by rw [← add_add]; exact h0
      have hspot : spot = none := by simpa [Addr.add] using World.cell?_spot h0'
      subst hspot
      refine ⟨b, off, rfl, ?_⟩
      intro i y hy
      have hi : i < len * 5 := by
        have := (List.getElem?_eq_some_iff.1 hy).1
        rw [rvVs_len] at this
        simpa using this
      obtain ⟨k, j, hk, hj, rfl⟩ : ∃ k j, k < len ∧ j < 5 ∧ i = k * 5 + j := ⟨i / 5, i % 5, by omega, by omega, by omega⟩
      rw [rv_range f len k j hk hj] at hy
      have := (hf k hk).1 j hj
      rw [add_add, hy, Nm.addr_add] at this
      exact this
    · intro r hr
      simp only [List.mem_map, List.mem_range] at hr
      obtain ⟨i, hi, rfl⟩ := hr
      exact (hf i hi).2
end
end Go.Proofs.Ytoiajlgmnkoekaa
