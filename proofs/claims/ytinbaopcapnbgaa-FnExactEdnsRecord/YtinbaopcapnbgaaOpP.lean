/- A slice of options that came in, opened. -/
import Derived.Test.YtinbaopcapnbgaaOpS
import Derived.Deep.Slices
import Derived.ChangeSame
namespace Go.Proofs.Ytinbaopcapnbgaa
open Go.RowKit Go.Deep
set_option linter.unusedVariables false

section
variable {H : Type} {enc : TypeId × Value → H} {w : World} {base : Nat} {spare : Nat → Bool} {held : Bool}

theorem opp_c : Try.prog.cellsOf 9 = 1 ∧ Try.prog.cellsOf 2 = 1 ∧ Try.prog.cellsOf 57 = 2 := ⟨by kernel_rfl, by kernel_rfl, by kernel_rfl⟩

set_option maxRecDepth 100000 in
theorem open_op {fuel : Nat} {cs : List Value} {x : DataW H × List MemPlace} (h : DataW.trod enc Try.prog w base spare held fuel 57 cs = some x) (hl : cs.length = 2) :
    ∃ r : Int × ByteArray, cs = [.int .i64 r.1, .string r.2] ∧ r.2.size ≤ maxLen ∧ (Lit.int .i64 r.1).wf = true := by
  obtain ⟨xs, n, _, _, _, hxl, hf⟩ := DataW.trod_struct Try.underlying57 h
  obtain ⟨c1, c2, _⟩ := opp_c
  match cs, hl with
  | [v0, v1], _ =>
    have g0 := hf 0 _ rfl
    have g1 := hf 1 _ rfl
    match xs, hxl with
    | [y0, y1], _ =>
      simp [c1, c2] at g0 g1
      obtain ⟨s0, e0, _, w0⟩ := DataW.trod_int Try.underlying2 g0
      obtain ⟨s1, e1, _, w1⟩ := DataW.trod_string Try.underlying9 g1
      simp at e0 e1
      subst e0 e1
      exact ⟨(s0, s1), rfl, w1, w0⟩

theorem choose_op {n : Nat} {p : Nat → Int × ByteArray → Prop} (h : ∀ i, i < n → ∃ x, p i x) : ∃ f : Nat → Int × ByteArray, ∀ i, i < n → p i (f i) := by
  classical
  refine ⟨fun i => if hi : i < n then Classical.choose (h i hi) else (0, .empty), fun i hi => ?_⟩
  simp only [dif_pos hi]
  exact Classical.choose_spec (h i hi)

theorem op_range (f : Nat → Int × ByteArray) : ∀ (n k j : Nat), k < n → j < 2 → (opVs ((List.range n).map f))[k * 2 + j]? = [Value.int .i64 (f k).1, .string (f k).2][j]? := by
  intro n k j hk hj
  exact opVs_at _ k j (f k) (by simp [hk]) hj

set_option maxRecDepth 100000 in
theorem open_opts {t : TypeId} {fuel : Nat} {v : Value} {x : DataW H × List MemPlace} (ht : Try.prog.underlying t = some (.slice 57)) (h : DataW.trod enc Try.prog w base spare held fuel t [v] = some x) :
    ∃ xs : List (Int × ByteArray), CRow w v xs.length 2 (opVs xs) ∧ ∀ r ∈ xs, r.2.size ≤ maxLen ∧ (Lit.int .i64 r.1).wf = true := by
  rcases open_slice ht h with ⟨e, _⟩ | ⟨a, len, cap, m, n, D, Pl, e, hb, hl, hm, hmm, _, hx⟩
  · simp at e
    subst e
    exact ⟨[], ⟨rfl, none, 0, rfl, Nat.le_refl _, by decide, fun h => absurd h (by simp)⟩, by simp⟩
  · simp at e
    subst e
    have hlm : len ≤ m := by rw [hmm]; split <;> omega
    obtain ⟨_, _, c5⟩ := opp_c
    rw [c5] at hx
    obtain ⟨f, hf⟩ := choose_op (n := len) (p := fun i r => (∀ j, j < 2 → w.cell? ((a.add (i * 2)).add j) = [Value.int .i64 r.1, .string r.2][j]?) ∧ r.2.size ≤ maxLen ∧ (Lit.int .i64 r.1).wf = true) (fun i hi => by
      obtain ⟨cs', h1, h2⟩ := hx i (by omega)
      obtain ⟨_, hlen, hcell⟩ := World.cells?_some h1
      obtain ⟨r, rfl, q⟩ := open_op h2 hlen
      exact ⟨r, hcell, q⟩)
    refine ⟨(List.range len).map f, ⟨?_, some a, cap, by simp, by simpa using hl, hm, fun hpos => ?_⟩, ?_⟩
    · rw [opVs_len]
    · have hlen : 0 < len := by simpa using hpos
      obtain ⟨b, off, spot⟩ := a
      have h0 := (hf 0 hlen).1 0 (by decide)
      have h0' : w.cell? ((Addr.mk b off spot).add (0 * 2 + 0)) = some (.int .i64 (f 0).1) := by rw [← add_add]; exact h0
      have hspot : spot = none := by simpa [Addr.add] using World.cell?_spot h0'
      subst hspot
      refine ⟨b, off, rfl, ?_⟩
      intro i y hy
      have hi : i < len * 2 := by
        have := (List.getElem?_eq_some_iff.1 hy).1
        rw [opVs_len] at this
        simpa using this
      obtain ⟨k, j, hk, hj, rfl⟩ : ∃ k j, k < len ∧ j < 2 ∧ i = k * 2 + j := ⟨i / 2, i % 2, by omega, by omega, by omega⟩
      rw [op_range f len k j hk hj] at hy
      have := (hf k hk).1 j hj
      rw [add_add, hy, Nm.addr_add] at this
      exact this
    · intro r hr
      simp only [List.mem_map, List.mem_range] at hr
      obtain ⟨i, hi, rfl⟩ := hr
      exact (hf i hi).2
end
end Go.Proofs.Ytinbaopcapnbgaa
