/- A zone that came in, opened. -/
import Derived.Test.YtghapfpapjgbjaaZnM
import Derived.Deep.Slices
import Derived.Deep.Strs
import Derived.ChangeSame
namespace Go.Proofs.Ytghapfpapjgbjaa
open Go.RowKit Go.Deep
set_option linter.unusedVariables false

section
variable {H : Type} {enc : TypeId × Value → H} {w : World} {base : Nat} {held : Bool}

theorem set_c : Try.prog.cellsOf 9 = 1 ∧ Try.prog.cellsOf 2 = 1 ∧ Try.prog.cellsOf 41 = 1 ∧ Try.prog.cellsOf 54 = 4 := ⟨by kernel_rfl, by kernel_rfl, by kernel_rfl, by kernel_rfl⟩

theorem open_srow {fuel : Nat} {v : Value} {x : DataW H × List MemPlace} (h : DataW.trod enc Try.prog w base (fun _ => true) held fuel 41 [v] = some x) :
    ∃ ls, Nm.SRow w v ls ∧ ∀ y ∈ ls, y.size ≤ maxLen := by
  rcases Go.Deep.open_strs Try.underlying41 Try.underlying9 (by kernel_rfl) h with ⟨hcs, _⟩ | ⟨a, l, c, m, Sx, hcs, _, hl, hm, hz, _, hcell⟩
  · simp at hcs
    subst hcs
    exact ⟨[], ⟨none, 0, rfl, by simp, by decide, fun _ => rfl, fun h => absurd rfl h⟩, by simp⟩
  · simp at hcs
    subst hcs
    have hz' : m = c := by simpa using hz
    subst hz'
    refine ⟨(List.range l).map Sx, ⟨some a, m, by simp, by simpa using hl, hm, (fun h => by cases h), fun hne => ?_⟩, ?_⟩
    · have hpos : 0 < l := by
        rcases Nat.eq_zero_or_pos l with h | h
        · subst h; simp at hne
        · exact h
      obtain ⟨b, off, spot⟩ := a
      have h0 := (hcell 0 (by omega)).1
      have hspot : spot = none := by simpa [Addr.add] using World.cell?_spot h0
      subst hspot
      refine ⟨b, off, rfl, ?_⟩
      intro i x hx
      have hi : i < l := by
        have := (List.getElem?_eq_some_iff.1 hx).1
        simpa using this
      have := (hcell i (by omega)).1
      rw [Nm.addr_add] at this
      rw [this]
      simp [hi] at hx
      rw [hx]
    · intro y hy
      simp only [List.mem_map, List.mem_range] at hy
      obtain ⟨i, hi, rfl⟩ := hy
      exact (hcell i (by omega)).2

set_option maxRecDepth 100000 in
theorem open_set {fuel : Nat} {cs : List Value} {x : DataW H × List MemPlace} (h : DataW.trod enc Try.prog w base (fun _ => true) held fuel 54 cs = some x) (hl : cs.length = 4) :
    ∃ p : Zp, cs = zpV p ∧ Nm.SRow w p.2 p.1.da ∧ p.1.own.size ≤ maxLen ∧ ∀ y ∈ p.1.da, y.size ≤ maxLen := by
  obtain ⟨xs, n, _, _, _, hxl, hf⟩ := DataW.trod_struct Try.underlying54 h
  obtain ⟨c1, c2, c3, _⟩ := set_c
  match cs, hl with
  | [v0, v1, v2, v3], _ =>
    have g0 := hf 0 _ rfl
    have g1 := hf 1 _ rfl
    have g2 := hf 2 _ rfl
    have g3 := hf 3 _ rfl
    match xs, hxl with
    | [y0, y1, y2, y3], _ =>
      simp [c1, c2, c3] at g0 g1 g2 g3
      obtain ⟨s0, e0, _, w0⟩ := DataW.trod_string Try.underlying9 g0
      obtain ⟨n1, e1, _, w1⟩ := DataW.trod_int Try.underlying2 g1
      obtain ⟨n2, e2, _, w2⟩ := DataW.trod_int Try.underlying2 g2
      obtain ⟨ls, hs, hy⟩ := open_srow g3
      simp at e0 e1 e2
      subst e0 e1 e2
      exact ⟨(⟨s0, n1, n2, ls⟩, v3), rfl, hs, w0, hy⟩

theorem choose_zp {n : Nat} {p : Nat → Zp → Prop} (h : ∀ i, i < n → ∃ x, p i x) : ∃ f : Nat → Zp, ∀ i, i < n → p i (f i) := by
  classical
  refine ⟨fun i => if hi : i < n then Classical.choose (h i hi) else (⟨.empty, 0, 0, []⟩, .slice none 0 0), fun i hi => ?_⟩
  simp only [dif_pos hi]
  exact Classical.choose_spec (h i hi)

set_option maxRecDepth 100000 in
theorem open_sets {t : TypeId} {fuel : Nat} {v : Value} {x : DataW H × List MemPlace} (ht : Try.prog.underlying t = some (.slice 54)) (h : DataW.trod enc Try.prog w base (fun _ => true) held fuel t [v] = some x) :
    ∃ ps : List Zp, ZRow w v ps ∧ ZFit ps := by
  rcases open_slice ht h with ⟨e, _⟩ | ⟨a, len, cap, m, n, D, Pl, e, hb, hl, hm, hmm, _, hx⟩
  · simp at e
    subst e
    exact ⟨[], ⟨⟨rfl, none, 0, rfl, Nat.le_refl _, by decide, fun h => absurd h (by simp)⟩, by simp⟩, by intro p hp; simp at hp⟩
  · simp at e
    subst e
    have hlm : len ≤ m := by rw [hmm]; split <;> omega
    obtain ⟨_, _, _, c4⟩ := set_c
    rw [c4] at hx
    obtain ⟨f, hf⟩ := choose_zp (n := len) (p := fun i r => (∀ j, j < 4 → w.cell? ((a.add (i * 4)).add j) = (zpV r)[j]?) ∧ Nm.SRow w r.2 r.1.da ∧ r.1.own.size ≤ maxLen ∧ ∀ y ∈ r.1.da, y.size ≤ maxLen) (fun i hi => by
      obtain ⟨cs', h1, h2⟩ := hx i (by omega)
      obtain ⟨_, hlen, hcell⟩ := World.cells?_some h1
      obtain ⟨r, rfl, q⟩ := open_set h2 hlen
      exact ⟨r, hcell, q⟩)
    refine ⟨(List.range len).map f, ⟨⟨?_, some a, cap, by simp, by simpa using hl, hm, fun hpos => ?_⟩, ?_⟩, ?_⟩
    · rw [zpVs_len]
    · have hlen : 0 < len := by simpa using hpos
      obtain ⟨b, off, spot⟩ := a
      have h0 := (hf 0 hlen).1 0 (by decide)
      have h0' : w.cell? ((Addr.mk b off spot).add (0 * 4 + 0)) = some (.string (f 0).1.own) := by rw [← add_add]; exact h0
      have hspot : spot = none := by simpa [Addr.add] using World.cell?_spot h0'
      subst hspot
      refine ⟨b, off, rfl, ?_⟩
      intro i y hy
      have hi : i < len * 4 := by
        have := (List.getElem?_eq_some_iff.1 hy).1
        rw [zpVs_len] at this
        simpa using this
      obtain ⟨k, j, hk, hj, rfl⟩ : ∃ k j, k < len ∧ j < 4 ∧ i = k * 4 + j := ⟨i / 4, i % 4, by omega, by omega, by omega⟩
      rw [zpVs_at _ k j (f k) (by simp [hk]) hj] at hy
      have := (hf k hk).1 j hj
      rw [add_add, hy, Nm.addr_add] at this
      exact this
    · intro p hp
      simp only [List.mem_map, List.mem_range] at hp
      obtain ⟨i, hi, rfl⟩ := hp
      exact (hf i hi).2.1
    · intro p hp
      simp only [List.mem_map, List.mem_range] at hp
      obtain ⟨i, hi, rfl⟩ := hp
      exact (hf i hi).2.2
end
end Go.Proofs.Ytghapfpapjgbjaa
