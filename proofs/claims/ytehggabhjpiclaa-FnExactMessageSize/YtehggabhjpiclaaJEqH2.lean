import Derived.Test.YtehggabhjpiclaaJPut
import Derived.Test.YtehggabhjpiclaaJEqQ
import Derived.Test.YtehggabhjpiclaaJBitM
import Derived.Deep.Slices
import Derived.ChangeSame
/- laws.eqHead, eqMessage over messages as they come in, by their contracts. -/
namespace Go.Proofs.Ytehggabhjpiclaa
open Go.RowKit
set_option linter.unusedVariables false

set_option maxRecDepth 100000 in
set_option maxHeartbeats 1600000 in
theorem eqHeadG_any (a0 a2 a10 : Int) (b1 b3 b4 b5 b6 b7 b8 b9 : Bool) (w : World) :
    Calls Try.prog 18 #[.agg #[.int .i64 a0, .bool b1, .int .i64 a2, .bool b3, .bool b4, .bool b5, .bool b6, .bool b7, .bool b8, .bool b9, .int .i64 a10], .agg #[.int .i64 a0, .bool b1, .int .i64 a2, .bool b3, .bool b4, .bool b5, .bool b6, .bool b7, .bool b8, .bool b9, .int .i64 a10]] w fun e w' => e = .returned (.bool true) ∧ Below w.heap.size w w' := by
  have h0 : (a0 != a0) = false := by simp
  have h2 : (a2 != a2) = false := by simp
  have h10 : (a10 != a10) = false := by simp
  go_enter Try.func18, Try.ntmps18
  go_wp2
  go_ret
  exact ⟨rfl, ((Below.refl _ _).alloc (Nat.le_refl _) _).alloc (by simp) _⟩

set_option maxRecDepth 100000 in
set_option maxHeartbeats 3200000 in
theorem eqMessageG_any (m : Mg) (q a u x q' a' u' x' : Value) (w : World) (h : MRow w m q a u x) (h' : MRow w m q' a' u' x') :
    Calls Try.prog 8 #[.agg (mgV m.hd q a u x), .agg (mgV m.hd q' a' u' x')] w fun e w' => e = .returned (.bool true) ∧ Below w.heap.size w w' := by
  have hhd := fun W => eqHeadG_any m.hd.id m.hd.op m.hd.code m.hd.qr m.hd.aa m.hd.tc m.hd.rd m.hd.ra m.hd.z m.hd.ad m.hd.cd W
  have hq := fun W (hW : Below w.heap.size w W) => eqQVS_any q q' m.qs W (h.rq.below hW) (h'.rq.below hW)
  have ha := fun W (hW : Below w.heap.size w W) => eqRVS_any a a' m.an W (h.ra.below hW) (h'.ra.below hW)
  have hu := fun W (hW : Below w.heap.size w W) => eqRVS_any u u' m.au W (h.ru.below hW) (h'.ru.below hW)
  have hx := fun W (hW : Below w.heap.size w W) => eqRVS_any x x' m.ex W (h.rx.below hW) (h'.rx.below hW)
  have hB := ((Below.refl w.heap.size w).alloc (Nat.le_refl _) (.cells (mgV m.hd q a u x) 35)).alloc (by simp) (.cells (mgV m.hd q' a' u' x') 35)
  have k0 := blk_alloc (blk_new w (mgV m.hd q a u x) 35) (.cells (mgV m.hd q' a' u' x') 35)
  have hz1 : (w.alloc (.cells (mgV m.hd q a u x) 35)).heap.size = w.heap.size + 1 := by simp
  have k1 := blk_new (w.alloc (.cells (mgV m.hd q a u x) 35)) (mgV m.hd q' a' u' x') 35
  rw [hz1] at k1
  clear hz1
  obtain ⟨_, qa, qc, rfl, _⟩ := h.rq
  obtain ⟨_, aa, ac, rfl, _⟩ := h.ra
  obtain ⟨_, ua, uc, rfl, _⟩ := h.ru
  obtain ⟨_, xa, xc, rfl, _⟩ := h.rx
  obtain ⟨_, qa', qc', rfl, _⟩ := h'.rq
  obtain ⟨_, aa', ac', rfl, _⟩ := h'.ra
  obtain ⟨_, ua', uc', rfl, _⟩ := h'.ru
  obtain ⟨_, xa', xc', rfl, _⟩ := h'.rx
  clear h h'
  obtain ⟨⟨i0, q1, i2, q3, q4, q5, q6, q7, q8, q9, i10⟩, qs, an, au, ex⟩ := m
  simp only [mgV] at *
  go_enter Try.func8, Try.ntmps8
  go_wp2_with fail
  refine (hhd _).mono ?_
  rintro e w1 ⟨rfl, b1⟩
  have y0 := blk_below k0 b1
  have y1 := blk_below k1 b1
  have B1 := Nm.below_two hB b1
  have r0 := fun i => blk_cell y0 i
  have r1 := fun i => blk_cell y1 i
  clear k0 k1 hB b1
  go_wp2_with fail
  refine (hq _ B1).mono ?_
  rintro e w2 ⟨rfl, b2⟩
  have y0 := blk_below y0 b2
  have y1 := blk_below y1 b2
  have B2 := Nm.below_two B1 b2
  have r0 := fun i => blk_cell y0 i
  have r1 := fun i => blk_cell y1 i
  go_wp2_with fail
  refine (ha _ B2).mono ?_
  rintro e w3 ⟨rfl, b3⟩
  have y0 := blk_below y0 b3
  have y1 := blk_below y1 b3
  have B3 := Nm.below_two B2 b3
  have r0 := fun i => blk_cell y0 i
  have r1 := fun i => blk_cell y1 i
  go_wp2_with fail
  refine (hu _ B3).mono ?_
  rintro e w4 ⟨rfl, b4⟩
  have y0 := blk_below y0 b4
  have y1 := blk_below y1 b4
  have B4 := Nm.below_two B3 b4
  have r0 := fun i => blk_cell y0 i
  have r1 := fun i => blk_cell y1 i
  go_wp2_with fail
  refine (hx _ B4).mono ?_
  rintro e w5 ⟨rfl, b5⟩
  go_wp2
  go_ret
  exact ⟨rfl, Nm.below_two B4 b5⟩
end Go.Proofs.Ytehggabhjpiclaa
/- A slice of records that came in, opened. -/
namespace Go.Proofs.Ytehggabhjpiclaa
open Go.RowKit Go.Deep
set_option linter.unusedVariables false

section
variable {H : Type} {enc : TypeId × Value → H} {w : World} {base : Nat} {spare : Nat → Bool} {held : Bool}

theorem rr_c : Try.prog.cellsOf 9 = 1 ∧ Try.prog.cellsOf 2 = 1 ∧ Try.prog.cellsOf 55 = 5 := ⟨by kernel_rfl, by kernel_rfl, by kernel_rfl⟩

set_option maxRecDepth 100000 in
theorem open_rr {fuel : Nat} {cs : List Value} {x : DataW H × List MemPlace} (h : DataW.trod enc Try.prog w base spare held fuel 55 cs = some x) (hl : cs.length = 5) :
    ∃ r : Rr, cs = rvV r ∧ r.own.size ≤ maxLen ∧ r.da.size ≤ maxLen ∧ (Lit.int .i64 r.ty).wf = true ∧ (Lit.int .i64 r.cl).wf = true ∧ (Lit.int .i64 r.tt).wf = true := by
  obtain ⟨xs, n, _, _, _, hxl, hf⟩ := DataW.trod_struct Try.underlying55 h
  obtain ⟨c1, c2, _⟩ := rr_c
  match cs, hl with
  | [v0, v1, v2, v3, v4], _ =>
    have g0 := hf 0 _ rfl
    have g1 := hf 1 _ rfl
    have g2 := hf 2 _ rfl
    have g3 := hf 3 _ rfl
    have g4 := hf 4 _ rfl
    match xs, hxl with
    | [y0, y1, y2, y3, y4], _ =>
      simp [c1, c2] at g0 g1 g2 g3 g4
      obtain ⟨s0, e0, _, w0⟩ := DataW.trod_string Try.underlying9 g0
      obtain ⟨n1, e1, _, w1⟩ := DataW.trod_int Try.underlying2 g1
      obtain ⟨n2, e2, _, w2⟩ := DataW.trod_int Try.underlying2 g2
      obtain ⟨n3, e3, _, w3⟩ := DataW.trod_int Try.underlying2 g3
      obtain ⟨s4, e4, _, w4⟩ := DataW.trod_string Try.underlying9 g4
      simp at e0 e1 e2 e3 e4
      subst e0 e1 e2 e3 e4
      exact ⟨⟨s0, n1, n2, n3, s4⟩, rfl, w0, w4, w1, w2, w3⟩

theorem rr_default : Nonempty Rr := ⟨⟨.empty, 0, 0, 0, .empty⟩⟩

theorem choose_rr {n : Nat} {p : Nat → Rr → Prop} (h : ∀ i, i < n → ∃ x, p i x) : ∃ f : Nat → Rr, ∀ i, i < n → p i (f i) := by
  classical
  refine ⟨fun i => if hi : i < n then Classical.choose (h i hi) else ⟨.empty, 0, 0, 0, .empty⟩, fun i hi => ?_⟩
  simp only [dif_pos hi]
  exact Classical.choose_spec (h i hi)

theorem rv_range (f : Nat → Rr) : ∀ (n k j : Nat), k < n → j < 5 → (rvVs ((List.range n).map f))[k * 5 + j]? = (rvV (f k))[j]? := by
  intro n k j hk hj
  exact rvVs_at _ k j (f k) (by simp [hk]) hj

set_option maxRecDepth 100000 in
theorem open_rrs {t : TypeId} {fuel : Nat} {v : Value} {x : DataW H × List MemPlace} (ht : Try.prog.underlying t = some (.slice 55)) (h : DataW.trod enc Try.prog w base spare held fuel t [v] = some x) :
    ∃ xs : List Rr, CRow w v xs.length 5 (rvVs xs) ∧ ∀ r ∈ xs, r.own.size ≤ maxLen ∧ r.da.size ≤ maxLen ∧ (Lit.int .i64 r.ty).wf = true ∧ (Lit.int .i64 r.cl).wf = true ∧ (Lit.int .i64 r.tt).wf = true := by
  rcases open_slice ht h with ⟨e, _⟩ | ⟨a, len, cap, m, n, D, Pl, e, hb, hl, hm, hmm, _, hx⟩
  · simp at e
    subst e
    exact ⟨[], ⟨rfl, none, 0, rfl, Nat.le_refl _, by decide, fun h => absurd h (by simp)⟩, by simp⟩
  · simp at e
    subst e
    have hlm : len ≤ m := by rw [hmm]; split <;> omega
    obtain ⟨_, _, c5⟩ := rr_c
    rw [c5] at hx
    obtain ⟨f, hf⟩ := choose_rr (n := len) (p := fun i r => (∀ j, j < 5 → w.cell? ((a.add (i * 5)).add j) = (rvV r)[j]?) ∧ r.own.size ≤ maxLen ∧ r.da.size ≤ maxLen ∧ (Lit.int .i64 r.ty).wf = true ∧ (Lit.int .i64 r.cl).wf = true ∧ (Lit.int .i64 r.tt).wf = true) (fun i hi => by
      obtain ⟨cs', h1, h2⟩ := hx i (by omega)
      obtain ⟨_, hlen, hcell⟩ := World.cells?_some h1
      obtain ⟨r, rfl, q⟩ := open_rr h2 hlen
      exact ⟨r, hcell, q⟩)
    refine ⟨(List.range len).map f, ⟨?_, some a, cap, by simp, by simpa using hl, hm, fun hpos => ?_⟩, ?_⟩
    · rw [rvVs_len]
    · have hlen : 0 < len := by simpa using hpos
      obtain ⟨b, off, spot⟩ := a
      have h0 := (hf 0 hlen).1 0 (by decide)
      have h0' : w.cell? ((Addr.mk b off spot).add (0 * 5 + 0)) = some (.string (f 0).own) := by rw [← add_add]; exact h0
      have hspot : spot = none := by simpa [Addr.add] using World.cell?_spot h0'
      subst hspot
      refine ⟨b, off, rfl, ?_⟩
      intro i y hy
      have hi : i < len * 5 := by
        have := (List.getElem?_eq_some_iff.1 hy).1
        rw [rvVs_len] at this
        simpa using this
      obtain ⟨k, j, hk, hj, rfl⟩ : ∃ k j, k < len ∧ j < 5 ∧ i = k * 5 + j := ⟨i / 5, i % 5, by omega, by omega, by omega⟩
      rw [rv_range f len k j hk hj] at hy
      have := (hf k hk).1 j hj
      rw [add_add, hy, Nm.addr_add] at this
      exact this
    · intro r hr
      simp only [List.mem_map, List.mem_range] at hr
      obtain ⟨i, hi, rfl⟩ := hr
      exact (hf i hi).2
end
end Go.Proofs.Ytehggabhjpiclaa
