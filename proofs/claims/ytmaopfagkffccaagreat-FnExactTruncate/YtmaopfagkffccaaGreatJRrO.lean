import Derived.Test.YtmaopfagkffccaaGreatJMath
import Derived.Deep.Slices
import Derived.ChangeSame
import Derived.Test.YtmaopfagkffccaaGreatJCrI
import Derived.Lib.SmallJoins
/- A slice of records that came in, opened. -/
namespace Go.Proofs.YtmaopfagkffccaaGreat
open Go.RowKit Go.Deep
set_option linter.unusedVariables false

section
variable {H : Type} {enc : TypeId × Value → H} {w : World} {base : Nat} {spare : Nat → Bool} {held : Bool}

theorem rr_c : Tryz.prog.cellsOf 9 = 1 ∧ Tryz.prog.cellsOf 2 = 1 ∧ Tryz.prog.cellsOf 61 = 5 := ⟨by kernel_rfl, by kernel_rfl, by kernel_rfl⟩

set_option maxRecDepth 100000 in
theorem open_rr {fuel : Nat} {cs : List Value} {x : DataW H × List MemPlace} (h : DataW.trod enc Tryz.prog w base spare held fuel 61 cs = some x) (hl : cs.length = 5) :
    ∃ r : Rr, cs = rvV r ∧ r.own.size ≤ maxLen ∧ r.da.size ≤ maxLen ∧ (Lit.int .i64 r.ty).wf = true ∧ (Lit.int .i64 r.cl).wf = true ∧ (Lit.int .i64 r.tt).wf = true := by
  obtain ⟨xs, n, _, _, _, hxl, hf⟩ := DataW.trod_struct Tryz.underlying61 h
  obtain ⟨c1, c2, _⟩ := rr_c
  match cs, hl with
  | [v0, v1, v2, v3, v4], _ =>
    have g0 := hf 0 _ rfl
    have g1 := hf 1 _ rfl
    have g2 := hf 2 _ rfl
    have g3 := hf 3 _ rfl
    have g4 := hf 4 _ rfl
    match xs, hxl with
    | [y0, y1, y2, y3, y4], _ =>
      simp [c1, c2] at g0 g1 g2 g3 g4
      obtain ⟨s0, e0, _, w0⟩ := DataW.trod_string Tryz.underlying9 g0
      obtain ⟨n1, e1, _, w1⟩ := DataW.trod_int Tryz.underlying2 g1
      obtain ⟨n2, e2, _, w2⟩ := DataW.trod_int Tryz.underlying2 g2
      obtain ⟨n3, e3, _, w3⟩ := DataW.trod_int Tryz.underlying2 g3
      obtain ⟨s4, e4, _, w4⟩ := DataW.trod_string Tryz.underlying9 g4
      simp at e0 e1 e2 e3 e4
      subst e0 e1 e2 e3 e4
      exact ⟨⟨s0, n1, n2, n3, s4⟩, rfl, w0, w4, w1, w2, w3⟩

theorem rr_default : Nonempty Rr := ⟨⟨.empty, 0, 0, 0, .empty⟩⟩

theorem choose_rr {n : Nat} {p : Nat → Rr → Prop} (h : ∀ i, i < n → ∃ x, p i x) : ∃ f : Nat → Rr, ∀ i, i < n → p i (f i) := by
  classical
  refine ⟨fun i => if hi : i < n then Classical.choose (h i hi) else ⟨.empty, 0, 0, 0, .empty⟩, fun i hi => ?_⟩
  simp only [dif_pos hi]
  exact Classical.choose_spec (h i hi)

theorem rv_range (f : Nat → Rr) : ∀ (n k j : Nat), k < n → j < 5 → (rvVs ((List.range n).map f))[k * 5 + j]? = (rvV (f k))[j]? := by
  intro n k j hk hj
  exact rvVs_at _ k j (f k) (by simp [hk]) hj

set_option maxRecDepth 100000 in
theorem open_rrs {t : TypeId} {fuel : Nat} {v : Value} {x : DataW H × List MemPlace} (ht : Tryz.prog.underlying t = some (.slice 61)) (h : DataW.trod enc Tryz.prog w base spare held fuel t [v] = some x) :
    ∃ xs : List Rr, CRow w v xs.length 5 (rvVs xs) ∧ ∀ r ∈ xs, r.own.size ≤ maxLen ∧ r.da.size ≤ maxLen ∧ (Lit.int .i64 r.ty).wf = true ∧ (Lit.int .i64 r.cl).wf = true ∧ (Lit.int .i64 r.tt).wf = true := by
  rcases open_slice ht h with ⟨e, _⟩ | ⟨a, len, cap, m, n, D, Pl, e, hb, hl, hm, hmm, _, hx⟩
  · simp at e
    subst e
    exact ⟨[], ⟨rfl, none, 0, rfl, Nat.le_refl _, by decide, fun h => absurd h (by simp)⟩, by simp⟩
  · simp at e
    subst e
    have hlm : len ≤ m := by rw [hmm]; split <;> omega
    obtain ⟨_, _, c5⟩ := rr_c
    rw [c5] at hx
    obtain ⟨f, hf⟩ := choose_rr (n := len) (p := fun i r => (∀ j, j < 5 → w.cell? ((a.add (i * 5)).add j) = (rvV r)[j]?) ∧ r.own.size ≤ maxLen ∧ r.da.size ≤ maxLen ∧ (Lit.int .i64 r.ty).wf = true ∧ (Lit.int .i64 r.cl).wf = true ∧ (Lit.int .i64 r.tt).wf = true) (fun i hi => by
      obtain ⟨cs', h1, h2⟩ := hx i (by omega)
      obtain ⟨_, hlen, hcell⟩ := World.cells?_some h1
      obtain ⟨r, rfl, q⟩ := open_rr h2 hlen
      exact ⟨r, hcell, q⟩)
    refine ⟨(List.range len).map f, ⟨?_, some a, cap, by simp, by simpa using hl, hm, fun hpos => ?_⟩, ?_⟩
    · rw [rvVs_len]
    · have hlen : 0 < len := by simpa using hpos
      obtain ⟨b, off, spot⟩ := a
      have h0 := (hf 0 hlen).1 0 (by decide)
      have h0' : w.cell? ((Addr.mk b off spot).add (0 * 5 + 0)) = some (.string (f 0).own) := by rw [← add_add]; exact h0
      have hspot : spot = none := by simpa [Addr.add] using World.cell?_spot h0'
      subst hspot
      refine ⟨b, off, rfl, ?_⟩
      intro i y hy
      have hi : i < len * 5 := by
        have := (List.getElem?_eq_some_iff.1 hy).1
        rw [rvVs_len] at this
        simpa using this
      obtain ⟨k, j, hk, hj, rfl⟩ : ∃ k j, k < len ∧ j < 5 ∧ i = k * 5 + j := ⟨i / 5, i % 5, by omega, by omega, by omega⟩
      rw [rv_range f len k j hk hj] at hy
      have := (hf k hk).1 j hj
      rw [add_add, hy, Nm.addr_add] at this
      exact this
    · intro r hr
      simp only [List.mem_map, List.mem_range] at hr
      obtain ⟨i, hi, rfl⟩ := hr
      exact (hf i hi).2
end
end Go.Proofs.YtmaopfagkffccaaGreat
/- A message that came in, opened. -/
namespace Go.Proofs.YtmaopfagkffccaaGreat
open Go.RowKit Go.Deep
set_option linter.unusedVariables false

section
variable {H : Type} {enc : TypeId × Value → H} {w : World} {base : Nat} {spare : Nat → Bool} {held : Bool}

theorem mg_c : Tryz.prog.cellsOf 4 = 1 ∧ Tryz.prog.cellsOf 58 = 3 ∧ Tryz.prog.cellsOf 23 = 11 ∧ Tryz.prog.cellsOf 24 = 1 ∧ Tryz.prog.cellsOf 25 = 1 ∧ Tryz.prog.cellsOf 27 = 15 := ⟨by kernel_rfl, by kernel_rfl, by kernel_rfl, by kernel_rfl, by kernel_rfl, by kernel_rfl⟩

set_option maxRecDepth 100000 in
theorem open_qr {fuel : Nat} {cs : List Value} {x : DataW H × List MemPlace} (h : DataW.trod enc Tryz.prog w base spare held fuel 58 cs = some x) (hl : cs.length = 3) :
    ∃ r : Qr, cs = qvV r ∧ r.nm.size ≤ maxLen := by
  obtain ⟨xs, n, _, _, _, hxl, hf⟩ := DataW.trod_struct Tryz.underlying58 h
  obtain ⟨c1, c2, _⟩ := rr_c
  match cs, hl with
  | [v0, v1, v2], _ =>
    have g0 := hf 0 _ rfl
    have g1 := hf 1 _ rfl
    have g2 := hf 2 _ rfl
    match xs, hxl with
    | [y0, y1, y2], _ =>
      simp [c1, c2] at g0 g1 g2
      obtain ⟨s0, e0, _, w0⟩ := DataW.trod_string Tryz.underlying9 g0
      obtain ⟨n1, e1, _, w1⟩ := DataW.trod_int Tryz.underlying2 g1
      obtain ⟨n2, e2, _, w2⟩ := DataW.trod_int Tryz.underlying2 g2
      simp at e0 e1 e2
      subst e0 e1 e2
      exact ⟨⟨s0, n1, n2⟩, rfl, w0⟩

theorem choose_qr {n : Nat} {p : Nat → Qr → Prop} (h : ∀ i, i < n → ∃ x, p i x) : ∃ f : Nat → Qr, ∀ i, i < n → p i (f i) := by
  classical
  refine ⟨fun i => if hi : i < n then Classical.choose (h i hi) else ⟨.empty, 0, 0⟩, fun i hi => ?_⟩
  simp only [dif_pos hi]
  exact Classical.choose_spec (h i hi)

set_option maxRecDepth 100000 in
theorem open_qrs {t : TypeId} {fuel : Nat} {v : Value} {x : DataW H × List MemPlace} (ht : Tryz.prog.underlying t = some (.slice 58)) (h : DataW.trod enc Tryz.prog w base spare held fuel t [v] = some x) :
    ∃ xs : List Qr, CRow w v xs.length 3 (qvVs xs) ∧ ∀ r ∈ xs, r.nm.size ≤ maxLen := by
  rcases open_slice ht h with ⟨e, _⟩ | ⟨a, len, cap, m, n, D, Pl, e, hb, hl, hm, hmm, _, hx⟩
  · simp at e
    subst e
    exact ⟨[], ⟨rfl, none, 0, rfl, Nat.le_refl _, by decide, fun h => absurd h (by simp)⟩, by simp⟩
  · simp at e
    subst e
    have hlm : len ≤ m := by rw [hmm]; split <;> omega
    obtain ⟨_, c3, _⟩ := mg_c
    rw [c3] at hx
    obtain ⟨f, hf⟩ := choose_qr (n := len) (p := fun i r => (∀ j, j < 3 → w.cell? ((a.add (i * 3)).add j) = (qvV r)[j]?) ∧ r.nm.size ≤ maxLen) (fun i hi => by
      obtain ⟨cs', h1, h2⟩ := hx i (by omega)
      obtain ⟨_, hlen, hcell⟩ := World.cells?_some h1
      obtain ⟨r, rfl, q⟩ := open_qr h2 hlen
      exact ⟨r, hcell, q⟩)
    refine ⟨(List.range len).map f, ⟨?_, some a, cap, by simp, by simpa using hl, hm, fun hpos => ?_⟩, ?_⟩
    · rw [qvVs_len]
    · have hlen : 0 < len := by simpa using hpos
      obtain ⟨b, off, spot⟩ := a
      have h0 := (hf 0 hlen).1 0 (by decide)
      have h0' : w.cell? ((Addr.mk b off spot).add (0 * 3 + 0)) = some (.string (f 0).nm) := by rw [← add_add]; exact h0
      have hspot : spot = none := by simpa [Addr.add] using World.cell?_spot h0'
      subst hspot
      refine ⟨b, off, rfl, ?_⟩
      intro i y hy
      have hi : i < len * 3 := by
        have := (List.getElem?_eq_some_iff.1 hy).1
        rw [qvVs_len] at this
        simpa using this
      obtain ⟨k, j, hk, hj, rfl⟩ : ∃ k j, k < len ∧ j < 3 ∧ i = k * 3 + j := ⟨i / 3, i % 3, by omega, by omega, by omega⟩
      rw [qvVs_at _ k j (f k) (by simp [hk]) hj] at hy
      have := (hf k hk).1 j hj
      rw [add_add, hy, Nm.addr_add] at this
      exact this
    · intro r hr
      simp only [List.mem_map, List.mem_range] at hr
      obtain ⟨i, hi, rfl⟩ := hr
      exact (hf i hi).2

set_option maxRecDepth 100000 in
theorem open_hd {fuel : Nat} {cs : List Value} {x : DataW H × List MemPlace} (h : DataW.trod enc Tryz.prog w base spare held fuel 23 cs = some x) (hl : cs.length = 11) :
    ∃ r : Hr, cs = hrV r := by
  obtain ⟨xs, n, _, _, _, hxl, hf⟩ := DataW.trod_struct Tryz.underlying23 h
  obtain ⟨c1, c2, _⟩ := rr_c
  obtain ⟨cb, _⟩ := mg_c
  match cs, hl with
  | [v0, v1, v2, v3, v4, v5, v6, v7, v8, v9, v10], _ =>
    have g0 := hf 0 _ rfl
    have g1 := hf 1 _ rfl
    have g2 := hf 2 _ rfl
    have g3 := hf 3 _ rfl
    have g4 := hf 4 _ rfl
    have g5 := hf 5 _ rfl
    have g6 := hf 6 _ rfl
    have g7 := hf 7 _ rfl
    have g8 := hf 8 _ rfl
    have g9 := hf 9 _ rfl
    have g10 := hf 10 _ rfl
    match xs, hxl with
    | [y0, y1, y2, y3, y4, y5, y6, y7, y8, y9, y10], _ =>
      simp [cb, c2] at g0 g1 g2 g3 g4 g5 g6 g7 g8 g9 g10
      obtain ⟨n0, e0, _, w0⟩ := DataW.trod_int Tryz.underlying2 g0
      obtain ⟨b1, e1, _⟩ := DataW.trod_bool Tryz.underlying4 g1
      obtain ⟨n2, e2, _, w2⟩ := DataW.trod_int Tryz.underlying2 g2
      obtain ⟨b3, e3, _⟩ := DataW.trod_bool Tryz.underlying4 g3
      obtain ⟨b4, e4, _⟩ := DataW.trod_bool Tryz.underlying4 g4
      obtain ⟨b5, e5, _⟩ := DataW.trod_bool Tryz.underlying4 g5
      obtain ⟨b6, e6, _⟩ := DataW.trod_bool Tryz.underlying4 g6
      obtain ⟨b7, e7, _⟩ := DataW.trod_bool Tryz.underlying4 g7
      obtain ⟨b8, e8, _⟩ := DataW.trod_bool Tryz.underlying4 g8
      obtain ⟨b9, e9, _⟩ := DataW.trod_bool Tryz.underlying4 g9
      obtain ⟨n10, e10, _, w10⟩ := DataW.trod_int Tryz.underlying2 g10
      simp at e0 e1 e2 e3 e4 e5 e6 e7 e8 e9 e10
      subst e0 e1 e2 e3 e4 e5 e6 e7 e8 e9 e10
      exact ⟨⟨n0, b1, n2, b3, b4, b5, b6, b7, b8, b9, n10⟩, rfl⟩

set_option maxRecDepth 100000 in
theorem open_msg {r : Reach} {b0 : Nat} {v : Value} {d : DataW H} {p : List MemPlace} (hv : Value.okWide Tryz.prog w r b0 27 v) (h : DataW.Trod enc Tryz.prog w base spare held 27 v d p) :
    ∃ (m : Mg) (q a u x : Value), v = .agg (mgV m.hd q a u x) ∧ MRow w m q a u x ∧ MFit m := by
  obtain ⟨c1, c2, _⟩ := rr_c
  obtain ⟨cb, cq, ch, csq, csr, cm⟩ := mg_c
  obtain ⟨cs, rfl, hsz⟩ := Go.WideShapes.okWide_struct Tryz.underlying27 hv
  obtain ⟨fuel, hf⟩ := h
  obtain ⟨xs, n, _, _, _, hxl, hf⟩ := DataW.trod_struct Tryz.underlying27 hf
  have hl : cs.toList.length = 15 := by simpa using hsz.trans cm
  obtain ⟨l⟩ := cs
  simp only [Value.cells] at hf
  have hl : l.length = 15 := hl
  clear hsz
  match l, hl with
  | [v0, v1, v2, v3, v4, v5, v6, v7, v8, v9, v10, v11, v12, v13, v14], _ =>
    have g0 := hf 0 _ rfl
    have g1 := hf 1 _ rfl
    have g2 := hf 2 _ rfl
    have g3 := hf 3 _ rfl
    have g4 := hf 4 _ rfl
    match xs, hxl with
    | [y0, y1, y2, y3, y4], _ =>
      simp [ch, csq, csr] at g0 g1 g2 g3 g4
      obtain ⟨hr, e0⟩ := open_hd g0 rfl
      obtain ⟨qs, q1, q2⟩ := open_qrs Tryz.underlying24 g1
      obtain ⟨an, a1, a2⟩ := open_rrs Tryz.underlying25 g2
      obtain ⟨au, u1, u2⟩ := open_rrs Tryz.underlying25 g3
      obtain ⟨ex, x1, x2⟩ := open_rrs Tryz.underlying25 g4
      simp [hrV] at e0
      obtain ⟨rfl, rfl, rfl, rfl, rfl, rfl, rfl, rfl, rfl, rfl, rfl⟩ := e0
      exact ⟨⟨hr, qs, an, au, ex⟩, v11, v12, v13, v14, rfl, ⟨q1, a1, u1, x1⟩, ⟨q2, fun r hr => ⟨(a2 r hr).1, (a2 r hr).2.1⟩, fun r hr => ⟨(u2 r hr).1, (u2 r hr).2.1⟩, fun r hr => ⟨(x2 r hr).1, (x2 r hr).2.1⟩⟩⟩
end
end Go.Proofs.YtmaopfagkffccaaGreat
