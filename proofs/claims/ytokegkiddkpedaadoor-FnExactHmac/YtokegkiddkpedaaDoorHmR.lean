/- A drawn region: two copies of a block that is mixed. -/
import Derived.Test.YtokegkiddkpedaaDoorOrdI
import Derived.Test.YtokegkiddkpedaaDoorITk
import Derived.Test.YtokegkiddkpedaaDoorIWt
namespace Go.Proofs.YtokegkiddkpedaaDoor
open Go.RowKit
set_option linter.unusedVariables false

theorem wp_load_blk {P : Program} {o : Oper} {a : Act} {w : World} {K : Act → World → Prop} {Q : Exit → Act → World → Prop} (p : Operand) (t : TypeId) (ho : o.op = .load t p) (b : Nat) (cs : Array Value) (d : TypeDesc) (hk : Blk w b cs t)
    (hp : a.eval p = .pointer (some ⟨b, 0, none⟩)) (hu : P.underlying t = some d) (hd : (match d with | .struct _ | .array _ _ => true | _ => false) = true) (hi : (P.info? t).map (·.size) = some cs.size)
    (h : K (a.put o.dst (.agg cs)) w) : Oper.wp P o a w K Q := by
  unfold Oper.wp execOp
  simp only [ho, hp, Instr.loadAt, Instr.sureAddr, Sem.run_bind, Sem.run_pure, Result.andThen_ok, run_loadVar_row w b t t cs (0, 0) d hk hu hd hi]
  exact h

theorem set_at {listed : Array Bool} {i : Nat} (hi : i < listed.size) : (fun j => (listed.setIfInBounds i true).getD j false) = fun j => (j == i || listed.getD j false) := by
  funext j
  rw [Array.getD_eq_getD_getElem?, Array.getD_eq_getD_getElem?, Array.getElem?_setIfInBounds]
  by_cases h : i = j
  · subst h; simp [hi]
  · rw [if_neg h]
    have : (j == i) = false := by simp; omega
    simp [this]

/-- what is held while the region goes on; L: what has come up -/
structure HI (w0 : World) (kb x y Z : Array Value) (L : Nat → Bool) (s7 s8 s21 s22 s23 s24 : Value) (w : World) : Prop where
  be : Below w0.heap.size w0 w
  p21 : L 0 = true → s21 = .agg kb
  p22 : L 1 = true → s22 = .agg x
  p23 : L 2 = true → s23 = .agg kb
  p24 : L 3 = true → s24 = .agg y
  p7 : L 4 = true → ∃ g, s7 = .pointer (some ⟨g, 0, none⟩) ∧ w0.heap.size ≤ g ∧ Blk w g (if L 6 = true then x else Z) 31
  p8 : L 5 = true → ∃ g, s8 = .pointer (some ⟨g, 0, none⟩) ∧ w0.heap.size ≤ g ∧ Blk w g (if L 7 = true then y else Z) 31
  p78 : L 4 = true → L 5 = true → s7 ≠ s8
  q6 : L 6 = true → L 4 = true
  q7 : L 7 = true → L 5 = true

section
variable {w0 w w' : World} {kb x y Z : Array Value} {L : Nat → Bool} {s7 s8 s21 s22 s23 s24 : Value}

theorem HI.on (h : HI w0 kb x y Z L s7 s8 s21 s22 s23 s24 w) (hb : Below w.heap.size w w') : HI w0 kb x y Z L s7 s8 s21 s22 s23 s24 w' where
  be := Nm.below_two h.be hb
  p21 := h.p21
  p22 := h.p22
  p23 := h.p23
  p24 := h.p24
  p7 := fun hl => by obtain ⟨g, e, hg, hk⟩ := h.p7 hl; exact ⟨g, e, hg, blk_below hk hb⟩
  p8 := fun hl => by obtain ⟨g, e, hg, hk⟩ := h.p8 hl; exact ⟨g, e, hg, blk_below hk hb⟩
  p78 := h.p78
  q6 := h.q6
  q7 := h.q7

theorem HI.at0 (h : HI w0 kb x y Z L s7 s8 s21 s22 s23 s24 w) : HI w0 kb x y Z (fun j => j == 0 || L j) s7 s8 (.agg kb) s22 s23 s24 w :=
  ⟨h.be, fun _ => rfl, fun hl => h.p22 (by simpa using hl), fun hl => h.p23 (by simpa using hl), fun hl => h.p24 (by simpa using hl), fun hl => by simpa using h.p7 (by simpa using hl), fun hl => by simpa using h.p8 (by simpa using hl), fun h1 h2 => h.p78 (by simpa using h1) (by simpa using h2), fun hl => by simpa using h.q6 (by simpa using hl), fun hl => by simpa using h.q7 (by simpa using hl)⟩
theorem HI.at1 (h : HI w0 kb x y Z L s7 s8 s21 s22 s23 s24 w) : HI w0 kb x y Z (fun j => j == 1 || L j) s7 s8 s21 (.agg x) s23 s24 w :=
  ⟨h.be, fun hl => h.p21 (by simpa using hl), fun _ => rfl, fun hl => h.p23 (by simpa using hl), fun hl => h.p24 (by simpa using hl), fun hl => by simpa using h.p7 (by simpa using hl), fun hl => by simpa using h.p8 (by simpa using hl), fun h1 h2 => h.p78 (by simpa using h1) (by simpa using h2), fun hl => by simpa using h.q6 (by simpa using hl), fun hl => by simpa using h.q7 (by simpa using hl)⟩
theorem HI.at2 (h : HI w0 kb x y Z L s7 s8 s21 s22 s23 s24 w) : HI w0 kb x y Z (fun j => j == 2 || L j) s7 s8 s21 s22 (.agg kb) s24 w :=
  ⟨h.be, fun hl => h.p21 (by simpa using hl), fun hl => h.p22 (by simpa using hl), fun _ => rfl, fun hl => h.p24 (by simpa using hl), fun hl => by simpa using h.p7 (by simpa using hl), fun hl => by simpa using h.p8 (by simpa using hl), fun h1 h2 => h.p78 (by simpa using h1) (by simpa using h2), fun hl => by simpa using h.q6 (by simpa using hl), fun hl => by simpa using h.q7 (by simpa using hl)⟩
theorem HI.at3 (h : HI w0 kb x y Z L s7 s8 s21 s22 s23 s24 w) : HI w0 kb x y Z (fun j => j == 3 || L j) s7 s8 s21 s22 s23 (.agg y) w :=
  ⟨h.be, fun hl => h.p21 (by simpa using hl), fun hl => h.p22 (by simpa using hl), fun hl => h.p23 (by simpa using hl), fun _ => rfl, fun hl => by simpa using h.p7 (by simpa using hl), fun hl => by simpa using h.p8 (by simpa using hl), fun h1 h2 => h.p78 (by simpa using h1) (by simpa using h2), fun hl => by simpa using h.q6 (by simpa using hl), fun hl => by simpa using h.q7 (by simpa using hl)⟩
theorem HI.at4 (h : HI w0 kb x y Z L s7 s8 s21 s22 s23 s24 w) (h4 : L 4 = false) : HI w0 kb x y Z (fun j => j == 4 || L j) (.pointer (some ⟨w.heap.size, 0, none⟩)) s8 s21 s22 s23 s24 (w.alloc (.cells Z 31)) := by
  have h' := h.on ((Below.refl w.heap.size w).alloc (Nat.le_refl _) (.cells Z 31))
  refine ⟨h'.be, fun hl => h.p21 (by simpa using hl), fun hl => h.p22 (by simpa using hl), fun hl => h.p23 (by simpa using hl), fun hl => h.p24 (by simpa using hl), fun _ => ⟨_, rfl, h.be.size, ?_⟩, fun hl => by simpa using h'.p8 (by simpa using hl), fun _ h2 e => ?_, fun hl => by simp, fun hl => by simpa using h.q7 (by simpa using hl)⟩
  · have h6 : L 6 = false := by
      cases hh : L 6 with
      | false => rfl
      | true => rw [h.q6 hh] at h4; cases h4
    simpa [h6] using blk_new w Z 31
  · obtain ⟨g, e8, hg, hk⟩ := h.p8 (by simpa using h2)
    have := blk_lt hk
    rw [e8] at e
    simp only [Value.pointer.injEq, Option.some.injEq, Addr.mk.injEq] at e
    omega
theorem HI.at5 (h : HI w0 kb x y Z L s7 s8 s21 s22 s23 s24 w) (h5 : L 5 = false) : HI w0 kb x y Z (fun j => j == 5 || L j) s7 (.pointer (some ⟨w.heap.size, 0, none⟩)) s21 s22 s23 s24 (w.alloc (.cells Z 31)) := by
  have h' := h.on ((Below.refl w.heap.size w).alloc (Nat.le_refl _) (.cells Z 31))
  refine ⟨h'.be, fun hl => h.p21 (by simpa using hl), fun hl => h.p22 (by simpa using hl), fun hl => h.p23 (by simpa using hl), fun hl => h.p24 (by simpa using hl), fun hl => by simpa using h'.p7 (by simpa using hl), fun _ => ⟨_, rfl, h.be.size, ?_⟩, fun h1 _ e => ?_, fun hl => by simpa using h.q6 (by simpa using hl), fun hl => by simp⟩
  · have h7 : L 7 = false := by
      cases hh : L 7 with
      | false => rfl
      | true => rw [h.q7 hh] at h5; cases h5
    simpa [h7] using blk_new w Z 31
  · obtain ⟨g, e8, hg, hk⟩ := h.p7 (by simpa using h1)
    have := blk_lt hk
    rw [e8] at e
    simp only [Value.pointer.injEq, Option.some.injEq, Addr.mk.injEq] at e
    omega
theorem HI.at6 {g : Nat} (h : HI w0 kb x y Z L (.pointer (some ⟨g, 0, none⟩)) s8 s21 s22 s23 s24 w) (h4 : L 4 = true) (hg : w0.heap.size ≤ g) (hk : Blk w' g x 31) (ho : Only g w w') : HI w0 kb x y Z (fun j => j == 6 || L j) (.pointer (some ⟨g, 0, none⟩)) s8 s21 s22 s23 s24 w' := by
  refine ⟨ho.below h.be hg h.be.size, fun hl => h.p21 (by simpa using hl), fun hl => h.p22 (by simpa using hl), fun hl => h.p23 (by simpa using hl), fun hl => h.p24 (by simpa using hl), fun _ => ⟨g, rfl, hg, by simpa using hk⟩, fun hl => ?_, fun h1 h2 => h.p78 h4 (by simpa using h2), fun _ => by simpa using h4, fun hl => by simpa using h.q7 (by simpa using hl)⟩
  obtain ⟨g', e, hg', hk'⟩ := h.p8 (by simpa using hl)
  refine ⟨g', e, hg', ?_⟩
  have hne : g' ≠ g := by
    intro e2
    subst e2
    exact h.p78 h4 (by simpa using hl) e.symm
  simpa using ho.blk hk' hne
theorem HI.at7 {g : Nat} (h : HI w0 kb x y Z L s7 (.pointer (some ⟨g, 0, none⟩)) s21 s22 s23 s24 w) (h5 : L 5 = true) (hg : w0.heap.size ≤ g) (hk : Blk w' g y 31) (ho : Only g w w') : HI w0 kb x y Z (fun j => j == 7 || L j) s7 (.pointer (some ⟨g, 0, none⟩)) s21 s22 s23 s24 w' := by
  refine ⟨ho.below h.be hg h.be.size, fun hl => h.p21 (by simpa using hl), fun hl => h.p22 (by simpa using hl), fun hl => h.p23 (by simpa using hl), fun hl => h.p24 (by simpa using hl), fun hl => ?_, fun _ => ⟨g, rfl, hg, by simpa using hk⟩, fun h1 h2 => h.p78 (by simpa using h1) h5, fun hl => by simpa using h.q6 (by simpa using hl), fun _ => by simpa using h5⟩
  obtain ⟨g', e, hg', hk'⟩ := h.p7 (by simpa using hl)
  refine ⟨g', e, hg', ?_⟩
  have hne : g' ≠ g := by
    intro e2
    subst e2
    exact h.p78 (by simpa using hl) h5 e
  simpa using ho.blk hk' hne
end
end Go.Proofs.YtokegkiddkpedaaDoor
