import Derived.Test.YtihhchebcojplaaJMath
import Derived.Test.YtihhchebcojplaaRows
import Derived.WalkSpells
import Derived.WalkLawsBesides
import Derived.RegionTactic
import Derived.BigRegion
import Derived.Deep.OwnRows
import Derived.OpenShut
import Derived.Test.YtihhchebcojplaaJDrE
import Derived.Deep.AppendSrc
/- Rows of bytes that came in. -/
namespace Go.Proofs.Ytihhchebcojplaa
open Go.RowKit
set_option linter.unusedVariables false

/-- A slice of bytes that came in. -/
def RowB (w : World) (a : Option Addr) (len cap : Nat) (zs : List Int) : Prop :=
  (a = none ∧ len = 0 ∧ cap = 0 ∧ zs = []) ∨
  ∃ x, a = some x ∧ len ≤ cap ∧ cap ≤ maxLen ∧ zs.length = cap ∧ (∀ i, i < zs.length → w.cell? (x.add i) = some (.int .u8 (zs.getD i 0))) ∧ ∀ n ∈ zs, (Lit.int .u8 n).wf = true

theorem u8_wf {z : Int} (h : (Lit.int .u8 z).wf = true) : ((UInt8.ofNat z.toNat).toNat : Int) = z := by
  have h2 := bounds_u8 h
  simp
  omega

theorem rowB {w : World} {a : Option Addr} {n cap : Nat} {zs : List Int} (h : RowB w a n cap zs) : ∃ l : List UInt8, l.length = n ∧ CRow w (.slice a n cap) n 1 (Nm.bys l) := by
  rcases h with ⟨rfl, rfl, rfl, rfl⟩ | ⟨x, rfl, hl, hm, hz, hc, hw⟩
  · exact ⟨[], rfl, rfl, none, 0, rfl, Nat.le_refl _, by decide, fun h => by omega⟩
  · have hlen : ((zs.take n).map (fun z => UInt8.ofNat z.toNat)).length = n := by simp; omega
    refine ⟨(zs.take n).map (fun z => UInt8.ofNat z.toNat), hlen, by rw [Nm.bys_length, hlen, Nat.mul_one], some x, cap, rfl, hl, hm, fun hp => ?_⟩
    have hs : x.spot = none := by
      have := World.cell?_spot (hc 0 (by omega))
      simpa [Addr.add] using this
    obtain ⟨b, off, sp⟩ := x
    simp only at hs
    subst hs
    refine ⟨b, off, rfl, fun i y hy => ?_⟩
    have hi : i < n := by
      have := (List.getElem?_eq_some_iff.1 hy).1
      rwa [Nm.bys_length, hlen] at this
    rw [← Nm.addr_add, hc i (by omega), ← hy]
    have hz : zs[i]? = some (zs.getD i 0) := by rw [List.getD_eq_getElem?_getD, List.getElem?_eq_getElem (by omega)]; rfl
    rw [Nm.bys, List.getElem?_map, List.getElem?_map, List.getElem?_take, if_pos hi, hz]
    simp only [Option.map_some]
    rw [u8_wf (hw _ (List.mem_of_getElem? hz))]

theorem Try.infoBy : (Try.prog.info? 5).map (fun i => (i.zero, i.size, i.bytes)) = some (some (.int .u8 0), 1, 1) := by kernel_rfl

/-- Bytes lie where a slice leads. -/
abbrev BySl (w : World) (v : Value) (l : List UInt8) : Prop := CRow w v l.length 1 (Nm.bys l)
end Go.Proofs.Ytihhchebcojplaa
/- append([]byte{}, b...): a row of bytes copied into one of one's own. -/
namespace Go.Proofs.Ytihhchebcojplaa
open Go.RowKit
set_option linter.unusedVariables false

theorem wpList_append_ran {P : Program} {ops : Array Oper} {rest : List Oper} {o : Oper} {a : Act} {w : World} {Q : Exit → Act → World → Prop} (hgd : o.guard = none) (s x : Operand) (t : TypeId)
    (ho : o.op = .call { callee := .builtin .append, args := #[s, x], argTypes := #[t, t] }) (v u v' : Value) (w' : World) (hs : a.eval s = v) (hx : a.eval x = u)
    (hr : (Builtin.append_ #[t, t] o.type #[v, u]).run P w = .ok v' w') (h : wpList P ops Q rest (a.put o.dst v') w') : wpList P ops Q (o :: rest) a w :=
  wpList_plain hgd fun _ hK => by
    unfold Oper.wp execOp
    simp only [ho, resolve, invoke, builtin, Sem.run_bind, Sem.run_pure, Result.andThen_ok, List.map_toArray, List.map_cons, List.map_nil, hs, hx, hr]
    exact hK _ _ h

theorem bys_cells (l : List UInt8) : ∀ u ∈ Nm.bys l, u.oneCell' = true := by
  intro u hu
  rw [Nm.bys] at hu
  obtain ⟨b, _, rfl⟩ := List.mem_map.1 hu
  rfl

theorem copy_row {w : World} {v : Value} {l : List UInt8} (h : BySl w v l) (hl : l.length ≤ 100000000) :
    ∃ v' w', (Builtin.append_ #[22, 22] 22 #[.slice (some ⟨w.heap.size, 0, none⟩) 0 0, v]).run Try.prog (w.alloc (.cells #[] 5 (0, 0))) = .ok v' w' ∧
      w'.ownsRow w.heap.size 5 1 v' l.length (Nm.bys l) ∧ Below w.heap.size w w' := by
  obtain ⟨j0, hj, k0, k1, k2⟩ := info_parts Try.infoU8d
  have hB := (Below.refl w.heap.size w).alloc (Nat.le_refl _) (.cells #[] 5 (0, 0))
  have hown : (w.alloc (.cells #[] 5 (0, 0))).ownsRow w.heap.size 5 1 (.slice (some ⟨w.heap.size, 0, none⟩) 0 0) 0 [] := World.ownsRow_made w #[] 0 (Nat.le_refl _) (by decide) rfl
  have h' := h.below hB
  obtain ⟨hlen, a, cap, rfl, hcap, hmx, hc⟩ := h'
  cases a with
  | none =>
    have hn : l.length = 0 := by
      rcases Nat.eq_zero_or_pos l.length with h | h
      · exact h
      · obtain ⟨b, off, e, _⟩ := hc h
        cases e
    have hl0 : l = [] := List.eq_nil_of_length_eq_zero hn
    subst hl0
    refine ⟨_, _, run_append_room_src (P := Try.prog) (w.alloc (.cells #[] 5 (0, 0))) 22 22 22 5 j0 Try.underlying22 hj w.heap.size 0 0 0 (.slice none 0 cap) 0 [] (Src.ofNil _ Try.underlying22 cap) (by omega) (by simp) (by simp), ?_, ?_⟩
    · exact hown
    · exact hB
  | some x =>
    obtain ⟨v', w', h1, h2, h3, _⟩ := run_append_own (P := Try.prog) (w.alloc (.cells #[] 5 (0, 0))) w.heap.size 22 22 5 j0 (.int .u8 0) 1 1 Try.underlying22 hj k0 k1 k2 rfl (by decide) _ 0 [] hown x l.length cap (Nm.bys l) hlen (by
      intro j u hu
      have hp : 0 < l.length := by
        rcases Nat.eq_zero_or_pos l.length with h | h
        · have : l = [] := List.eq_nil_of_length_eq_zero h
          subst this
          simp [Nm.bys] at hu
        · exact h
      obtain ⟨b, off, e, hcell⟩ := hc hp
      simp only [Option.some.injEq] at e
      subst e
      rw [Nm.addr_add]
      exact hcell j u hu) (bys_cells l) (by unfold maxLen; omega) (by omega) (by simp)
    refine ⟨v', w', h1, ?_, hB.grown h3 hB.size (fun k hk => by simp [Value.ownBlock] at hk; omega)⟩
    simpa using h2
end Go.Proofs.Ytihhchebcojplaa
