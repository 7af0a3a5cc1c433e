/- Rows of bytes that came in. -/
import Derived.Test.YtlgeeidbclnhbaaCRow
import Derived.Test.YtlgeeidbclnhbaaRows
import Derived.WalkSpells
import Derived.WalkLawsBesides
import Derived.RegionTactic
import Derived.BigRegion
import Derived.Deep.OwnRows
import Derived.OpenShut
namespace Go.Proofs.Ytlgeeidbclnhbaa
open Go.RowKit
set_option linter.unusedVariables false

/-- A slice of bytes that came in. -/
def RowB (w : World) (a : Option Addr) (len cap : Nat) (zs : List Int) : Prop :=
  (a = none ∧ len = 0 ∧ cap = 0 ∧ zs = []) ∨
  ∃ x, a = some x ∧ len ≤ cap ∧ cap ≤ maxLen ∧ zs.length = cap ∧ (∀ i, i < zs.length → w.cell? (x.add i) = some (.int .u8 (zs.getD i 0))) ∧ ∀ n ∈ zs, (Lit.int .u8 n).wf = true

theorem u8_wf {z : Int} (h : (Lit.int .u8 z).wf = true) : ((UInt8.ofNat z.toNat).toNat : Int) = z := by
  have h2 := bounds_u8 h
  simp
  omega

theorem rowB {w : World} {a : Option Addr} {n cap : Nat} {zs : List Int} (h : RowB w a n cap zs) : ∃ l : List UInt8, l.length = n ∧ CRow w (.slice a n cap) n 1 (Nm.bys l) := by
  rcases h with ⟨rfl, rfl, rfl, rfl⟩ | ⟨x, rfl, hl, hm, hz, hc, hw⟩
  · exact ⟨[], rfl, rfl, none, 0, rfl, Nat.le_refl _, by decide, fun h => by omega⟩
  · have hlen : ((zs.take n).map (fun z => UInt8.ofNat z.toNat)).length = n := by simp; omega
    refine ⟨(zs.take n).map (fun z => UInt8.ofNat z.toNat), hlen, by rw [Nm.bys_length, hlen, Nat.mul_one], some x, cap, rfl, hl, hm, fun hp => ?_⟩
    have hs : x.spot = none := by
      have := World.cell?_spot (hc 0 (by omega))
      simpa [Addr.add] using this
    obtain ⟨b, off, sp⟩ := x
    simp only at hs
    subst hs
    refine ⟨b, off, rfl, fun i y hy => ?_⟩
    have hi : i < n := by
      have := (List.getElem?_eq_some_iff.1 hy).1
      rwa [Nm.bys_length, hlen] at this
    rw [← Nm.addr_add, hc i (by omega), ← hy]
    have hz : zs[i]? = some (zs.getD i 0) := by rw [List.getD_eq_getElem?_getD, List.getElem?_eq_getElem (by omega)]; rfl
    rw [Nm.bys, List.getElem?_map, List.getElem?_map, List.getElem?_take, if_pos hi, hz]
    simp only [Option.map_some]
    rw [u8_wf (hw _ (List.mem_of_getElem? hz))]

theorem Try.infoBy : (Try.prog.info? 5).map (fun i => (i.zero, i.size, i.bytes)) = some (some (.int .u8 0), 1, 1) := by kernel_rfl

/-- Bytes lie where a slice leads. -/
abbrev BySl (w : World) (v : Value) (l : List UInt8) : Prop := CRow w v l.length 1 (Nm.bys l)
end Go.Proofs.Ytlgeeidbclnhbaa
