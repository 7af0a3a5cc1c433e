/- A []byte that came in. -/
import Derived.Test.YtakonfkefoeenagSrcMade
import Derived.Lib.BufferRead
namespace Go.Proofs.Ytakonfkefoeenag
open Go.RowKit
set_option linter.unusedVariables false

/-- A slice of bytes that came in. -/
def Row8 (w : World) (a : Option Addr) (len cap : Nat) (zs : List Int) : Prop :=
  (a = none ∧ len = 0 ∧ cap = 0 ∧ zs = []) ∨
  ∃ x, a = some x ∧ len ≤ cap ∧ cap ≤ maxLen ∧ zs.length = cap ∧ (∀ i, i < zs.length → w.cell? (x.add i) = some (.int .u8 (zs.getD i 0))) ∧ ∀ n ∈ zs, (Lit.int .u8 n).wf = true

theorem row8_at {w : World} {x : Addr} {n cap : Nat} {zs : List Int} (hl : n ≤ cap) (hz : zs.length = cap) (hc : ∀ i, i < zs.length → w.cell? (x.add i) = some (.int .u8 (zs.getD i 0))) (hw : ∀ n ∈ zs, (Lit.int .u8 n).wf = true) {i : Nat} (hi : i < n) :
    0 ≤ zs.getD i 0 ∧ zs.getD i 0 < 256 := by
  have hm : zs.getD i 0 ∈ zs := by
    rw [List.getD_eq_getElem?_getD, List.getElem?_eq_getElem (by omega)]
    exact List.getElem_mem _
  have := hw _ hm
  have h2 := bounds_u8 this
  omega

theorem row8_code {w : World} {a : Option Addr} {n cap : Nat} {zs : List Int} (h : Row8 w a n cap zs) : CodeIn w a n := by
  rcases h with ⟨_, h, _⟩ | ⟨x, rfl, hl, hm, hz, hc, hw⟩
  · exact .inl h
  · rcases Nat.eq_zero_or_pos n with hn | hn
    · exact .inl hn
    have hs : x.spot = none := by
      have := World.cell?_spot (hc 0 (by omega))
      simpa [Addr.add] using this
    obtain ⟨b, off, sp⟩ := x
    simp only at hs
    subst hs
    refine .inr ⟨b, off, rfl, fun i hi => ⟨_, ?_, row8_at hl hz hc hw hi⟩⟩
    rw [← Nm.addr_add]
    exact hc i (by omega)

theorem row8_str {w w1 : World} {a : Option Addr} {n cap : Nat} {zs : List Int} (h : Row8 w a n cap zs) (hb : Below w.heap.size w w1) :
    ∃ s : ByteArray, s.size = n ∧ (convert 24 9 (.slice a n cap)).run Try.prog w1 = .ok (.string s) w1 := by
  rcases h with ⟨rfl, rfl, rfl, _⟩ | ⟨x, rfl, hl, hm, hz, hc, hw⟩
  · exact ⟨ByteArray.empty, rfl, Lib.run_convert_nil_bytes w1 24 9 5 0 Try.underlying24 Try.underlying5 Try.underlying9⟩
  · have hln : ((zs.take n).map (fun z => UInt8.ofNat z.toNat)).length = n := by simp; omega
    refine ⟨⟨((zs.take n).map (fun z => UInt8.ofNat z.toNat)).toArray⟩, by rw [mk_size, hln], ?_⟩
    have := run_convert_bytes_back (P := Try.prog) w1 24 9 5 x cap ((zs.take n).map (fun z => UInt8.ofNat z.toNat)) Try.underlying24 Try.underlying5 Try.underlying9 (by
      intro j hj
      have hjn : j < n := by omega
      have hcj := hc j (by omega)
      have hbj := row8_at hl hz hc hw hjn
      rw [(hb.cell (World.block_lt_of_cell? w _ hcj)).trans hcj]
      rw [List.getD_eq_getElem?_getD, List.getElem?_eq_getElem (by omega)] at hbj ⊢
      simp only [List.getElem_map, List.getElem_take, Option.getD_some, UInt8.toNat_ofNat'] at hbj ⊢
      congr 2
      omega)
    rw [hln] at this
    exact this
end Go.Proofs.Ytakonfkefoeenag
