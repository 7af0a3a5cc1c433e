import Derived.Test.YtechmpdfbpehiaaGreatDoorJV6M
import Derived.Deep.Slices
import Derived.ChangeSame
import Derived.Test.YtechmpdfbpehiaaGreatDoorJMath
import Derived.Test.YtechmpdfbpehiaaGreatDoorRows
import Derived.WalkSpells
import Derived.WalkLawsBesides
import Derived.Test.YtechmpdfbpehiaaGreatDoorJICheck
import Derived.Test.YtechmpdfbpehiaaGreatDoorJCRow
import Derived.Test.YtechmpdfbpehiaaGreatDoorJNumM
import Derived.Lib.SmallJoins
import Derived.Lib.AppendIntMem
/- A slice of records that came in, opened. -/
namespace Go.Proofs.YtechmpdfbpehiaaGreatDoor
open Go.RowKit Go.Deep
set_option linter.unusedVariables false

section
variable {H : Type} {enc : TypeId × Value → H} {w : World} {base : Nat} {spare : Nat → Bool} {held : Bool}

theorem rr_c : Tryz.prog.cellsOf 9 = 1 ∧ Tryz.prog.cellsOf 2 = 1 ∧ Tryz.prog.cellsOf 32 = 5 := ⟨by kernel_rfl, by kernel_rfl, by kernel_rfl⟩

set_option maxRecDepth 100000 in
theorem open_rr {fuel : Nat} {cs : List Value} {x : DataW H × List MemPlace} (h : DataW.trod enc Tryz.prog w base spare held fuel 32 cs = some x) (hl : cs.length = 5) :
    ∃ r : Rr, cs = rvV r ∧ r.own.size ≤ maxLen ∧ r.da.size ≤ maxLen ∧ (Lit.int .i64 r.ty).wf = true ∧ (Lit.int .i64 r.cl).wf = true ∧ (Lit.int .i64 r.tt).wf = true := by
  obtain ⟨xs, n, _, _, _, hxl, hf⟩ := DataW.trod_struct Tryz.underlying32 h
  obtain ⟨c1, c2, _⟩ := rr_c
  match cs, hl with
  | [v0, v1, v2, v3, v4], _ =>
    have g0 := hf 0 _ rfl
    have g1 := hf 1 _ rfl
    have g2 := hf 2 _ rfl
    have g3 := hf 3 _ rfl
    have g4 := hf 4 _ rfl
    match xs, hxl with
    | [y0, y1, y2, y3, y4], _ =>
      simp [c1, c2] at g0 g1 g2 g3 g4
      obtain ⟨s0, e0, _, w0⟩ := DataW.trod_string Tryz.underlying9 g0
      obtain ⟨n1, e1, _, w1⟩ := DataW.trod_int Tryz.underlying2 g1
      obtain ⟨n2, e2, _, w2⟩ := DataW.trod_int Tryz.underlying2 g2
      obtain ⟨n3, e3, _, w3⟩ := DataW.trod_int Tryz.underlying2 g3
      obtain ⟨s4, e4, _, w4⟩ := DataW.trod_string Tryz.underlying9 g4
      simp at e0 e1 e2 e3 e4
      subst e0 e1 e2 e3 e4
      exact ⟨⟨s0, n1, n2, n3, s4⟩, rfl, w0, w4, w1, w2, w3⟩

theorem rr_default : Nonempty Rr := ⟨⟨.empty, 0, 0, 0, .empty⟩⟩

theorem choose_rr {n : Nat} {p : Nat → Rr → Prop} (h : ∀ i, i < n → ∃ x, p i x) : ∃ f : Nat → Rr, ∀ i, i < n → p i (f i) := by
  classical
  refine ⟨fun i => if hi : i < n then Classical.choose (h i hi) else ⟨.empty, 0, 0, 0, .empty⟩, fun i hi => ?_⟩
  simp only [dif_pos hi]
  exact Classical.choose_spec (h i hi)

theorem rv_range (f : Nat → Rr) : ∀ (n k j : Nat), k < n → j < 5 → (rvVs ((List.range n).map f))[k * 5 + j]? = (rvV (f k))[j]? := by
  intro n k j hk hj
  exact rvVs_at _ k j (f k) (by simp [hk]) hj

set_option maxRecDepth 100000 in
theorem open_rrs {t : TypeId} {fuel : Nat} {v : Value} {x : DataW H × List MemPlace} (ht : Tryz.prog.underlying t = some (.slice 32)) (h : DataW.trod enc Tryz.prog w base spare held fuel t [v] = some x) :
    ∃ xs : List Rr, CRow w v xs.length 5 (rvVs xs) ∧ ∀ r ∈ xs, r.own.size ≤ maxLen ∧ r.da.size ≤ maxLen ∧ (Lit.int .i64 r.ty).wf = true ∧ (Lit.int .i64 r.cl).wf = true ∧ (Lit.int .i64 r.tt).wf = true := by
  rcases open_slice ht h with ⟨e, _⟩ | ⟨a, len, cap, m, n, D, Pl, e, hb, hl, hm, hmm, _, hx⟩
  · simp at e
    subst e
    exact ⟨[], ⟨rfl, none, 0, rfl, Nat.le_refl _, by decide, fun h => absurd h (by simp)⟩, by simp⟩
  · simp at e
    subst e
    have hlm : len ≤ m := by rw [hmm]; split <;> omega
    obtain ⟨_, _, c5⟩ := rr_c
    rw [c5] at hx
    obtain ⟨f, hf⟩ := choose_rr (n := len) (p := fun i r => (∀ j, j < 5 → w.cell? ((a.add (i * 5)).add j) = (rvV r)[j]?) ∧ r.own.size ≤ maxLen ∧ r.da.size ≤ maxLen ∧ (Lit.int .i64 r.ty).wf = true ∧ (Lit.int .i64 r.cl).wf = true ∧ (Lit.int .i64 r.tt).wf = true) (fun i hi => by
      obtain ⟨cs', h1, h2⟩ := hx i (by omega)
      obtain ⟨_, hlen, hcell⟩ := World.cells?_some h1
      obtain ⟨r, rfl, q⟩ := open_rr h2 hlen
      exact ⟨r, hcell, q⟩)
    refine ⟨(List.range len).map f, ⟨?_, some a, cap, by simp, by simpa using hl, hm, fun hpos => ?_⟩, ?_⟩
    · rw [rvVs_len]
    · have hlen : 0 < len := by simpa using hpos
      obtain ⟨b, off, spot⟩ := a
      have h0 := (hf 0 hlen).1 0 (by decide)
      have h0' : w.cell? ((Addr.mk b off spot).add (0 * 5 + 0)) = some (.string (f 0).own) := by rw [← add_add]; exact h0
      have hspot : spot = none := by simpa [Addr.add] using World.cell?_spot h0'
      subst hspot
      refine ⟨b, off, rfl, ?_⟩
      intro i y hy
      have hi : i < len * 5 := by
        have := (List.getElem?_eq_some_iff.1 hy).1
        rw [rvVs_len] at this
        simpa using this
      obtain ⟨k, j, hk, hj, rfl⟩ : ∃ k j, k < len ∧ j < 5 ∧ i = k * 5 + j := ⟨i / 5, i % 5, by omega, by omega, by omega⟩
      rw [rv_range f len k j hk hj] at hy
      have := (hf k hk).1 j hj
      rw [add_add, hy, Nm.addr_add] at this
      exact this
    · intro r hr
      simp only [List.mem_map, List.mem_range] at hr
      obtain ⟨i, hi, rfl⟩ := hr
      exact (hf i hi).2
end
end Go.Proofs.YtechmpdfbpehiaaGreatDoor
/- Bytes of a string, laid in a new row. -/
namespace Go.Proofs.YtechmpdfbpehiaaGreatDoor
open Go.RowKit

/-- The bytes 'l' lie at the head of block g, and may be written. -/
def BRow (w : World) (g : Nat) (l : List UInt8) : Prop := ∀ j c, l[j]? = some c → w.cell? ⟨g, j, none⟩ = some (.int .u8 c.toNat) ∧ w.frozen? ⟨g, j, none⟩ = false

theorem BRow.set {w : World} {g k : Nat} {l : List UInt8} {d : UInt8} (h : BRow w g l) (hk : k < l.length) : BRow (w.setCell ⟨g, k, none⟩ (.int .u8 d.toNat)) g (l.set k d) := by
  intro j c hj
  obtain ⟨x, hx⟩ : ∃ x, l[k]? = some x := ⟨_, List.getElem?_eq_getElem hk⟩
  by_cases e : k = j
  · subst e
    rw [List.getElem?_set_self hk] at hj
    simp at hj
    subst hj
    exact ⟨World.cell?_setCell_same _ _ _ (h k x hx).1, by rw [World.frozen?_setCell]; exact (h k x hx).2⟩
  · rw [List.getElem?_set_ne e] at hj
    refine ⟨?_, by rw [World.frozen?_setCell]; exact (h j c hj).2⟩
    rw [World.cell?_setCell_other w ⟨g, k, none⟩ ⟨g, j, none⟩ _ (by intro h; cases h; exact e rfl)]
    exact (h j c hj).1

theorem new_bytes (s : ByteArray) (w : World) : ∃ cap W, s.size ≤ cap ∧ (s.size ≤ maxLen → cap ≤ maxLen) ∧
    (convert 9 44 (.string s)).run Tryz.prog w = .ok (.slice (some ⟨w.heap.size, 0, none⟩) s.size cap) W ∧ BRow W w.heap.size s.data.toList ∧ Below w.heap.size w W := by
  refine ⟨_, _, grownCap_ge w s.size 0 5, grownCap_le_maxLen w s.size 0 5, run_bytes_of_string w 9 44 5 s Tryz.underlying9 Tryz.underlying44 Tryz.underlying5, ?_, ?_⟩
  · intro j c hj
    have hj' : j < s.data.size := by
      have := (List.getElem?_eq_some_iff.1 hj).1
      simpa using this
    have hc : s.data[j] = c := by
      have := (List.getElem?_eq_some_iff.1 hj).2
      simpa using this
    constructor
    · have e := cell_of_row (w.drew.alloc (.cells (bytesRow s (grownCap w s.size 0 5)) 5 ((bytesRow s (grownCap w s.size 0 5)).size, (bytesRow s (grownCap w s.size 0 5)).size + 1))) w.heap.size j _ 5 _ (heap_alloc_new w.drew _)
      rw [e, bytesRow_at s _ j hj', hc]
    · have e := World.frozen?_alloc_mark w.drew (bytesRow s (grownCap w s.size 0 5)) 5 (bytesRow s (grownCap w s.size 0 5)).size ((bytesRow s (grownCap w s.size 0 5)).size + 1) j
      rw [show w.heap.size = w.drew.heap.size from rfl, e]
      have : s.data.size ≤ (bytesRow s (grownCap w s.size 0 5)).size := by simp [bytesRow]
      simp; omega
  · exact ((Below.refl _ w).drew).alloc (Nat.le_refl _) _

end Go.Proofs.YtechmpdfbpehiaaGreatDoor
/- strconv.FormatInt at base 16, below 65536, by its contract. -/
namespace Go.Proofs.YtechmpdfbpehiaaGreatDoor
open Go.RowKit

def tz64 : List Int := [0, 1, 56, 2, 57, 49, 28, 3, 61, 58, 42, 50, 38, 29, 17, 4, 62, 47, 59, 36, 45, 43, 51, 22, 53, 39, 33, 30, 24, 18, 12, 5, 63, 55, 48, 27, 60, 41, 37, 16, 46, 35, 44, 21, 52, 32, 23, 11, 54, 26, 40, 15, 34, 20, 31, 10, 25, 14, 19, 9, 13, 8, 7, 6]
/-- The table that math/bits reads. -/
abbrev BruTab (w : World) : Prop := Lib.TabIs Tryz.prog w "math/bits.deBruijn64tab" .u8 tz64

set_option maxRecDepth 100000 in
set_option maxHeartbeats 400000 in
theorem tz16_any (w : World) (h : BruTab w) :
    Calls Tryz.prog 129 #[.int .u64 16] w fun e w' => e = .returned (.int .i64 4) ∧ w' = w := by
  have hc : w.cell? ⟨4, 15, none⟩ = some (.int .u8 4) := Lib.TabIs.cell h (by kernel_rfl) 15 (by decide)
  have a0 : IntKind.u64.wrap (-16) = 18446744073709551600 := by kernel_rfl
  have a2 : IntKind.u64.wrap (16 * 285870213051353865) = 4573923408821661840 := by kernel_rfl
  have a3 : IntKind.u64.wrap 4573923408821661840 = 4573923408821661840 := by kernel_rfl
  have a1 : bits .and .u64 16 18446744073709551600 = 16 := by kernel_rfl
  go_enter Tryz.func129, Tryz.ntmps129
  go_wp2
  go_ret
  exact ⟨rfl, rfl⟩

theorem pow16_any (w : World) : Calls Tryz.prog 128 #[.int .i64 16] w fun e w' => e = .returned (.bool true) ∧ w' = w := by
  have a1 : bits .and .i64 16 15 = 0 := by kernel_rfl
  go_enter Tryz.func128, Tryz.ntmps128
  go_wp2
  go_ret
  exact ⟨rfl, rfl⟩

/-- The library's digits. -/
def digLit : ByteArray := ⟨#[48, 49, 50, 51, 52, 53, 54, 55, 56, 57, 97, 98, 99, 100, 101, 102, 103, 104, 105, 106, 107, 108, 109, 110, 111, 112, 113, 114, 115, 116, 117, 118, 119, 120, 121, 122]⟩
theorem dig_index (k : Nat) (hk : k < 16) (W : World) : (Instr.index 9 (.string digLit) (.int .u64 (k : Int))).run Tryz.prog W = .ok (.int .u8 (hexD k).toNat) W := by
  obtain rfl | rfl | rfl | rfl | rfl | rfl | rfl | rfl | rfl | rfl | rfl | rfl | rfl | rfl | rfl | rfl : k = 0 ∨ k = 1 ∨ k = 2 ∨ k = 3 ∨ k = 4 ∨ k = 5 ∨ k = 6 ∨ k = 7 ∨ k = 8 ∨ k = 9 ∨ k = 10 ∨ k = 11 ∨ k = 12 ∨ k = 13 ∨ k = 14 ∨ k = 15 := by omega
  all_goals kernel_rfl
theorem and15 (u : Nat) (h : u < 65536) : bits .and .u64 (u : Int) 15 = ((u % 16 : Nat) : Int) := by
  show IntKind.u64.wrap ((BitVec.ofInt 64 (u : Int) &&& BitVec.ofInt 64 15).toNat : Int) = _
  have e : (BitVec.ofInt 64 (u : Int) &&& BitVec.ofInt 64 15).toNat = u % 16 := by
    rw [BitVec.toNat_and, ofInt_u64 u (by omega)]
    have : (BitVec.ofInt 64 15).toNat = 2 ^ 4 - 1 := by decide
    rw [this, Nat.and_two_pow_sub_one_eq_mod]
  rw [e]
  simp only [IntKind.wrap, IntKind.bits, IntKind.signed]
  simp
  omega

/-- How far the writing has come: u is still to be told, t is told. -/
def HexAt (n u j : Nat) (t : List UInt8) : Prop := hexL n = hexL u ++ t ∧ t.length = j ∧ (j = 0 ∧ u < 65536 ∨ j = 1 ∧ u < 4096 ∨ j = 2 ∧ u < 256 ∨ j = 3 ∧ u < 16)
theorem hexAt_start {n : Nat} (h : n < 65536) : HexAt n n 0 [] := ⟨by simp, rfl, by omega⟩
theorem hexAt_next {n u j : Nat} {t : List UInt8} (h : HexAt n u j t) (hu : 16 ≤ u) : HexAt n (u / 16) (j + 1) (hexD (u % 16) :: t) := by
  obtain ⟨h1, h2, h3⟩ := h
  refine ⟨?_, by simp [h2], by omega⟩
  rw [h1, hexL_step (by omega), List.append_assoc]; rfl
theorem hexAt_end {n u j : Nat} {t : List UInt8} (h : HexAt n u j t) (hu : u < 16) : hexL n = hexD u :: t := by
  rw [h.1, hexL_small hu]; rfl
theorem hexAt_j {n u j : Nat} {t : List UInt8} (h : HexAt n u j t) : j ≤ 3 ∧ u < 65536 := by have := h.2.2; omega

theorem tail_set {l t : List UInt8} {j : Nat} {d : UInt8} (hl : l.length = 65) (hj : j ≤ 3) (h : l.drop (65 - j) = t) : (l.set (65 - j - 1) d).length = 65 ∧ (l.set (65 - j - 1) d).drop (65 - (j + 1)) = d :: t := by
  refine ⟨by simp [hl], ?_⟩
  have hk : 65 - j - 1 < l.length := by omega
  rw [show 65 - (j + 1) = 65 - j - 1 by omega, List.drop_set, if_neg (by omega), Nat.sub_self, List.drop_eq_getElem_cons hk]
  simp only [List.set_cons_zero]
  rw [show 65 - j - 1 + 1 = 65 - j by omega, h]
end Go.Proofs.YtechmpdfbpehiaaGreatDoor
/- internal/strconv.formatBits and strconv.FormatInt at base 16, below 65536, by their contracts. -/
namespace Go.Proofs.YtechmpdfbpehiaaGreatDoor
open Go.RowKit

theorem BruTab.below {w w' : World} (h : BruTab w) (hb : Below w.heap.size w w') : BruTab w' := (Lib.tabBelow_of_tabIs h) w' hb

theorem zero65 (W : World) : (zeroValue 152).run Tryz.prog W = .ok (.agg (Nm.bys (List.replicate 65 0)).toArray) W := by kernel_rfl
theorem row_new (w : World) (l : List UInt8) (t : TypeId) : BRow (w.alloc (.cells (Nm.bys l).toArray t)) w.heap.size l := by
  intro j c hj
  refine ⟨?_, ?_⟩
  · rw [cell_of_row _ _ j _ t (0, 0) (heap_alloc_new w _)]
    simp [Nm.bys, hj]
  · exact frozen_of_row _ _ j _ t (heap_alloc_new w _)

theorem slice65 (g p : Nat) (W : World) (hp : p < 65) : (Instr.sliceAt 152 (.pointer (some ⟨g, 0, none⟩)) (some (.int .i64 (p : Int))) none none).run Tryz.prog W = .ok (.slice (some ⟨g, p, none⟩) (65 - p) (65 - p)) W := by
  have hal : Tryz.prog.arrayLen 152 = 65 := by kernel_rfl
  have hso : (sizeOf (Tryz.prog.elem 152)).run Tryz.prog W = .ok 1 W := by kernel_rfl
  rw [run_sliceAt_array_l W 152 ⟨g, 0, none⟩ (by kernel_rfl) .i64 (p : Int) (by omega) (by rw [hal]; omega), hso, hal]
  simp only [Result.andThen, slicedAt, Int.toNat_natCast, Nat.mul_one]
  rw [if_neg (by omega), Nm.addr_add, Nat.zero_add]

set_option maxRecDepth 100000 in
set_option maxHeartbeats 3000000 in
theorem formatBits16_any (n : Nat) (w : World) (hn : n < 65536) (hB : BruTab w) :
    Calls Tryz.prog 87 #[.slice none 0 0, .int .u64 (n : Int), .int .i64 16, .bool false, .bool false] w fun e w' => e = .returned (.tuple #[.slice none 0 0, .string (hexS n)]) ∧ Below w.heap.size w w' := by
  have hst := Nm.hide (hexAt_start hn)
  have htz := fun W (hb : Below w.heap.size w W) => tz16_any W (hB.below hb)
  have hpw := fun W => pow16_any W
  have hn' : (n : Int) < 65536 := by omega
  obtain ⟨Z, HZ, hzv⟩ : ∃ Z : Array Value, Hid (Z = (Nm.bys (List.replicate 65 0)).toArray) ∧ ∀ W, (zeroValue 152).run Tryz.prog W = .ok (.agg Z) W := ⟨_, rfl, zero65⟩
  go_enter Tryz.func87, Tryz.ntmps87
  go_wp2_with (first | (go_at_call 128; refine (hpw _).mono ?_; rintro e w1 ⟨rfl, rfl⟩) | (go_at_call 129; refine (htz _ ((Below.refl _ _).alloc (Nat.le_refl _) _)).mono ?_; rintro e w2 ⟨rfl, rfl⟩))
  go_loopw [1, 13] (fun x i wr => ∃ (m : Int) (u q j : Nat) (t l : List UInt8), x = .int .u64 m ∧ Hid (m = (u : Int)) ∧ 0 ≤ m ∧ m < 65536 ∧ i = .int .i64 (q : Int) ∧ q + j = 65 ∧ j ≤ 3 ∧ u < 65536 ∧ Hid (HexAt n u j t) ∧ Hid (l.length = 65) ∧ Hid (l.drop (65 - j) = t) ∧ BRow wr w.heap.size l ∧ Below w.heap.size w wr)
    (fun x _ _ => (intOf x).toNat)
  case atStart =>
    refine ⟨n, n, 65, 0, [], List.replicate 65 0, rfl, rfl, by omega, by omega, rfl, by omega, by omega, by omega, hst, by show _ = _; simp, by show _ = _; simp, ?_, (Below.refl _ _).alloc (Nat.le_refl _) _⟩
    rw [HZ.out]
    exact row_new _ _ _
  case round =>
    obtain ⟨m, u, q, j, t, l, rfl, HM, hm0, hm1, rfl, hqj, hj, hu, HA, HL, HD, hrow, hbel⟩ := hrel
    clear hst hzv HZ
    have hq1 : 62 ≤ q := by omega
    have hq2 : q ≤ 65 := by omega
    have hqn : 65 - j - 1 = q - 1 := by omega
    have hk : q - 1 < l.length := by rw [HL.out]; omega
    obtain ⟨c0, hc0⟩ : ∃ c0, l[q - 1]? = some c0 := ⟨_, List.getElem?_eq_getElem hk⟩
    obtain ⟨hcell, hfz⟩ := hrow (q - 1) c0 hc0
    have HQJ := Nm.hide hqj
    by_cases hge : 16 ≤ u
    · have hge' : (16 : Int) ≤ m := by have := HM.out; omega
      have ha := and15 u hu
      have hix := fun W => dig_index (u % 16) (by omega) W
      have HN := Nm.hide (hexAt_next HA.out hge)
      have HS := Nm.hide (tail_set (d := hexD (u % 16)) HL.out hj HD.out)
      rw [hqn] at HS
      have HB := Nm.hide (hrow.set (k := q - 1) (d := hexD (u % 16)) hk)
      have HW : Hid (Below w.heap.size w (wr.setCell ⟨w.heap.size, q - 1, none⟩ (.int .u8 (hexD (u % 16)).toNat))) := hbel.setCell (Nat.le_refl _) _
      rw [show digLit = (⟨#[48, 49, 50, 51, 52, 53, 54, 55, 56, 57, 97, 98, 99, 100, 101, 102, 103, 104, 105, 106, 107, 108, 109, 110, 111, 112, 113, 114, 115, 116, 117, 118, 119, 120, 121, 122]⟩ : ByteArray) from rfl] at hix
      obtain ⟨r, hr⟩ : ∃ r : Int, r = ((u % 16 : Nat) : Int) := ⟨_, rfl⟩
      rw [← hr] at ha hix
      rw [← HM.out] at ha
      have HU : Hid (m / 16 = ((u / 16 : Nat) : Int)) := by show _ = _; rw [HM.out]; omega
      have HU2 : Hid (0 ≤ m / 16 ∧ m / 16 < 65536 ∧ (m / 16).toNat < m.toNat) := by show _ ∧ _; omega
      generalize hexD (u % 16) = d at *
      clear hrow HL HD HA hr hqj hqn hu hge
      go_wp2
      have h3 := hexAt_j HN.out
      refine ⟨⟨m / 16, u / 16, q - 1, j + 1, _, l.set (q - 1) d, by go_num, HU, HU2.out.1, HU2.out.2.1, by go_num, by have := HQJ.out; omega, h3.1, h3.2, HN, HS.out.1, HS.out.2, HB.out, HW.out⟩, ?_⟩
      simp only [intOf]
      exact HU2.out.2.2
    · have hlt' : m < 16 := by have := HM.out; omega
      obtain ⟨p, rfl⟩ : ∃ p, q = p + 1 := ⟨q - 1, by omega⟩
      rw [Nat.add_sub_cancel] at *
      have hix := fun W => dig_index u (by omega) W
      have HN := Nm.hide (hexAt_end HA.out (by omega))
      have HS := Nm.hide (tail_set (d := hexD u) HL.out hj HD.out)
      rw [hqn] at HS
      have HB := Nm.hide (hrow.set (k := p) (d := hexD u) hk)
      have HW : Hid (Below w.heap.size w (wr.setCell ⟨w.heap.size, p, none⟩ (.int .u8 (hexD u).toNat))) := hbel.setCell (Nat.le_refl _) _
      have hlen : (hexL n).length = 65 - (p) := by
        rw [HN.out, List.length_cons, HA.out.2.1]; omega
      have hcv : ∀ cp, (convert 44 9 (.slice (some ⟨w.heap.size, p, none⟩) (65 - p) cp)).run Tryz.prog (wr.setCell ⟨w.heap.size, p, none⟩ (.int .u8 (hexD u).toNat)) = .ok (.string (hexS n)) (wr.setCell ⟨w.heap.size, p, none⟩ (.int .u8 (hexD u).toNat)) := by
        intro cp
        have := run_convert_bytes_back (P := Tryz.prog) (wr.setCell ⟨w.heap.size, p, none⟩ (.int .u8 (hexD u).toNat)) 44 9 5 ⟨w.heap.size, p, none⟩ cp (hexL n) Tryz.underlying44 Tryz.underlying5 Tryz.underlying9 (by
          intro k hk2
          have h1 : (l.set (p) (hexD u)).drop (p) = hexL n := by
            rw [HN.out, ← HS.out.2]
            congr 1
            omega
          have h2 : (l.set (p) (hexD u))[p + k]? = some (hexL n)[k] := by
            rw [← List.getElem?_drop, h1, List.getElem?_eq_getElem hk2]
          rw [Nm.addr_add]
          exact (HB.out (p + k) _ h2).1)
        rw [hlen] at this
        exact this
      rw [show digLit = (⟨#[48, 49, 50, 51, 52, 53, 54, 55, 56, 57, 97, 98, 99, 100, 101, 102, 103, 104, 105, 106, 107, 108, 109, 110, 111, 112, 113, 114, 115, 116, 117, 118, 119, 120, 121, 122]⟩ : ByteArray) from rfl] at hix
      rw [← HM.out] at hix
      obtain ⟨H, HH⟩ : ∃ H, Hid (H = hexS n) := ⟨_, rfl⟩
      rw [← HH.out] at hcv
      generalize hexD u = d at *
      clear hrow HL HD HA hqj hqn hlen HS HN hu hge HM
      have hdd : decide ((16 : Int) ≤ m) = false := by simp; omega
      have hsl : ∀ W : World, (Instr.sliceAt 152 (.pointer (some ⟨w.heap.size, 0, none⟩)) (some (.int .i64 (p : Int))) none none).run Tryz.prog W = .ok (.slice (some ⟨w.heap.size, p, none⟩) (65 - p) (65 - p)) W := fun W => slice65 w.heap.size p W (by omega)
      clear hm0 hm1 hlt'
      go_wp2
      go_ret2
      rw [← HH.out]
      exact ⟨rfl, HW.out⟩

set_option maxRecDepth 100000 in
set_option maxHeartbeats 400000 in
theorem inner16_any (n : Nat) (w : World) (hn : n < 65536) (hB : BruTab w) :
    Calls Tryz.prog 62 #[.int .i64 (n : Int), .int .i64 16] w fun e w' => e = .returned (.string (hexS n)) ∧ Below w.heap.size w w' := by
  have hf := formatBits16_any n w hn hB
  generalize hexS n = H at *
  have hn' : (n : Int) < 65536 := by omega
  have hn0 : (0 : Int) ≤ (n : Int) := by omega
  go_enter Tryz.func62, Tryz.ntmps62
  go_wp2_with (go_at_call 87; refine hf.mono ?_; rintro e w1 ⟨rfl, hb1⟩)
  go_ret
  exact ⟨rfl, hb1⟩

set_option maxRecDepth 100000 in
set_option maxHeartbeats 400000 in
theorem formatInt16_any (n : Nat) (w : World) (hn : n < 65536) (hB : BruTab w) :
    Calls Tryz.prog 45 #[.int .i64 (n : Int), .int .i64 16] w fun e w' => e = .returned (.string (hexS n)) ∧ Below w.heap.size w w' := by
  have hf := inner16_any n w hn hB
  generalize hexS n = H at *
  go_enter Tryz.func45, Tryz.ntmps45
  go_wp2_with (go_at_call 62; refine hf.mono ?_; rintro e w1 ⟨rfl, hb1⟩)
  go_ret
  exact ⟨rfl, hb1⟩
end Go.Proofs.YtechmpdfbpehiaaGreatDoor
