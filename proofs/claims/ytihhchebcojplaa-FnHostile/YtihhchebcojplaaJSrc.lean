import Derived.Test.YtihhchebcojplaaJMath
import Derived.Test.YtihhchebcojplaaRows
import Derived.WalkSpells
import Derived.WalkLawsBesides
import Derived.RegionTactic
import Derived.BigRegion
import Derived.BigQuiet
import Derived.Deep.QuietTactic
import Derived.OpenShut
/- The source of drawn numbers: spec.l01Next by its contract. -/
namespace Go.Proofs.Ytihhchebcojplaa
open Go.RowKit

/-- The bytes that the source reads lie where the slice leads, in another block than g. -/
def CodeAt (w : World) (g : Nat) (a : Option Addr) (n : Nat) : Prop :=
  n = 0 ∨ ∃ b off, a = some ⟨b, off, none⟩ ∧ b ≠ g ∧ ∀ i, i < n → ∃ c : Int, w.cell? ⟨b, off + i, none⟩ = some (.int .u8 c) ∧ 0 ≤ c ∧ c < 256

/-- A source lies in block g. -/
def Src (w : World) (g : Nat) (a : Option Addr) (n cap : Nat) : Prop :=
  ∃ pos st : Int, w.heap[g]? = some (.cells #[.slice a n cap, .int .i64 pos, .int .u64 st] 38 (0, 0)) ∧ 0 ≤ pos ∧ pos ≤ n ∧ n ≤ 1048576 ∧ CodeAt w g a n

theorem code_set {w : World} {g i : Nat} {a : Option Addr} {n : Nat} {v : Value} (h : CodeAt w g a n) : CodeAt (w.setCell ⟨g, i, none⟩ v) g a n := by
  rcases h with h | ⟨b, off, e, hb, hc⟩
  · exact .inl h
  · refine .inr ⟨b, off, e, hb, fun j hj => ?_⟩
    obtain ⟨c, h1, h2⟩ := hc j hj
    refine ⟨c, ?_, h2⟩
    rw [World.cell?_setCell_other w ⟨g, i, none⟩ ⟨b, off + j, none⟩ v (by intro h; cases h; exact hb rfl)]
    exact h1

theorem src_one {w : World} {g n cap : Nat} {a : Option Addr} {pos st : Int} (hb : w.heap[g]? = some (.cells #[.slice a n cap, .int .i64 pos, .int .u64 st] 38 (0, 0))) (hp0 : 0 ≤ pos) (hpn : pos ≤ n) (hn : n ≤ 1048576) (hc : CodeAt w g a n) (s2 : Int) :
    Src (w.setCell ⟨g, 2, none⟩ (.int .u64 s2)) g a n cap ∧ w.grownBy (w.setCell ⟨g, 2, none⟩ (.int .u64 s2)) (some g) := by
  refine ⟨⟨pos, s2, ?_, hp0, hpn, hn, code_set hc⟩, ⟨rfl, rfl, rfl, by simp, fun k _ hk => heap_setCell_other w ⟨g, 2, none⟩ k _ (fun e => hk (by simp [e]))⟩⟩
  rw [heap_setCell_same w g 2 _ _ _ hb]; rfl

theorem src_two {w : World} {g n cap : Nat} {a : Option Addr} {pos st : Int} (hb : w.heap[g]? = some (.cells #[.slice a n cap, .int .i64 pos, .int .u64 st] 38 (0, 0))) (hn : n ≤ 1048576) (hc : CodeAt w g a n) (s2 p2 : Int) (hp0 : 0 ≤ p2) (hpn : p2 ≤ n) :
    Src ((w.setCell ⟨g, 2, none⟩ (.int .u64 s2)).setCell ⟨g, 1, none⟩ (.int .i64 p2)) g a n cap ∧ w.grownBy ((w.setCell ⟨g, 2, none⟩ (.int .u64 s2)).setCell ⟨g, 1, none⟩ (.int .i64 p2)) (some g) := by
  have h1 := heap_setCell_same w g 2 _ _ (.int .u64 s2) hb
  have h2 := heap_setCell_same _ g 1 _ _ (.int .i64 p2) h1
  refine ⟨⟨p2, s2, ?_, hp0, hpn, hn, code_set (code_set hc)⟩, ⟨rfl, rfl, rfl, by simp, fun k _ hk => ?_⟩⟩
  · rw [h2]; rfl
  · rw [heap_setCell_other _ ⟨g, 1, none⟩ k _ (fun e => hk (by simp [e])), heap_setCell_other w ⟨g, 2, none⟩ k _ (fun e => hk (by simp [e]))]

theorem grown_drewS {w w' : World} {row : Option Nat} (h : w.grownBy w' row) : w.grownBy w'.drew row := ⟨h.os, h.tape, h.output, h.size, h.block⟩

theorem grown_step {w w1 w2 : World} {g : Nat} (h : w.grownBy w1 (some g)) (h2 : w1.grownBy w2 (some g)) : w.grownBy w2 (some g) :=
  ⟨h2.os.trans h.os, h2.tape.trans h.tape, h2.output.trans h.output, Nat.le_trans h.size h2.size, fun k hk hne => (h2.block k (Nat.lt_of_lt_of_le hk h.size) hne).trans (h.block k hk hne)⟩

theorem grown_own {w w1 w2 : World} {g : Nat} {row : Option Nat} (h : w.grownBy w1 (some g)) (h2 : w1.grownBy w2 row) (hr : ∀ k, row = some k → w.heap.size ≤ k) : w.grownBy w2 (some g) :=
  ⟨h2.os.trans h.os, h2.tape.trans h.tape, h2.output.trans h.output, Nat.le_trans h.size h2.size, fun k hk hne =>
    (h2.block k (Nat.lt_of_lt_of_le hk h.size) (fun e => by have := hr k e.symm; omega)).trans (h.block k hk hne)⟩

theorem grown_below {w w1 w2 : World} {g : Nat} (h : w.grownBy w1 (some g)) (h2 : Below w1.heap.size w1 w2) : w.grownBy w2 (some g) :=
  ⟨h2.os.trans h.os, h2.tape.trans h.tape, h2.output.trans h.output, Nat.le_trans h.size h2.size, fun k hk hne =>
    (h2.block k (Nat.lt_of_lt_of_le hk h.size)).trans (h.block k hk hne)⟩

theorem grown_alloc {w w1 : World} {g : Nat} (h : w.grownBy w1 (some g)) (o : Obj) : w.grownBy (w1.alloc o) (some g) :=
  grown_below h ((Below.refl _ _).alloc (Nat.le_refl _) o)

theorem below_of_grown {w w1 : World} {B g : Nat} (h : w.grownBy w1 (some g)) (hg : B ≤ g) (hB : B ≤ w.heap.size) : Below B w w1 :=
  (Below.refl B w).grown h hB (fun k hk => by simp at hk; omega)

/-- A source stays where blocks other than its own and its bytes' have turned. -/
theorem src_below {w w1 : World} {g n cap : Nat} {a : Option Addr} (h : Src w g a n cap) (hb : Below w.heap.size w w1) : Src w1 g a n cap := by
  obtain ⟨pos, st, h1, h2, h3, h4, h5⟩ := h
  refine ⟨pos, st, ?_, h2, h3, h4, ?_⟩
  · rw [hb.block g (Array.getElem?_eq_some_iff.1 h1).1]; exact h1
  · rcases h5 with h5 | ⟨b, off, e, hne, hc⟩
    · exact .inl h5
    · refine .inr ⟨b, off, e, hne, fun j hj => ?_⟩
      obtain ⟨c, hc1, hc2⟩ := hc j hj
      exact ⟨c, (hb.cell (World.block_lt_of_cell? w _ hc1)).trans hc1, hc2⟩

/-- .. also behind an append onto a row whose block came later. -/
theorem src_grown {w w0 w1 : World} {g n cap : Nat} {a : Option Addr} {row : Option Nat} (h : Src w g a n cap) (hg : w.grownBy w1 row) (hr : ∀ k, row = some k → w0.heap.size ≤ k) (hlt : g < w0.heap.size) (hcode : CodeAt w0 g a n) : Src w1 g a n cap := by
  obtain ⟨pos, st, h1, h2, h3, h4, h5⟩ := h
  refine ⟨pos, st, ?_, h2, h3, h4, ?_⟩
  · rw [hg.block g (Array.getElem?_eq_some_iff.1 h1).1 (fun e => by have := hr g e.symm; omega)]; exact h1
  · rcases h5 with h5 | ⟨b, off, e, hne, hc⟩
    · exact .inl h5
    · rcases hcode with h6 | ⟨b', off', e', _, hc'⟩
      · exact .inl h6
      · rw [e] at e'
        simp only [Option.some.injEq, Addr.mk.injEq, and_true] at e'
        obtain ⟨rfl, rfl⟩ := e'
        refine .inr ⟨b, off, e, hne, fun j hj => ?_⟩
        obtain ⟨c, hc1, hc2⟩ := hc j hj
        obtain ⟨c', hc1', _⟩ := hc' j hj
        have hbl := World.block_lt_of_cell? w0 _ hc1'
        exact ⟨c, hg.cell hc1 (fun e => by have h7 := hr b e.symm; have h8 : b < w0.heap.size := hbl; omega), hc2⟩

theorem src_code {w : World} {g n cap : Nat} {a : Option Addr} (h : Src w g a n cap) : CodeAt w g a n ∧ g < w.heap.size := by
  obtain ⟨pos, st, h1, h2, h3, h4, h5⟩ := h
  exact ⟨h5, (Array.getElem?_eq_some_iff.1 h1).1⟩

/-- A row of the call's own is not the source's block: its elements are of another type. -/
theorem row_src {w : World} {B e m g n cap : Nat} {a : Option Addr} {v : Value} {xs : List Value} (h : w.ownsRow B e 1 v m xs) (hs : Src w g a n cap) (hne : e ≠ 38) : v.ownBlock = none ∨ v.ownBlock ≠ some g := by
  obtain ⟨pos, st, h1, _⟩ := hs
  rcases h.2 with ⟨rfl, _⟩ | ⟨g', cap', cur, rfl, _, hh, _⟩
  · exact .inl rfl
  · right
    simp only [Value.ownBlock, ne_eq, Option.some.injEq]
    intro e2
    subst e2
    rw [hh] at h1
    simp at h1
    exact hne h1.2

theorem next_bound {x N : Int} (hx : 0 ≤ x) (h1 : 1 ≤ N) (h2 : N ≤ 1048576) : 0 ≤ wrap64 (x.tmod N) ∧ wrap64 (x.tmod N) < N := by
  have a1 : 0 ≤ x.tmod N := Int.tmod_nonneg N hx
  have a2 : x.tmod N < N := Int.tmod_lt_of_pos x (by omega)
  rw [IntWalk.wrap64_in (x.tmod N) ⟨by omega, by omega⟩]
  exact ⟨a1, a2⟩

theorem u64_nn (k : Int) : 0 ≤ IntKind.u64.wrap k := (bounds_u64 (wf_wrap .u64 k)).1
theorem bits_nn (op : BinOp) (x y : Int) : 0 ≤ bits op .u64 x y := (bounds_u64 (wf_bits op .u64 x y)).1

set_option maxRecDepth 100000 in
set_option maxHeartbeats 800000 in
theorem l01Next_any (g : Nat) (a : Option Addr) (n cap : Nat) (N : Int) (w : World) (h : Src w g a n cap) (hN : N ≤ 1048576) :
    Calls Try.prog 12 #[.pointer (some ⟨g, 0, none⟩), .int .i64 N] w fun e w' => ∃ r : Int, e = .returned (.int .i64 r) ∧ 0 ≤ r ∧ (0 < N → r < N) ∧ Src w' g a n cap ∧ w.grownBy w' (some g) := by
  obtain ⟨pos, st, hb, hp0, hpn, hn, hcode⟩ := h
  by_cases hN0 : N ≤ 0
  · go_enter Try.func12, Try.ntmps12
    go_wp2
    go_ret
    exact ⟨0, rfl, by omega, by omega, ⟨pos, st, hb, hp0, hpn, hn, hcode⟩, World.grownBy.refl _ _⟩
  · have c0 : w.cell? ⟨g, 0, none⟩ = some (.slice a n cap) := by rw [cell_of_row _ _ _ _ _ _ hb]; rfl
    have c1 : w.cell? ⟨g, 1, none⟩ = some (.int .i64 pos) := by rw [cell_of_row _ _ _ _ _ _ hb]; rfl
    have c2 : w.cell? ⟨g, 2, none⟩ = some (.int .u64 st) := by rw [cell_of_row _ _ _ _ _ _ hb]; rfl
    have f0 := frozen_of_row w g 0 _ _ hb
    have f1 := frozen_of_row w g 1 _ _ hb
    have f2 := frozen_of_row w g 2 _ _ hb
    have hN1 : 1 ≤ N := by omega
    by_cases hlt : pos < n
    · obtain ⟨b, off, rfl, hbg, hcell⟩ := hcode.resolve_left (by omega)
      obtain ⟨k, rfl⟩ := Int.eq_ofNat_of_zero_le hp0
      obtain ⟨c, hc, hc0, hc1⟩ := hcell k (by omega)
      have HS := fun s2 => Nm.hide (src_two hb hn hcode s2 ((k : Int) + 1) (by omega) (by omega))
      clear hb hcode
      go_enter Try.func12, Try.ntmps12
      go_wp2
      go_region
      go_wp2
      go_region
      go_wp2
      go_ret
      have B := next_bound (N := N) (bits_nn .xor (IntKind.u64.wrap (IntKind.u64.wrap (st * 6364136223846793005) + 1442695040888963407) / 8589934592) c) hN1 hN
      exact ⟨_, rfl, B.1, fun _ => B.2, (HS _).out.1, grown_drewS (grown_drewS (HS _).out.2)⟩
    · have HS := fun s2 => Nm.hide (src_one hb hp0 hpn hn hcode s2)
      have hge : (n : Int) ≤ pos := by omega
      clear hb hcode
      go_enter Try.func12, Try.ntmps12
      go_wp2
      go_region
      go_wp2
      go_ret
      have B := next_bound (N := N) (x := IntKind.u64.wrap (IntKind.u64.wrap (st * 6364136223846793005) + 1442695040888963407) / 8589934592) (Int.ediv_nonneg (u64_nn _) (by decide)) hN1 hN
      exact ⟨_, rfl, B.1, fun _ => B.2, (HS _).out.1, grown_drewS (HS _).out.2⟩
end Go.Proofs.Ytihhchebcojplaa
/- The size of bytes that are made. -/
namespace Go.Proofs.Ytihhchebcojplaa
open Go.RowKit

theorem mk_size (l : List UInt8) : (⟨l.toArray⟩ : ByteArray).size = l.length := by show l.toArray.size = _; simp
end Go.Proofs.Ytihhchebcojplaa
