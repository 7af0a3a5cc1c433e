import Derived.Test.YtjokdmmlofbknaaDoorJDrT
import Derived.Test.YtjokdmmlofbknaaDoorJMkS
import Derived.Test.YtjokdmmlofbknaaDoorJSEsc
import Derived.Test.YtjokdmmlofbknaaDoorJCRow
import Derived.Deep.OwnRows
/- spec.l03Six, DrawShowV6 by their contracts. -/
namespace Go.Proofs.YtjokdmmlofbknaaDoor
open Go.RowKit
set_option linter.unusedVariables false

def szOf : Value → Nat
  | .string s => s.size
  | _ => 0

set_option maxRecDepth 100000 in
set_option maxHeartbeats 1600000 in
theorem l03Six_any (g : Nat) (a : Option Addr) (n cap : Nat) (w : World) (h : Src w g a n cap) :
    Calls Tryd.prog 21 #[.pointer (some ⟨g, 0, none⟩)] w fun e w' => ∃ s : ByteArray, e = .returned (.string s) ∧ s.size = 16 ∧ Src w' g a n cap ∧ w.grownBy w' (some g) := by
  have z2 : (ByteArray.mk #[0, 0]).size = 2 := rfl
  have z1 : (ByteArray.mk #[0]).size = 1 := rfl
  go_enter Tryd.func21, Tryd.ntmps21
  go_wp2
  go_loopw [3] (fun v wr => ∃ (k : Nat) (s : ByteArray), k ≤ 8 ∧ v = .string s ∧ Hid (s.size = 2 * k) ∧ Src wr g a n cap ∧ w.grownBy wr (some g))
    (fun v _ => 16 - szOf v)
  case atStart => exact ⟨0, ⟨#[]⟩, by omega, rfl, rfl, h, World.grownBy.refl _ _⟩
  case round =>
    obtain ⟨k, s, hk, rfl, HZ, hsrc, hgr⟩ := hrel
    clear h
    by_cases hlt : k < 8
    · have hlt' : (s.size : Int) < 16 := by have := HZ.out; omega
      go_wp2_with fail
      refine (l01Bytes_any g a n cap 2 _ hsrc (by decide) (by decide)).mono ?_
      rintro e w2 ⟨t, rfl, ht, hs2, hg2⟩
      have ht2 : t.size = 2 := by omega
      have ht1 : (1 : Int) ≤ (t.size : Int) := by omega
      go_wp2_with fail
      refine (l01Next_any g a n cap 2 _ hs2 (by decide)).mono ?_
      rintro e w3 ⟨q, rfl, hq0, hq1, hs3, hg3⟩
      clear hq1
      have G3 := grown_step (grown_step hgr hg2) hg3
      clear hg2 hg3 hgr hs2 hsrc
      by_cases hq : q = 0
      · subst hq
        go_wp2_with fail
        refine (l01Next_any g a n cap 4 _ hs3 (by decide)).mono ?_
        rintro e w4 ⟨p, rfl, hp0, hp1, hs4, hg4⟩
        clear hp1
        have G4 := grown_step G3 hg4
        clear hs3 G3 hg4
        by_cases hp : p = 0
        · subst hp
          go_wp2
          go_roundw
          case rel => exact ⟨k + 1, _, by omega, rfl, by show ByteArray.size _ = _; rw [ByteArray.size_append, ByteArray.size_append, ByteArray.size_extract, z1, z2, HZ.out]; omega, hs4, G4⟩
          case measure => simp only [szOf]; rw [ByteArray.size_append, ByteArray.size_append, ByteArray.size_extract, z1, z2, HZ.out]; omega
        · have hp' : (p == 0) = false := by rw [beq_eq_false_iff_ne]; exact hp
          go_wp2
          go_roundw
          case rel => exact ⟨k + 1, _, by omega, rfl, by show ByteArray.size _ = _; rw [ByteArray.size_append, z2, HZ.out]; omega, hs4, G4⟩
          case measure => simp only [szOf]; rw [ByteArray.size_append, z2, HZ.out]; omega
      · have hq' : (q == 0) = false := by rw [beq_eq_false_iff_ne]; exact hq
        have HT := Nm.hide ht2
        clear ht2
        go_wp2_with fail
        refine (l01Next_any g a n cap 4 _ hs3 (by decide)).mono ?_
        rintro e w4 ⟨p, rfl, hp0, hp1, hs4, hg4⟩
        clear hp1
        have G4 := grown_step G3 hg4
        clear hs3 G3 hg4
        by_cases hp : p = 0
        · subst hp
          go_wp2
          go_roundw
          case rel => exact ⟨k + 1, _, by omega, rfl, by show ByteArray.size _ = _; rw [ByteArray.size_append, ByteArray.size_append, ByteArray.size_extract, z1, HT.out, HZ.out]; omega, hs4, G4⟩
          case measure => simp only [szOf]; rw [ByteArray.size_append, ByteArray.size_append, ByteArray.size_extract, z1, HT.out, HZ.out]; omega
        · have hp' : (p == 0) = false := by rw [beq_eq_false_iff_ne]; exact hp
          go_wp2
          go_roundw
          case rel => exact ⟨k + 1, _, by omega, rfl, by show ByteArray.size _ = _; rw [ByteArray.size_append, HT.out, HZ.out]; omega, hs4, G4⟩
          case measure => simp only [szOf]; rw [ByteArray.size_append, HT.out, HZ.out]; omega
    · have hke : k = 8 := by omega
      subst hke
      have hlt' : (16 : Int) ≤ (s.size : Int) := by have := HZ.out; omega
      go_wp2
      go_ret
      exact ⟨s, rfl, by have := HZ.out; omega, hsrc, hgr⟩

set_option maxRecDepth 100000 in
set_option maxHeartbeats 400000 in
theorem drawShowV6_any (a : Option Addr) (n cap : Nat) (w : World) (h : CodeIn w a n) (hn : n ≤ 1048576) :
    Calls Tryd.prog 4 #[.slice a n cap] w fun e w' => ∃ s : ByteArray, e = .returned (.string s) ∧ s.size ≤ 16 ∧ Below w.heap.size w w' := by
  go_enter Tryd.func4, Tryd.ntmps4
  go_wp2_with fail
  refine (l01Begin_any a n cap _ h hn).mono ?_
  rintro e w1 ⟨st, rfl, hb1⟩
  have HS := src_made (cap := cap) (code_below h hb1) hn st
  go_wp2_with fail
  refine (l03Six_any w1.heap.size a n cap _ HS).mono ?_
  rintro e w2 ⟨s, rfl, hsz, hs2, hg2⟩
  have hs1 : (1 : Int) ≤ (s.size : Int) := by omega
  have HZ := Nm.hide hsz
  clear hsz
  go_wp2_with fail
  refine (l01Next_any w1.heap.size a n cap 10 _ hs2 (by decide)).mono ?_
  rintro e w3 ⟨r, rfl, hr0, hr1, hs3, hg3⟩
  clear hr1
  by_cases hr : r = 0
  · subst hr
    go_wp2
    go_ret
    exact ⟨_, rfl, by rw [ByteArray.size_extract]; have := HZ.out; omega, drawn_below hb1 _ (grown_step hg2 hg3)⟩
  · have hr' : (r == 0) = false := by rw [beq_eq_false_iff_ne]; exact hr
    go_wp2
    go_ret
    exact ⟨_, rfl, by have := HZ.out; omega, drawn_below hb1 _ (grown_step hg2 hg3)⟩
end Go.Proofs.YtjokdmmlofbknaaDoor
/- spec.l02Short by its contract. -/
namespace Go.Proofs.YtjokdmmlofbknaaDoor
open Go.RowKit
set_option linter.unusedVariables false

theorem one_cat (c : UInt8) (B : ByteArray) (h : B.size ≤ 256) : 1 ≤ ((⟨#[c]⟩ : ByteArray) ++ B).size ∧ ((⟨#[c]⟩ : ByteArray) ++ B).size ≤ 257 := by
  rw [ByteArray.size_append]
  have : (⟨#[c]⟩ : ByteArray).size = 1 := rfl
  omega
theorem ext_256 (B : ByteArray) (k : Nat) (h : B.size ≤ 256) : (B.extract 0 k).size ≤ 256 := by
  rw [ByteArray.size_extract]
  omega

end Go.Proofs.YtjokdmmlofbknaaDoor
/- spec.TypeMap by its contract. -/
namespace Go.Proofs.YtjokdmmlofbknaaDoor
open Go.RowKit

theorem Tryd.infoBool : (Tryd.prog.info? 4).map (fun i => (i.zero, i.size, i.bytes)) = some (some (.bool false), 1, 1) := by kernel_rfl
theorem Tryd.infoU8t : (Tryd.prog.info? 5).map (fun i => (i.zero, i.size, i.bytes)) = some (some (.int .u8 0), 1, 1) := by kernel_rfl

theorem twice_zero (b : Nat) : (b * 2 + false.toNat = 0) = (b = 0) := propext (by show b * 2 + 0 = 0 ↔ b = 0; omega)

theorem bool_apart {w w1 : World} {B n g M : Nat} {v : Value} {xs : List Value} {f : Nat → Value} {O : Obj} (h : w.ownsRow B 5 1 v n xs) (hr : w.rowIs g 4 M f) (hg : (w.alloc O).grownBy w1 v.ownBlock) : w1.rowIs g 4 M f := by
  refine hr.of_block ?_
  have hlt := hr.lt
  obtain ⟨c, hb, _, _⟩ := hr
  have hne : some g ≠ v.ownBlock := by
    rcases h.2 with ⟨rfl, _⟩ | ⟨g', cap, cur, rfl, _, hh, _⟩
    · simp [Value.ownBlock]
    · simp only [Value.ownBlock, ne_eq, Option.some.injEq]
      intro e
      subst e
      rw [hb] at hh
      simp at hh
  have h1 := hg.block g (by simp; omega) hne
  have h2 : Below w.heap.size w (w.alloc O) := (Below.refl _ _).alloc (Nat.le_refl _) _
  exact h1.trans (h2.block g hlt)

theorem blk_conv {w W : World} {B g cap n p : Nat} {S : Nat → Bool} (h : w.ownsRow B 5 1 (.slice (some ⟨g, 0, none⟩) 32 cap) 32 (Nm.bys (blkB S p 32))) (hn : n ≤ 32) (hW : W.heap[g]? = w.heap[g]?) :
    (convert 22 9 (.slice (some ⟨g, 0, none⟩) n cap)).run Tryd.prog W = .ok (.string ⟨(blkB S p n).toArray⟩) W := by
  have hl := blkB_len S p n
  have hr := run_convert_bytes_back (P := Tryd.prog) W 22 9 5 ⟨g, 0, none⟩ cap (blkB S p n) Tryd.underlying22 Tryd.underlying5 Tryd.underlying9 (by
    intro j hj
    rw [Nm.addr_add, Nat.zero_add]
    have e : W.cell? ⟨g, j, none⟩ = w.cell? ⟨g, j, none⟩ := by simp only [World.cell?, hW]
    rw [e, h.cellAt j (by omega), Nm.bys, List.getElem?_map]
    have e2 : (blkB S p 32)[j]? = some (blkB S p n)[j] := by
      rw [← List.getElem?_eq_getElem hj, ← blkB_take S p 32 n hn, List.getElem?_take, if_pos (by omega)]
    rw [e2]; rfl)
  rw [hl] at hr
  exact hr

theorem two_conv {a b : Nat} (ha : a < 256) (hb : b < 256) (W : World) : (convert 22 9 (.slice (some ⟨W.heap.size, 0, none⟩) 2 2)).run Tryd.prog (W.alloc (.cells #[.int .u8 (a : Int), .int .u8 (b : Int)] 5)).drew = .ok (.string ⟨#[UInt8.ofNat a, UInt8.ofNat b]⟩) (W.alloc (.cells #[.int .u8 (a : Int), .int .u8 (b : Int)] 5)).drew := by
  have ea : (UInt8.ofNat a).toNat = a := by simp; omega
  have eb : (UInt8.ofNat b).toNat = b := by simp; omega
  refine run_convert_bytes_back (P := Tryd.prog) (W.alloc (.cells #[.int .u8 (a : Int), .int .u8 (b : Int)] 5)).drew 22 9 5 ⟨W.heap.size, 0, none⟩ 2 [UInt8.ofNat a, UInt8.ofNat b] Tryd.underlying22 Tryd.underlying5 Tryd.underlying9 ?_
  intro j hj
  rw [Nm.addr_add, Nat.zero_add]
  have e : (W.alloc (.cells #[.int .u8 (a : Int), .int .u8 (b : Int)] 5)).drew.cell? ⟨W.heap.size, j, none⟩ = #[Value.int .u8 (a : Int), .int .u8 (b : Int)][j]? := World.cell?_alloc_new W _ _ j
  rw [e]
  rcases j with _ | _ | j
  · simp [ea]
  · simp [eb]
  · simp at hj; omega

end Go.Proofs.YtjokdmmlofbknaaDoor
