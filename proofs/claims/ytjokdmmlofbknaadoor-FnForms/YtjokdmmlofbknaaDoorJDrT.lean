import Derived.Test.YtjokdmmlofbknaaDoorJMkS
import Derived.Test.YtjokdmmlofbknaaDoorJCutM
import Derived.Test.YtjokdmmlofbknaaDoorJDraw6
/- spec.l02Type by its contract. -/
namespace Go.Proofs.YtjokdmmlofbknaaDoor
open Go.RowKit
set_option linter.unusedVariables false

/-- The types that are drawn. -/
def drTs : List Nat := [1, 2, 5, 6, 12, 13, 15, 16, 28, 33, 35, 39, 47, 257, 1, 2, 15, 28, 99, 65280]
theorem drTs_ok {t : Nat} (h : t ∈ drTs) : 1 ≤ t ∧ t < 65536 := by
  simp [drTs] at h
  omega

set_option maxRecDepth 100000 in
set_option maxHeartbeats 1600000 in
theorem l02Type_any (g : Nat) (a : Option Addr) (n cap : Nat) (w : World) (h : Src w g a n cap) :
    Calls Tryd.prog 33 #[.pointer (some ⟨g, 0, none⟩)] w fun e w' => ∃ t : Nat, e = .returned (.int .i64 (t : Int)) ∧ t ∈ drTs ∧ Src w' g a n cap ∧ w.grownBy w' (some g) := by
  obtain ⟨hcode, hglt⟩ := src_code h
  have hk := blk_new w #[.int .i64 1, .int .i64 2, .int .i64 5, .int .i64 6, .int .i64 12, .int .i64 13, .int .i64 15, .int .i64 16, .int .i64 28, .int .i64 33, .int .i64 35, .int .i64 39, .int .i64 47, .int .i64 257, .int .i64 1, .int .i64 2, .int .i64 15, .int .i64 28, .int .i64 99, .int .i64 65280] 2
  have hA : w.grownBy (w.alloc (.cells #[.int .i64 1, .int .i64 2, .int .i64 5, .int .i64 6, .int .i64 12, .int .i64 13, .int .i64 15, .int .i64 16, .int .i64 28, .int .i64 33, .int .i64 35, .int .i64 39, .int .i64 47, .int .i64 257, .int .i64 1, .int .i64 2, .int .i64 15, .int .i64 28, .int .i64 99, .int .i64 65280] 2)) (some g) := grown_alloc (World.grownBy.refl _ _) _
  have hS := src_below h ((Below.refl _ _).alloc (Nat.le_refl _) (.cells #[.int .i64 1, .int .i64 2, .int .i64 5, .int .i64 6, .int .i64 12, .int .i64 13, .int .i64 15, .int .i64 16, .int .i64 28, .int .i64 33, .int .i64 35, .int .i64 39, .int .i64 47, .int .i64 257, .int .i64 1, .int .i64 2, .int .i64 15, .int .i64 28, .int .i64 99, .int .i64 65280] 2))
  go_enter Tryd.func33, Tryd.ntmps33
  go_wp2_with (
    go_at_call 22
    refine (l01Next_any g a n cap 20 _ hS (by decide)).mono ?_
    rintro e w1 ⟨r, rfl, hr0, hr1, hsrc1, hgr1⟩
    have hr2 := hr1 (by decide)
    obtain ⟨i, rfl⟩ := Int.eq_ofNat_of_zero_le hr0
    have hi : i < 20 := by omega
    obtain ⟨t, ht⟩ : ∃ t, drTs[i]? = some t := ⟨_, List.getElem?_eq_getElem (by simpa [drTs] using hi)⟩
    have hk1 := blk_grown hk hgr1 (by intro e; cases e; omega)
    have hc1 : w1.cell? ⟨w.heap.size, i, none⟩ = some (.int .i64 (t : Int)) := by
      rw [blk_cell hk1 i]
      have e : #[.int .i64 1, .int .i64 2, .int .i64 5, .int .i64 6, .int .i64 12, .int .i64 13, .int .i64 15, .int .i64 16, .int .i64 28, .int .i64 33, .int .i64 35, .int .i64 39, .int .i64 47, .int .i64 257, .int .i64 1, .int .i64 2, .int .i64 15, .int .i64 28, .int .i64 99, .int .i64 65280] = (drTs.map (fun t : Nat => Value.int .i64 (t : Int))).toArray := rfl
      rw [e, List.getElem?_toArray, List.getElem?_map, ht]
      rfl
    clear hr1 hk hk1)
  go_ret
  exact ⟨t, rfl, List.mem_of_getElem? ht, hsrc1, grown_step hA hgr1⟩
end Go.Proofs.YtjokdmmlofbknaaDoor
/- spec.DrawShowV4, DrawShowType, DrawShowText by their contracts. -/
namespace Go.Proofs.YtjokdmmlofbknaaDoor
open Go.RowKit
set_option linter.unusedVariables false

theorem drawn_below {w w1 w2 : World} (hb : Below w.heap.size w w1) (o : Obj) (hg : (w1.alloc o).grownBy w2 (some w1.heap.size)) : Below w.heap.size w w2 := by
  have := hb.size
  exact (hb.alloc hb.size o).grown hg (by simp; omega) (fun k hk => by simp at hk; omega)

set_option maxRecDepth 100000 in
set_option maxHeartbeats 400000 in
theorem drawShowV4_any (a : Option Addr) (n cap : Nat) (w : World) (h : CodeIn w a n) (hn : n ≤ 1048576) :
    Calls Tryd.prog 7 #[.slice a n cap] w fun e w' => ∃ s : ByteArray, e = .returned (.string s) ∧ s.size ≤ 10 ∧ Below w.heap.size w w' := by
  go_enter Tryd.func7, Tryd.ntmps7
  go_wp2_with fail
  refine (l01Begin_any a n cap _ h hn).mono ?_
  rintro e w1 ⟨st, rfl, hb1⟩
  have HS := src_made (cap := cap) (code_below h hb1) hn st
  go_wp2_with fail
  refine (l01Next_any w1.heap.size a n cap 8 _ HS (by decide)).mono ?_
  rintro e w2 ⟨r, rfl, hr0, hr1, hs2, hg2⟩
  have hr2 := hr1 (by decide)
  clear hr1
  have hq : 0 ≤ r.tdiv 7 ∧ r.tdiv 7 ≤ 1 := by
    rw [Int.tdiv_eq_ediv_of_nonneg hr0]
    omega
  go_wp2_with fail
  refine (l01Bytes_any w1.heap.size a n cap (4 + r.tdiv 7) _ hs2 (by omega) (by omega)).mono ?_
  rintro e w3 ⟨s, rfl, hsz, hs3, hg3⟩
  go_wp2
  go_ret
  exact ⟨_, rfl, by omega, drawn_below hb1 _ (grown_step hg2 hg3)⟩

set_option maxRecDepth 100000 in
set_option maxHeartbeats 400000 in
theorem drawShowType_any (a : Option Addr) (n cap : Nat) (w : World) (h : CodeIn w a n) (hn : n ≤ 1048576) :
    Calls Tryd.prog 10 #[.slice a n cap] w fun e w' => ∃ t : Int, e = .returned (.int .i64 t) ∧ Below w.heap.size w w' := by
  go_enter Tryd.func10, Tryd.ntmps10
  go_wp2_with fail
  refine (l01Begin_any a n cap _ h hn).mono ?_
  rintro e w1 ⟨st, rfl, hb1⟩
  have HS := src_made (cap := cap) (code_below h hb1) hn st
  go_wp2_with fail
  refine (l01Next_any w1.heap.size a n cap 6 _ HS (by decide)).mono ?_
  rintro e w2 ⟨r, rfl, hr0, hr1, hs2, hg2⟩
  have hr2 := hr1 (by decide)
  clear hr1
  rcases (by omega : r = 0 ∨ r = 1 ∨ r = 2 ∨ 3 ≤ r) with rfl | rfl | rfl | h3
  · go_wp2_with (go_at_call 22; refine (l01Next_any w1.heap.size a n cap 2 _ hs2 (by decide)).mono ?_; rintro e w3 ⟨q, rfl, hq0, hq1, hs3, hg3⟩)
    go_ret
    exact ⟨_, rfl, drawn_below hb1 _ (grown_step hg2 hg3)⟩
  · go_wp2_with (go_at_call 22; refine (l01Next_any w1.heap.size a n cap 2 _ hs2 (by decide)).mono ?_; rintro e w3 ⟨q, rfl, hq0, hq1, hs3, hg3⟩)
    go_ret
    exact ⟨_, rfl, drawn_below hb1 _ (grown_step hg2 hg3)⟩
  · go_wp2_with (go_at_call 22; refine (l01Next_any w1.heap.size a n cap 300 _ hs2 (by decide)).mono ?_; rintro e w3 ⟨q, rfl, hq0, hq1, hs3, hg3⟩)
    go_ret
    exact ⟨_, rfl, drawn_below hb1 _ (grown_step hg2 hg3)⟩
  · have n0 : (r == 0) = false := by rw [beq_eq_false_iff_ne]; omega
    have n1 : (r == 1) = false := by rw [beq_eq_false_iff_ne]; omega
    have n2 : (r == 2) = false := by rw [beq_eq_false_iff_ne]; omega
    go_wp2_with (go_at_call 33; refine (l02Type_any w1.heap.size a n cap _ hs2).mono ?_; rintro e w3 ⟨q, rfl, hq1, hs3, hg3⟩)
    go_ret
    exact ⟨_, rfl, drawn_below hb1 _ (grown_step hg2 hg3)⟩

set_option maxRecDepth 100000 in
set_option maxHeartbeats 400000 in
theorem drawShowText_any (a : Option Addr) (n cap : Nat) (w : World) (h : CodeIn w a n) (hn : n ≤ 1048576) :
    Calls Tryd.prog 13 #[.slice a n cap] w fun e w' => ∃ s : ByteArray, e = .returned (.string s) ∧ s.size ≤ 50 ∧ Below w.heap.size w w' := by
  go_enter Tryd.func13, Tryd.ntmps13
  go_wp2_with fail
  refine (l01Begin_any a n cap _ h hn).mono ?_
  rintro e w1 ⟨st, rfl, hb1⟩
  have HS := src_made (cap := cap) (code_below h hb1) hn st
  go_wp2_with fail
  refine (l01Next_any w1.heap.size a n cap 20 _ HS (by decide)).mono ?_
  rintro e w2 ⟨r, rfl, hr0, hr1, hs2, hg2⟩
  have hr2 := hr1 (by decide)
  clear hr1
  go_wp2_with (go_at_call 29; refine (l01Bytes_any w1.heap.size a n cap r _ hs2 hr0 (by omega)).mono ?_; rintro e w3 ⟨s, rfl, hsz, hs3, hg3⟩)
  go_ret
  refine ⟨_, rfl, ?_, drawn_below hb1 _ (grown_step hg2 hg3)⟩
  rw [ByteArray.size_append]
  have : (ByteArray.mk #[112, 108, 97, 105, 110, 32, 34, 116, 101, 120, 116, 92]).size = 12 := rfl
  omega
end Go.Proofs.YtjokdmmlofbknaaDoor
