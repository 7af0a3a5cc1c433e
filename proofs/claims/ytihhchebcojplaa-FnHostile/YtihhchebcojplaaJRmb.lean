import Derived.Test.YtihhchebcojplaaJRd11
import Derived.Deep.RegionHeld2
import Derived.Deep.CutRange
/- (*reader).message where a list is bad. -/
namespace Go.Proofs.Ytihhchebcojplaa
open Go.RowKit
set_option linter.unusedVariables false

set_option maxRecDepth 100000 in
set_option maxHeartbeats 8000000 in
theorem message_b (g : Nat) (a : Option Addr) (l : List UInt8) (cap : Nat) (w : World) (h : Rd w g (.slice a l.length cap) 0) (hfar : ∀ w', w.grownBy w' (some g) → BySl w' (.slice a l.length cap) l) (hnn : l.length ≤ 1048576)
    (hbig : ¬ 65535 < l.length) (hsh : ¬ l.length < 12) (hcnt : ¬ 400 < n16 l 4 + n16 l 6 + n16 l 8 + n16 l 10) {c : Int} {qs : List Qm} {p1 : Nat} (hd1 : manyS (quS l) (n16 l 4) 12 [] = .ok qs p1) (hd2 : manyS (rrS l) (n16 l 6) p1 [] = .bad c) :
    Calls Try.prog 17 #[.pointer (some ⟨g, 0, none⟩)] w fun e w' => e = .panicked (fault c) ∧ w.grownBy w' (some g) := by
  have hglt := rd_lt h
  have c0 : w.cell? ⟨g, 0, none⟩ = some (.slice a l.length cap) := by rw [cell_of_row _ _ _ _ _ _ h]; rfl
  have hbe : Below w.heap.size w (w.alloc (.cells ms0 29)) := (Below.refl _ _).alloc (Nat.le_refl _) _
  have hb0 := blk_new w ms0 29
  have hr0 := rd_below h hbe
  have hg0 := hgr_below (World.grownBy.refl w (some g)) hbe
  simp only [ms0] at hbe hb0 hr0 hg0
  have hbig' : (l.length : Int) ≤ 65535 := by omega
  have hhd := head_any g a l cap _ hr0 (fun W hW => hfar W (hgr_step hg0 hW)) hnn
  have c1 := (blk_cell (rd_blk hr0) 0)
  have hhd' := hhd.mono (R' := fun e w' => e = .returned (.tuple #[.agg (hdA (n16 l 0) (n16 l 2)), .agg (ctA l)]) ∧ Rd w' g (.slice a l.length cap) 12 ∧ w.grownBy w' (some g) ∧ Blk w' w.heap.size ms0 29) (by
    rintro e w' (⟨_, he, hr, hg⟩ | ⟨hx, _⟩)
    · exact ⟨he, hr, hgr_step hg0 hg, blk_grown hb0 hg (by simp; omega)⟩
    · omega)
  clear hhd hb0 hr0 hbe
  have q4 := n16_lt l 4
  have q6 := n16_lt l 6
  have q8 := n16_lt l 8
  have q10 := n16_lt l 10
  simp only [hdA, ctA] at hhd'
  have hcnt' : (n16 l 4 : Int) + (n16 l 6 : Int) + (n16 l 8 : Int) + (n16 l 10 : Int) ≤ 400 := by omega
  go_enter Try.func17, Try.ntmps17
  go_wp2_with (first | (go_at_call 34; refine hhd'.mono ?_; rintro e w2 ⟨rfl, hr2, hg2, hb2⟩))
  have M0 := mst_new (n := l.length) (d := n16 l 0) (f := n16 l 2) (l := l) hr2 (by omega) hg2 hb2 hglt
  simp only [hdA, ctA, Int.natCast_emod, Int.natCast_ediv] at M0
  refine gen_world2 (Pr := fun W => MSt w W g w2.heap.size _ _ _ l.length 12) (G := fun W => Code.wp _ _ _ _ W) M0 ?_
  clear M0 hr2 hg2 hb2
  generalize w2.heap.size = b
  intro W0 M0
  have hqu := fun W (h : MSt w W g b (.slice a l.length cap) #[.int .i64 (n16 l 0), .bool ((n16 l 2).testBit 15), .int .i64 ((n16 l 2 : Int) / 2048 % 16), .bool ((n16 l 2).testBit 10), .bool ((n16 l 2).testBit 9), .bool ((n16 l 2).testBit 8), .bool ((n16 l 2).testBit 7), .bool ((n16 l 2).testBit 6), .bool ((n16 l 2).testBit 5), .bool ((n16 l 2).testBit 4), .int .i64 ((n16 l 2 : Int) % 16)] #[.int .i64 (n16 l 4), .int .i64 (n16 l 6), .int .i64 (n16 l 8), .int .i64 (n16 l 10)] l.length 12) => questions_any g a l cap 12 (n16 l 4) W h.rd (fun W2 hW2 => hfar W2 (hgr_step h.grown hW2)) h.le hnn (by omega)
  have hrr := fun W (p k : Nat) (hk : k < 65536) (h : MSt w W g b (.slice a l.length cap) #[.int .i64 (n16 l 0), .bool ((n16 l 2).testBit 15), .int .i64 ((n16 l 2 : Int) / 2048 % 16), .bool ((n16 l 2).testBit 10), .bool ((n16 l 2).testBit 9), .bool ((n16 l 2).testBit 8), .bool ((n16 l 2).testBit 7), .bool ((n16 l 2).testBit 6), .bool ((n16 l 2).testBit 5), .bool ((n16 l 2).testBit 4), .int .i64 ((n16 l 2 : Int) % 16)] #[.int .i64 (n16 l 4), .int .i64 (n16 l 6), .int .i64 (n16 l 8), .int .i64 (n16 l 10)] l.length p) => records_any g a l cap p k W h.rd (fun W2 hW2 => hfar W2 (hgr_step h.grown hW2)) h.le hnn (by omega)
  have HVA : Hid (∀ q x y z, msA (n16 l 0) (n16 l 2) q x y z = #[.int .i64 (n16 l 0), .bool ((n16 l 2).testBit 15), .int .i64 ((n16 l 2 : Int) / 2048 % 16), .bool ((n16 l 2).testBit 10), .bool ((n16 l 2).testBit 9), .bool ((n16 l 2).testBit 8), .bool ((n16 l 2).testBit 7), .bool ((n16 l 2).testBit 6), .bool ((n16 l 2).testBit 5), .bool ((n16 l 2).testBit 4), .int .i64 ((n16 l 2 : Int) % 16), q, x, y, z]) := by
    intro q x y z; simp [msA]
  generalize ((n16 l 2 : Nat) : Int) / 2048 % 16 = op at *
  generalize ((n16 l 2 : Nat) : Int) % 16 = cd at *
  generalize (n16 l 2).testBit 15 = t15 at *
  generalize (n16 l 2).testBit 10 = t10 at *
  generalize (n16 l 2).testBit 9 = t9 at *
  generalize (n16 l 2).testBit 8 = t8 at *
  generalize (n16 l 2).testBit 7 = t7 at *
  generalize (n16 l 2).testBit 6 = t6 at *
  generalize (n16 l 2).testBit 5 = t5 at *
  generalize (n16 l 2).testBit 4 = t4 at *
  generalize n16 l 4 = k1 at *
  generalize n16 l 6 = k2 at *
  generalize n16 l 8 = k3 at *
  generalize n16 l 10 = k4 at *
  clear hhd' hfar
  have hSM : ∀ W p, MSt w W g b (.slice a l.length cap) #[.int .i64 (n16 l 0), .bool t15, .int .i64 op, .bool t10, .bool t9, .bool t8, .bool t7, .bool t6, .bool t5, .bool t4, .int .i64 cd] #[.int .i64 k1, .int .i64 k2, .int .i64 k3, .int .i64 k4] l.length p → (W.cell? ⟨b, 0, none⟩ = some (.int .i64 (n16 l 0)) ∧ W.cell? ⟨b, 1, none⟩ = some (.bool t15) ∧ W.cell? ⟨b, 2, none⟩ = some (.int .i64 op) ∧ W.cell? ⟨b, 3, none⟩ = some (.bool t10) ∧ W.cell? ⟨b, 4, none⟩ = some (.bool t9) ∧ W.cell? ⟨b, 5, none⟩ = some (.bool t8) ∧ W.cell? ⟨b, 6, none⟩ = some (.bool t7) ∧ W.cell? ⟨b, 7, none⟩ = some (.bool t6) ∧ W.cell? ⟨b, 8, none⟩ = some (.bool t5) ∧ W.cell? ⟨b, 9, none⟩ = some (.bool t4) ∧ W.cell? ⟨b, 10, none⟩ = some (.int .i64 cd) ∧ W.cell? ⟨b + 1, 0, none⟩ = some (.int .i64 k1) ∧ W.cell? ⟨b + 1, 1, none⟩ = some (.int .i64 k2) ∧ W.cell? ⟨b + 1, 2, none⟩ = some (.int .i64 k3) ∧ W.cell? ⟨b + 1, 3, none⟩ = some (.int .i64 k4)) := by
    intro W p h
    exact ⟨blk_cell h.hb 0, blk_cell h.hb 1, blk_cell h.hb 2, blk_cell h.hb 3, blk_cell h.hb 4, blk_cell h.hb 5, blk_cell h.hb 6, blk_cell h.hb 7, blk_cell h.hb 8, blk_cell h.hb 9, blk_cell h.hb 10, blk_cell h.cb 0, blk_cell h.cb 1, blk_cell h.cb 2, blk_cell h.cb 3⟩
  have hS0 := hSM _ _ M0.drew
  have MD := M0.drew
  have hbl := M0.lt
  have hz0 := M0.grown.size
  have hy0 := blk_lt M0.res
  have hq1 := fun W h => (hqu W h).mono (R' := fun e w' => ∃ v, e = .returned v ∧ MSt w w' g b (.slice a l.length cap) #[.int .i64 (n16 l 0), .bool t15, .int .i64 op, .bool t10, .bool t9, .bool t8, .bool t7, .bool t6, .bool t5, .bool t4, .int .i64 cd] #[.int .i64 k1, .int .i64 k2, .int .i64 k3, .int .i64 k4] l.length p1 ∧ w'.ownsRow w.heap.size 53 3 v qs.length (quCs qs) ∧ W.grownBy w' (some g) ∧ ∀ k, v.ownBlock = some k → W.heap.size ≤ k) (by
      rintro e w' (⟨xs, q, v, hx, he, hs⟩ | ⟨c2, hx, _⟩)
      · rw [hd1] at hx; cases hx; exact ⟨v, he, h.read hs.grown hs.rd hs.le, own_base hs.own h.grown.size, hs.grown, fun k hk => (hs.own.lt k hk).1⟩
      · rw [hd1] at hx; cases hx)
  have hrB := fun W h => (hrr W p1 k2 q6 h).mono (R' := fun e w' => e = .panicked (fault c) ∧ W.grownBy w' (some g)) (by
      rintro e w' (⟨_, _, _, hx, _⟩ | ⟨c2, hx, he, hg⟩)
      · rw [hd2] at hx; cases hx
      · rw [hd2] at hx; cases hx; exact ⟨he, hg⟩)
  clear hqu hrr
  go_cut [5] from 31 to 48 (fun _ _ => False)
  case rest => exact hcut.elim
  case first =>
    go_region_held2 (fun W => W.cell? ⟨b, 0, none⟩ = some (.int .i64 (n16 l 0)) ∧ W.cell? ⟨b, 1, none⟩ = some (.bool t15) ∧ W.cell? ⟨b, 2, none⟩ = some (.int .i64 op) ∧ W.cell? ⟨b, 3, none⟩ = some (.bool t10) ∧ W.cell? ⟨b, 4, none⟩ = some (.bool t9) ∧ W.cell? ⟨b, 5, none⟩ = some (.bool t8) ∧ W.cell? ⟨b, 6, none⟩ = some (.bool t7) ∧ W.cell? ⟨b, 7, none⟩ = some (.bool t6) ∧ W.cell? ⟨b, 8, none⟩ = some (.bool t5) ∧ W.cell? ⟨b, 9, none⟩ = some (.bool t4) ∧ W.cell? ⟨b, 10, none⟩ = some (.int .i64 cd) ∧ W.cell? ⟨b + 1, 0, none⟩ = some (.int .i64 k1) ∧ W.cell? ⟨b + 1, 1, none⟩ = some (.int .i64 k2) ∧ W.cell? ⟨b + 1, 2, none⟩ = some (.int .i64 k3) ∧ W.cell? ⟨b + 1, 3, none⟩ = some (.int .i64 k4)) (first | with_reducible assumption | exact hF.out.elim | with_reducible exact hS0 | with_reducible exact hSM _ _ (MD.alloc _) | with_reducible exact hSM _ _ (M0.alloc _).drew | with_reducible exact hSM _ _ (M4.alloc _) | with_reducible exact hSM _ _ (M3.alloc _) | with_reducible exact hSM _ _ (M2.alloc _) | with_reducible exact hSM _ _ (M1.alloc _) | (have hK := hSM _ _ (MSt.sets M4 hB5 (by omega) [.int .i64 (n16 l 0), .bool t15, .int .i64 op, .bool t10, .bool t9, .bool t8, .bool t7, .bool t6, .bool t5, .bool t4, .int .i64 cd, .slice x1 qs.length y1, .slice x2 an.length y2, .slice x3 au.length y3, .slice x4 ex.length y4]); simp only [setAll, Nat.reduceAdd, Nat.zero_add] at hK; with_reducible exact hK)) ((first | (go_at_call 36; refine calls_any (.slice none 0 0) hF ?_) | (go_at_call 35; with_reducible refine (hq1 _ (by first | with_reducible exact MD | with_reducible exact MD.alloc _ | with_reducible exact (M0.alloc _).drew)).mono ?_; rintro e w3 ⟨v1, rfl, M1, o1, g1, b1⟩; obtain ⟨x1, y1, rfl⟩ := row_val o1; have hS1 := hSM _ _ M1; have hz1 := M1.grown.size; have hy1 := blk_lt M1.res; (try have hB5 := blk_grown (blk_drew (blk_new _ _ _)) g1 (by simp; omega)); (try have hB5 := blk_grown (blk_new _ _ _) g1 (by simp; omega)); (try (have r5 := (fun i => blk_cell hB5 i); have f5 := (fun i => blk_frozen hB5 i)))) | (go_at_call 36; refine calls_panics (ch := fault c) (.slice none 0 0) (by with_reducible refine (hrB _ (by first | with_reducible exact M1 | with_reducible exact M1.alloc _)).mono ?_; rintro e w9 ⟨rfl, hg9⟩; refine ⟨rfl, ?_⟩; refine bp_panic rfl ?_; exact ⟨rfl, by first | with_reducible exact hgr_step M1.grown hg9 | with_reducible exact hgr_step (M1.alloc _).grown hg9⟩) ?_; intro hF)))
    all_goals exact hF.out.elim
end Go.Proofs.Ytihhchebcojplaa
/- (*reader).message where a list is bad. -/
namespace Go.Proofs.Ytihhchebcojplaa
open Go.RowKit
set_option linter.unusedVariables false

set_option maxRecDepth 100000 in
set_option maxHeartbeats 8000000 in
theorem message_c (g : Nat) (a : Option Addr) (l : List UInt8) (cap : Nat) (w : World) (h : Rd w g (.slice a l.length cap) 0) (hfar : ∀ w', w.grownBy w' (some g) → BySl w' (.slice a l.length cap) l) (hnn : l.length ≤ 1048576)
    (hbig : ¬ 65535 < l.length) (hsh : ¬ l.length < 12) (hcnt : ¬ 400 < n16 l 4 + n16 l 6 + n16 l 8 + n16 l 10) {c : Int} {qs : List Qm} {an : List Rm} {p1 p2 : Nat} (hd1 : manyS (quS l) (n16 l 4) 12 [] = .ok qs p1) (hd2 : manyS (rrS l) (n16 l 6) p1 [] = .ok an p2) (hd3 : manyS (rrS l) (n16 l 8) p2 [] = .bad c) :
    Calls Try.prog 17 #[.pointer (some ⟨g, 0, none⟩)] w fun e w' => e = .panicked (fault c) ∧ w.grownBy w' (some g) := by
  have hglt := rd_lt h
  have c0 : w.cell? ⟨g, 0, none⟩ = some (.slice a l.length cap) := by rw [cell_of_row _ _ _ _ _ _ h]; rfl
  have hbe : Below w.heap.size w (w.alloc (.cells ms0 29)) := (Below.refl _ _).alloc (Nat.le_refl _) _
  have hb0 := blk_new w ms0 29
  have hr0 := rd_below h hbe
  have hg0 := hgr_below (World.grownBy.refl w (some g)) hbe
  simp only [ms0] at hbe hb0 hr0 hg0
  have hbig' : (l.length : Int) ≤ 65535 := by omega
  have hhd := head_any g a l cap _ hr0 (fun W hW => hfar W (hgr_step hg0 hW)) hnn
  have c1 := (blk_cell (rd_blk hr0) 0)
  have hhd' := hhd.mono (R' := fun e w' => e = .returned (.tuple #[.agg (hdA (n16 l 0) (n16 l 2)), .agg (ctA l)]) ∧ Rd w' g (.slice a l.length cap) 12 ∧ w.grownBy w' (some g) ∧ Blk w' w.heap.size ms0 29) (by
    rintro e w' (⟨_, he, hr, hg⟩ | ⟨hx, _⟩)
    · exact ⟨he, hr, hgr_step hg0 hg, blk_grown hb0 hg (by simp; omega)⟩
    · omega)
  clear hhd hb0 hr0 hbe
  have q4 := n16_lt l 4
  have q6 := n16_lt l 6
  have q8 := n16_lt l 8
  have q10 := n16_lt l 10
  simp only [hdA, ctA] at hhd'
  have hcnt' : (n16 l 4 : Int) + (n16 l 6 : Int) + (n16 l 8 : Int) + (n16 l 10 : Int) ≤ 400 := by omega
  go_enter Try.func17, Try.ntmps17
  go_wp2_with (first | (go_at_call 34; refine hhd'.mono ?_; rintro e w2 ⟨rfl, hr2, hg2, hb2⟩))
  have M0 := mst_new (n := l.length) (d := n16 l 0) (f := n16 l 2) (l := l) hr2 (by omega) hg2 hb2 hglt
  simp only [hdA, ctA, Int.natCast_emod, Int.natCast_ediv] at M0
  refine gen_world2 (Pr := fun W => MSt w W g w2.heap.size _ _ _ l.length 12) (G := fun W => Code.wp _ _ _ _ W) M0 ?_
  clear M0 hr2 hg2 hb2
  generalize w2.heap.size = b
  intro W0 M0
  have hqu := fun W (h : MSt w W g b (.slice a l.length cap) #[.int .i64 (n16 l 0), .bool ((n16 l 2).testBit 15), .int .i64 ((n16 l 2 : Int) / 2048 % 16), .bool ((n16 l 2).testBit 10), .bool ((n16 l 2).testBit 9), .bool ((n16 l 2).testBit 8), .bool ((n16 l 2).testBit 7), .bool ((n16 l 2).testBit 6), .bool ((n16 l 2).testBit 5), .bool ((n16 l 2).testBit 4), .int .i64 ((n16 l 2 : Int) % 16)] #[.int .i64 (n16 l 4), .int .i64 (n16 l 6), .int .i64 (n16 l 8), .int .i64 (n16 l 10)] l.length 12) => questions_any g a l cap 12 (n16 l 4) W h.rd (fun W2 hW2 => hfar W2 (hgr_step h.grown hW2)) h.le hnn (by omega)
  have hrr := fun W (p k : Nat) (hk : k < 65536) (h : MSt w W g b (.slice a l.length cap) #[.int .i64 (n16 l 0), .bool ((n16 l 2).testBit 15), .int .i64 ((n16 l 2 : Int) / 2048 % 16), .bool ((n16 l 2).testBit 10), .bool ((n16 l 2).testBit 9), .bool ((n16 l 2).testBit 8), .bool ((n16 l 2).testBit 7), .bool ((n16 l 2).testBit 6), .bool ((n16 l 2).testBit 5), .bool ((n16 l 2).testBit 4), .int .i64 ((n16 l 2 : Int) % 16)] #[.int .i64 (n16 l 4), .int .i64 (n16 l 6), .int .i64 (n16 l 8), .int .i64 (n16 l 10)] l.length p) => records_any g a l cap p k W h.rd (fun W2 hW2 => hfar W2 (hgr_step h.grown hW2)) h.le hnn (by omega)
  have HVA : Hid (∀ q x y z, msA (n16 l 0) (n16 l 2) q x y z = #[.int .i64 (n16 l 0), .bool ((n16 l 2).testBit 15), .int .i64 ((n16 l 2 : Int) / 2048 % 16), .bool ((n16 l 2).testBit 10), .bool ((n16 l 2).testBit 9), .bool ((n16 l 2).testBit 8), .bool ((n16 l 2).testBit 7), .bool ((n16 l 2).testBit 6), .bool ((n16 l 2).testBit 5), .bool ((n16 l 2).testBit 4), .int .i64 ((n16 l 2 : Int) % 16), q, x, y, z]) := by
    intro q x y z; simp [msA]
  generalize ((n16 l 2 : Nat) : Int) / 2048 % 16 = op at *
  generalize ((n16 l 2 : Nat) : Int) % 16 = cd at *
  generalize (n16 l 2).testBit 15 = t15 at *
  generalize (n16 l 2).testBit 10 = t10 at *
  generalize (n16 l 2).testBit 9 = t9 at *
  generalize (n16 l 2).testBit 8 = t8 at *
  generalize (n16 l 2).testBit 7 = t7 at *
  generalize (n16 l 2).testBit 6 = t6 at *
  generalize (n16 l 2).testBit 5 = t5 at *
  generalize (n16 l 2).testBit 4 = t4 at *
  generalize n16 l 4 = k1 at *
  generalize n16 l 6 = k2 at *
  generalize n16 l 8 = k3 at *
  generalize n16 l 10 = k4 at *
  clear hhd' hfar
  have hSM : ∀ W p, MSt w W g b (.slice a l.length cap) #[.int .i64 (n16 l 0), .bool t15, .int .i64 op, .bool t10, .bool t9, .bool t8, .bool t7, .bool t6, .bool t5, .bool t4, .int .i64 cd] #[.int .i64 k1, .int .i64 k2, .int .i64 k3, .int .i64 k4] l.length p → (W.cell? ⟨b, 0, none⟩ = some (.int .i64 (n16 l 0)) ∧ W.cell? ⟨b, 1, none⟩ = some (.bool t15) ∧ W.cell? ⟨b, 2, none⟩ = some (.int .i64 op) ∧ W.cell? ⟨b, 3, none⟩ = some (.bool t10) ∧ W.cell? ⟨b, 4, none⟩ = some (.bool t9) ∧ W.cell? ⟨b, 5, none⟩ = some (.bool t8) ∧ W.cell? ⟨b, 6, none⟩ = some (.bool t7) ∧ W.cell? ⟨b, 7, none⟩ = some (.bool t6) ∧ W.cell? ⟨b, 8, none⟩ = some (.bool t5) ∧ W.cell? ⟨b, 9, none⟩ = some (.bool t4) ∧ W.cell? ⟨b, 10, none⟩ = some (.int .i64 cd) ∧ W.cell? ⟨b + 1, 0, none⟩ = some (.int .i64 k1) ∧ W.cell? ⟨b + 1, 1, none⟩ = some (.int .i64 k2) ∧ W.cell? ⟨b + 1, 2, none⟩ = some (.int .i64 k3) ∧ W.cell? ⟨b + 1, 3, none⟩ = some (.int .i64 k4)) := by
    intro W p h
    exact ⟨blk_cell h.hb 0, blk_cell h.hb 1, blk_cell h.hb 2, blk_cell h.hb 3, blk_cell h.hb 4, blk_cell h.hb 5, blk_cell h.hb 6, blk_cell h.hb 7, blk_cell h.hb 8, blk_cell h.hb 9, blk_cell h.hb 10, blk_cell h.cb 0, blk_cell h.cb 1, blk_cell h.cb 2, blk_cell h.cb 3⟩
  have hS0 := hSM _ _ M0.drew
  have MD := M0.drew
  have hbl := M0.lt
  have hz0 := M0.grown.size
  have hy0 := blk_lt M0.res
  have hq1 := fun W h => (hqu W h).mono (R' := fun e w' => ∃ v, e = .returned v ∧ MSt w w' g b (.slice a l.length cap) #[.int .i64 (n16 l 0), .bool t15, .int .i64 op, .bool t10, .bool t9, .bool t8, .bool t7, .bool t6, .bool t5, .bool t4, .int .i64 cd] #[.int .i64 k1, .int .i64 k2, .int .i64 k3, .int .i64 k4] l.length p1 ∧ w'.ownsRow w.heap.size 53 3 v qs.length (quCs qs) ∧ W.grownBy w' (some g) ∧ ∀ k, v.ownBlock = some k → W.heap.size ≤ k) (by
      rintro e w' (⟨xs, q, v, hx, he, hs⟩ | ⟨c2, hx, _⟩)
      · rw [hd1] at hx; cases hx; exact ⟨v, he, h.read hs.grown hs.rd hs.le, own_base hs.own h.grown.size, hs.grown, fun k hk => (hs.own.lt k hk).1⟩
      · rw [hd1] at hx; cases hx)
  have hr2 := fun W h => (hrr W p1 k2 q6 h).mono (R' := fun e w' => ∃ v, e = .returned v ∧ MSt w w' g b (.slice a l.length cap) #[.int .i64 (n16 l 0), .bool t15, .int .i64 op, .bool t10, .bool t9, .bool t8, .bool t7, .bool t6, .bool t5, .bool t4, .int .i64 cd] #[.int .i64 k1, .int .i64 k2, .int .i64 k3, .int .i64 k4] l.length p2 ∧ w'.ownsRow w.heap.size 66 5 v an.length (rrCs an) ∧ W.grownBy w' (some g) ∧ ∀ k, v.ownBlock = some k → W.heap.size ≤ k) (by
      rintro e w' (⟨xs, q, v, hx, he, hs⟩ | ⟨c2, hx, _⟩)
      · rw [hd2] at hx; cases hx; exact ⟨v, he, h.read hs.grown hs.rd hs.le, own_base hs.own h.grown.size, hs.grown, fun k hk => (hs.own.lt k hk).1⟩
      · rw [hd2] at hx; cases hx)
  have hrB := fun W h => (hrr W p2 k3 q8 h).mono (R' := fun e w' => e = .panicked (fault c) ∧ W.grownBy w' (some g)) (by
      rintro e w' (⟨_, _, _, hx, _⟩ | ⟨c2, hx, he, hg⟩)
      · rw [hd3] at hx; cases hx
      · rw [hd3] at hx; cases hx; exact ⟨he, hg⟩)
  clear hqu hrr
  go_cut [5] from 31 to 48 (fun _ _ => False)
  case rest => exact hcut.elim
  case first =>
    go_region_held2 (fun W => W.cell? ⟨b, 0, none⟩ = some (.int .i64 (n16 l 0)) ∧ W.cell? ⟨b, 1, none⟩ = some (.bool t15) ∧ W.cell? ⟨b, 2, none⟩ = some (.int .i64 op) ∧ W.cell? ⟨b, 3, none⟩ = some (.bool t10) ∧ W.cell? ⟨b, 4, none⟩ = some (.bool t9) ∧ W.cell? ⟨b, 5, none⟩ = some (.bool t8) ∧ W.cell? ⟨b, 6, none⟩ = some (.bool t7) ∧ W.cell? ⟨b, 7, none⟩ = some (.bool t6) ∧ W.cell? ⟨b, 8, none⟩ = some (.bool t5) ∧ W.cell? ⟨b, 9, none⟩ = some (.bool t4) ∧ W.cell? ⟨b, 10, none⟩ = some (.int .i64 cd) ∧ W.cell? ⟨b + 1, 0, none⟩ = some (.int .i64 k1) ∧ W.cell? ⟨b + 1, 1, none⟩ = some (.int .i64 k2) ∧ W.cell? ⟨b + 1, 2, none⟩ = some (.int .i64 k3) ∧ W.cell? ⟨b + 1, 3, none⟩ = some (.int .i64 k4)) (first | with_reducible assumption | exact hF.out.elim | with_reducible exact hS0 | with_reducible exact hSM _ _ (MD.alloc _) | with_reducible exact hSM _ _ (M0.alloc _).drew | with_reducible exact hSM _ _ (M4.alloc _) | with_reducible exact hSM _ _ (M3.alloc _) | with_reducible exact hSM _ _ (M2.alloc _) | with_reducible exact hSM _ _ (M1.alloc _) | (have hK := hSM _ _ (MSt.sets M4 hB5 (by omega) [.int .i64 (n16 l 0), .bool t15, .int .i64 op, .bool t10, .bool t9, .bool t8, .bool t7, .bool t6, .bool t5, .bool t4, .int .i64 cd, .slice x1 qs.length y1, .slice x2 an.length y2, .slice x3 au.length y3, .slice x4 ex.length y4]); simp only [setAll, Nat.reduceAdd, Nat.zero_add] at hK; with_reducible exact hK)) ((first | (go_at_call 36; refine calls_any (.slice none 0 0) hF ?_) | (go_at_call 35; with_reducible refine (hq1 _ (by first | with_reducible exact MD | with_reducible exact MD.alloc _ | with_reducible exact (M0.alloc _).drew)).mono ?_; rintro e w3 ⟨v1, rfl, M1, o1, g1, b1⟩; obtain ⟨x1, y1, rfl⟩ := row_val o1; have hS1 := hSM _ _ M1; have hz1 := M1.grown.size; have hy1 := blk_lt M1.res; (try have hB5 := blk_grown (blk_drew (blk_new _ _ _)) g1 (by simp; omega)); (try have hB5 := blk_grown (blk_new _ _ _) g1 (by simp; omega)); (try (have r5 := (fun i => blk_cell hB5 i); have f5 := (fun i => blk_frozen hB5 i)))) | (go_at_call 36; with_reducible refine (hr2 _ (by first | with_reducible exact M1 | with_reducible exact M1.alloc _)).mono ?_; rintro e w4 ⟨v2, rfl, M2, o2, g2, b2⟩; obtain ⟨x2, y2, rfl⟩ := row_val o2;  have hS2 := hSM _ _ M2; have hz2 := M2.grown.size; have hy2 := blk_lt M2.res; (first | have o1 := row_grown o1 M1.rd (by decide) g2 | have o1 := row_grown (o1.alloc _) (M1.alloc _).rd (by decide) g2); (try have hB5 := blk_grown hB5 g2 (by simp; omega)); (try have hB5 := blk_grown (blk_new _ _ _) g2 (by simp; omega)); (try (have r5 := (fun i => blk_cell hB5 i); have f5 := (fun i => blk_frozen hB5 i)))) | (go_at_call 36; refine calls_panics (ch := fault c) (.slice none 0 0) (by with_reducible refine (hrB _ (by first | with_reducible exact M2 | with_reducible exact M2.alloc _)).mono ?_; rintro e w9 ⟨rfl, hg9⟩; refine ⟨rfl, ?_⟩; refine bp_panic rfl ?_; exact ⟨rfl, by first | with_reducible exact hgr_step M2.grown hg9 | with_reducible exact hgr_step (M2.alloc _).grown hg9⟩) ?_; intro hF)))
    all_goals exact hF.out.elim
end Go.Proofs.Ytihhchebcojplaa
