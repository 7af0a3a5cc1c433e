import Derived.Test.YtocadkdfhfiijaaJDrE
import Derived.Test.YtocadkdfhfiijaaJBytesRow
import Derived.Test.YtocadkdfhfiijaaRows
import Derived.RegionTactic
import Derived.BigRegion
import Derived.Test.YtocadkdfhfiijaaJRrM
import Derived.Test.YtocadkdfhfiijaaParts
import Derived.Laws.OwnMore
/- spec.l04Question by its contract. -/
namespace Go.Proofs.Ytocadkdfhfiijaa
open Go.RowKit
set_option linter.unusedVariables false

def quW (ls : List ByteArray) (ty cl : Nat) (bs : List UInt8) (pls : List (ByteArray × Nat)) : Wst := ((nmW ls bs pls).1 ++ (put2 ty ++ put2 cl), (nmW ls bs pls).2)

/-- The writer and a box beside it. -/
def SWB (w W : World) (g B : Nat) (bs : List UInt8) (pls : List (ByteArray × Nat)) (vb vp : Value) (b : Nat) (cs : Array Value) (T : TypeId) : Prop := (SW W g B bs pls vb vp ∧ B ≤ W.heap.size ∧ Bk B w W) ∧ Blk W b cs T
theorem SWB.below {w W W1 : World} {g B b : Nat} {bs : List UInt8} {pls : List (ByteArray × Nat)} {vb vp : Value} {cs : Array Value} {T : TypeId} (h : SWB w W g B bs pls vb vp b cs T) (hb : Below W.heap.size W W1) : SWB w W1 g B bs pls vb vp b cs T :=
  ⟨⟨h.1.1.below hb, Nat.le_trans h.1.2.1 hb.size, h.1.2.2.trans (Bk.of hb h.1.2.1)⟩, blk_below h.2 hb⟩

set_option maxRecDepth 100000 in
set_option maxHeartbeats 3200000 in
theorem l04Question_any (s : ByteArray) (ls : List ByteArray) (hs : Nm.split s = some ls) (ty cl : Nat) (hty : ty < 65536) (hcl : cl < 65536) (g B : Nat) (bs : List UInt8) (pls : List (ByteArray × Nat)) (vb vp : Value) (w : World) (h : SW w g B bs pls vb vp) (hB : B ≤ w.heap.size) (hl : bs.length + 300 ≤ 50000000) (hok : PlOK pls bs.length) :
    Calls Try.prog 23 #[.pointer (some ⟨g, 0, none⟩), .agg #[.string s, .int .i64 ty, .int .i64 cl]] w fun e w' => e = .returned (.tuple #[]) ∧ ∃ vb' vp', SW w' g B (quW ls ty cl bs pls).1 (quW ls ty cl bs pls).2 vb' vp' ∧ Bk B w w' := by
  have bA := (Below.refl w.heap.size w).alloc (Nat.le_refl _) (.cells #[.string s, .int .i64 ty, .int .i64 cl] 53)
  have hblk := blk_new w #[.string s, .int .i64 ty, .int .i64 cl] 53
  have hnm := l04Name_any s ls hs g B bs pls vb vp _ (h.below bA) (Nat.le_trans hB bA.size) (by omega) hok
  have hp1 := fun W => l02Put2_any ty W hty
  have hp2 := fun W => l02Put2_any cl W hcl
  have hlen := nmW_len ls bs pls (fun x hx => ((Nm.split_join hs).2 x hx).1)
  have hsz := Nm.split_size hs
  have HQ : Hid (quW ls ty cl bs pls = ((nmW ls bs pls).1 ++ ((⟨(put2 ty).toArray⟩ : ByteArray) ++ ⟨(put2 cl).toArray⟩).data.toList, (nmW ls bs pls).2)) := by
    show _ = _
    simp [quW, ByteArray.data_append]
  have hps : ((⟨(put2 ty).toArray⟩ : ByteArray) ++ ⟨(put2 cl).toArray⟩).size = 4 := by
    rw [ByteArray.size_append]; rfl
  have hps2 : ¬ 9223372036854775807 < (⟨(put2 ty).toArray⟩ : ByteArray).size + (⟨(put2 cl).toArray⟩ : ByteArray).size := by rw [← ByteArray.size_append, hps]; decide
  have hgl : w.heap.size < (w.alloc (.cells #[.string s, .int .i64 ty, .int .i64 cl] 53)).heap.size := by simp
  have htx := fun vb2 vp2 W (h : SW W g B (nmW ls bs pls).1 (nmW ls bs pls).2 vb2 vp2) (hB : B ≤ W.heap.size) => l04Text_any ((⟨(put2 ty).toArray⟩ : ByteArray) ++ ⟨(put2 cl).toArray⟩) g B _ _ vb2 vp2 W h hB (by rw [hps]; omega)
  rw [HQ.out]
  clear hps HQ hlen hsz hs
  generalize (⟨(put2 ty).toArray⟩ : ByteArray) = P1 at *
  generalize (⟨(put2 cl).toArray⟩ : ByteArray) = P2 at *
  generalize nmW ls bs pls = N at *
  go_enter Try.func23, Try.ntmps23
  go_wp2_with (go_at_call 47; refine hnm.mono ?_; rintro e w1 ⟨rfl, vb1, vp1, hS1, hb1⟩)
  have hbk : SWB w w1 g B N.1 N.2 vb1 vp1 w.heap.size #[.string s, .int .i64 ty, .int .i64 cl] 53 := ⟨⟨hS1, Nat.le_trans hB (Nat.le_trans bA.size hb1.be.size), (Bk.of bA hB).trans hb1⟩, hb1.kp _ _ _ hblk (by decide) (by decide) (by decide)⟩
  clear hS1 hb1 hblk bA hnm h hgl hB
  generalize w.heap.size = bx at *
  refine wp_region_held_drew (S := fun W => W.cell? ⟨bx, 1, none⟩ = some (.int .i64 ty) ∧ W.cell? ⟨bx, 2, none⟩ = some (.int .i64 cl)) (by kernel_rfl) ⟨(blk_cell hbk.2 1).trans rfl, (blk_cell hbk.2 2).trans rfl⟩ (fun hHeld => ?_)
  refine wpAnyH_take (i := 0) (v := ?_) rfl (by kernel_rfl) (by kernel_rfl) (by kernel_rfl) (fun _ _ _ h => h) (Or.inl ⟨by rfl, ?_⟩) (by assumption) ?_
  rotate_left 1
  · (rintro w ⟨hSw1, hSw2⟩; go_simp; try (with_reducible rfl))
  refine wpAnyH_take (i := 1) (v := ?_) rfl (by kernel_rfl) (by kernel_rfl) (by kernel_rfl) (fun _ _ _ h => h) (Or.inl ⟨by rfl, ?_⟩) (by assumption) ?_
  rotate_left 1
  · (rintro w ⟨hSw1, hSw2⟩; go_simp; try (with_reducible rfl))
  refine wpAnyH_take (i := 2) (v := ?_) rfl (by kernel_rfl) (by kernel_rfl) (by kernel_rfl) (fun _ _ _ h => h) (Or.inl ⟨by rfl, ?_⟩) (by assumption) ?_
  rotate_left 1
  · (rintro w ⟨hSw1, hSw2⟩; go_simp; try (with_reducible rfl))
  refine wpAnyH_take (i := 4) (v := ?_) rfl (by kernel_rfl) (by kernel_rfl) (by kernel_rfl) (fun _ _ _ h => h) (Or.inl ⟨by rfl, ?_⟩) (by assumption) ?_
  rotate_left 1
  · (rintro w ⟨hSw1, hSw2⟩; go_simp; try (with_reducible rfl))
  refine wpAnyH_take (i := 5) (v := ?_) rfl (by kernel_rfl) (by kernel_rfl) (by kernel_rfl) (fun _ _ _ h => h) (Or.inl ⟨by rfl, ?_⟩) (by assumption) ?_
  rotate_left 1
  · (rintro w ⟨hSw1, hSw2⟩; go_simp; try (with_reducible rfl))
  have hbk := hbk.below (Below.refl _ _).drew
  refine wpAnyH_ready (rs := [3]) (by kernel_rfl) (by simp) ?_
  refine AllReadyH.cons rfl (fun K hK => ?_) AllReadyH.nil
  go_simp
  refine (hp1 _).mono ?_
  rintro e wn ⟨rfl, hbn⟩
  go_wp2_with fail
  have hbk := hbk.below hbn
  refine hK.out _ _ ⟨(blk_cell hbk.2 1).trans rfl, (blk_cell hbk.2 2).trans rfl⟩ (fun _ => ?_)
  clear hK K
  refine wpAnyH_ready (rs := [6]) (by kernel_rfl) (by simp) ?_
  refine AllReadyH.cons rfl (fun K hK => ?_) AllReadyH.nil
  go_simp
  refine (hp2 _).mono ?_
  rintro e wn ⟨rfl, hbn⟩
  go_wp2_with fail
  have hbk := hbk.below hbn
  refine hK.out _ _ ⟨(blk_cell hbk.2 1).trans rfl, (blk_cell hbk.2 2).trans rfl⟩ (fun _ => ?_)
  clear hK K
  refine wpAnyH_take (i := 7) (v := .string (P1 ++ P2)) rfl (by kernel_rfl) (by kernel_rfl) (by kernel_rfl) (fun _ _ _ h => h) (Or.inl ⟨by rfl, ?_⟩) (by assumption) ?_
  · rintro w ⟨hSw1, hSw2⟩
    go_simp
    try (rw [if_neg hps2])
    try rfl
  refine wpAnyH_ready (rs := [8]) (by kernel_rfl) (by simp) ?_
  refine AllReadyH.cons rfl (fun K hK => ?_) AllReadyH.nil
  go_simp
  refine (htx _ _ _ hbk.1.1 hbk.1.2.1).mono ?_
  rintro e w6 ⟨rfl, vb6, hS6, hb6⟩
  go_wp2_with fail
  have hb7 := hb6.kp _ _ _ hbk.2 (by decide) (by decide) (by decide)
  refine hK.out _ _ ⟨(blk_cell hb7 1).trans rfl, (blk_cell hb7 2).trans rfl⟩ (fun _ => ?_)
  clear hK K
  refine wpAnyH_done (by kernel_rfl) ?_ _
  refine bodyPost_end (v := .tuple #[]) ?_ rfl ⟨rfl, vb6, vp1, hS6, hbk.1.2.2.trans hb6⟩
  simp [results, Try.results23, go_sem]
end Go.Proofs.Ytocadkdfhfiijaa
/- spec.l04Pointed by its contract. -/
namespace Go.Proofs.Ytocadkdfhfiijaa
open Go.RowKit
set_option linter.unusedVariables false

set_option maxRecDepth 100000 in
set_option maxHeartbeats 800000 in
theorem l04Pointed_any (t : Nat) (w : World) :
    Calls Try.prog 48 #[.int .i64 t] w fun e w' => e = .returned (.bool (decide (pointed t))) ∧ w' = w := by
  by_cases h : pointed t
  · rcases h with rfl | rfl | rfl | rfl | rfl
    all_goals
      go_enter Try.func48, Try.ntmps48
      go_wp2
      go_ret
      exact ⟨rfl, rfl⟩
  · have HD : Hid (decide (pointed t) = false) := by exact decide_eq_false h
    unfold pointed at h
    have b2 : ((t : Int) == 2) = false := by rw [beq_eq_false_iff_ne]; omega
    have b5 : ((t : Int) == 5) = false := by rw [beq_eq_false_iff_ne]; omega
    have b6 : ((t : Int) == 6) = false := by rw [beq_eq_false_iff_ne]; omega
    have b12 : ((t : Int) == 12) = false := by rw [beq_eq_false_iff_ne]; omega
    have b15 : ((t : Int) == 15) = false := by rw [beq_eq_false_iff_ne]; omega
    clear h
    go_enter Try.func48, Try.ntmps48
    go_wp2
    go_ret
    rw [HD.out]
    exact ⟨rfl, rfl⟩
end Go.Proofs.Ytocadkdfhfiijaa
/- A byte of the model's writer is stored. -/
namespace Go.Proofs.Ytocadkdfhfiijaa
open Go.RowKit
set_option linter.unusedVariables false

theorem bys_set (bs : List UInt8) (j : Nat) (x : UInt8) : (Nm.bys bs).set j (.int .u8 (x.toNat : Int)) = Nm.bys (bs.set j x) := by
  simp [Nm.bys, List.map_set]
theorem SW.store {w : World} {g B b cap n : Nat} {bs : List UInt8} {pls : List (ByteArray × Nat)} {vp : Value} (h : SW w g B bs pls (.slice (some ⟨b, 0, none⟩) n cap) vp) (hn : n = bs.length) (j : Nat) (x : UInt8) :
    SW (w.setCell ⟨b, j, none⟩ (.int .u8 (x.toNat : Int))) g B (bs.set j x) pls (.slice (some ⟨b, 0, none⟩) n cap) vp := by
  subst hn
  have hb := h.rb
  have hne : (Value.slice (some ⟨b, 0, none⟩) bs.length cap).ownBlock ≠ some g := own_blk hb h.blk (by decide)
  have hgb : g ≠ b := by intro e; subst e; exact hne rfl
  refine ⟨blk_far h.blk hgb, ?_, ?_, h.bg⟩
  · rw [← bys_set, List.length_set]
    exact (hb.stored j _).1
  · refine own_far h.rp ?_
    exact own_kinds h.rp hb (by decide) b rfl
theorem SW.storeBk {w0 w : World} {g B b cap n : Nat} {bs : List UInt8} {pls : List (ByteArray × Nat)} {vp : Value} (h : SW w g B bs pls (.slice (some ⟨b, 0, none⟩) n cap) vp) (hk : Bk B w0 w) (j : Nat) (x : Value) :
    Bk B w0 (w.setCell ⟨b, j, none⟩ x) := by
  have hb := h.rb
  have hBb : B ≤ b := (hb.lt b rfl).1
  refine ⟨hk.be.setCell hBb _, fun k c T hk' h1 h2 h3 => ?_⟩
  have hk2 := hk.kp k c T hk' h1 h2 h3
  refine blk_far hk2 (fun e => ?_)
  subst e
  exact own_blk hb hk2 (Ne.symm h1) rfl
theorem SW.some {w : World} {g B : Nat} {bs : List UInt8} {pls : List (ByteArray × Nat)} {vb vp : Value} (h : SW w g B bs pls vb vp) (hn : 0 < bs.length) : ∃ b cap, vb = .slice (some ⟨b, 0, none⟩) bs.length cap := by
  rcases h.rb.2 with ⟨rfl, h2⟩ | ⟨g', cap', cur, rfl, _⟩
  · simp at h2; simp [h2] at hn
  · exact ⟨g', cap', rfl⟩
theorem Bk.row {B b e s n : Nat} {w w' : World} {v : Value} {xs : List Value} (h : Bk B w w') (ho : w.ownsRow b e s v n xs) (h1 : e ≠ 5) (h2 : e ≠ 123) (h3 : e ≠ 58) : w'.ownsRow b e s v n xs := by
  refine ⟨ho.1, ?_⟩
  rcases ho.2 with hn | ⟨g, cap, cur, rfl, hb, hh, r⟩
  · exact .inl hn
  · exact .inr ⟨g, cap, cur, rfl, hb, h.kp g cur e hh h1 h2 h3, r⟩
theorem daP_step {fs : List Dt.Pc} {ps : List ByteArray} {k : Nat} {p : Dt.Pc} {x : ByteArray} {s : Wst} (hp : fs[k]? = some p) (hx : ps[k]? = some x) :
    daP (fs.drop k) (ps.drop k) s = daP (fs.drop (k + 1)) (ps.drop (k + 1)) (if p.isN then nmX x s else (s.1 ++ x.data.toList, s.2)) := by
  obtain ⟨h1, e1⟩ := List.getElem?_eq_some_iff.1 hp
  obtain ⟨h2, e2⟩ := List.getElem?_eq_some_iff.1 hx
  rw [List.drop_eq_getElem_cons h1, List.drop_eq_getElem_cons h2, e1, e2, daP]
theorem catL_step {ps : List ByteArray} {k : Nat} {x : ByteArray} (hx : ps[k]? = some x) : (Dt.catL (ps.drop k)).length = x.size + (Dt.catL (ps.drop (k + 1))).length := by
  obtain ⟨h2, e2⟩ := List.getElem?_eq_some_iff.1 hx
  rw [List.drop_eq_getElem_cons h2, e2]
  simp [Dt.catL]
end Go.Proofs.Ytocadkdfhfiijaa
