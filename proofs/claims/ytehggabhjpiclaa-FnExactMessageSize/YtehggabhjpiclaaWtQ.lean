import Derived.Test.YtehggabhjpiclaaWtP
/- spec.l04Question by its contract. -/
namespace Go.Proofs.Ytehggabhjpiclaa
open Go.RowKit
set_option linter.unusedVariables false

def quW (ls : List ByteArray) (ty cl : Nat) (bs : List UInt8) (pls : List (ByteArray × Nat)) : Wst := ((nmW ls bs pls).1 ++ (put2 ty ++ put2 cl), (nmW ls bs pls).2)

/-- The writer and a box beside it. -/
def SWB (w W : World) (g B : Nat) (bs : List UInt8) (pls : List (ByteArray × Nat)) (vb vp : Value) (b : Nat) (cs : Array Value) (T : TypeId) : Prop := (SW W g B bs pls vb vp ∧ B ≤ W.heap.size ∧ Bk B w W) ∧ Blk W b cs T
theorem SWB.below {w W W1 : World} {g B b : Nat} {bs : List UInt8} {pls : List (ByteArray × Nat)} {vb vp : Value} {cs : Array Value} {T : TypeId} (h : SWB w W g B bs pls vb vp b cs T) (hb : Below W.heap.size W W1) : SWB w W1 g B bs pls vb vp b cs T :=
  ⟨⟨h.1.1.below hb, Nat.le_trans h.1.2.1 hb.size, h.1.2.2.trans (Bk.of hb h.1.2.1)⟩, blk_below h.2 hb⟩

set_option maxRecDepth 100000 in
set_option maxHeartbeats 3200000 in
theorem l04Question_any (s : ByteArray) (ls : List ByteArray) (hs : Nm.split s = some ls) (ty cl : Nat) (hty : ty < 65536) (hcl : cl < 65536) (g B : Nat) (bs : List UInt8) (pls : List (ByteArray × Nat)) (vb vp : Value) (w : World) (h : SW w g B bs pls vb vp) (hB : B ≤ w.heap.size) (hl : bs.length + 300 ≤ 50000000) (hok : PlOK pls bs.length) :
    Calls Try.prog 28 #[.pointer (some ⟨g, 0, none⟩), .agg #[.string s, .int .i64 ty, .int .i64 cl]] w fun e w' => e = .returned (.tuple #[]) ∧ ∃ vb' vp', SW w' g B (quW ls ty cl bs pls).1 (quW ls ty cl bs pls).2 vb' vp' ∧ Bk B w w' := by
  have bA := (Below.refl w.heap.size w).alloc (Nat.le_refl _) (.cells #[.string s, .int .i64 ty, .int .i64 cl] 57)
  have hblk := blk_new w #[.string s, .int .i64 ty, .int .i64 cl] 57
  have hnm := l04Name_any s ls hs g B bs pls vb vp _ (h.below bA) (Nat.le_trans hB bA.size) (by omega) hok
  have hp1 := fun W => l02Put2_any ty W hty
  have hp2 := fun W => l02Put2_any cl W hcl
  have hlen := nmW_len ls bs pls (fun x hx => ((Nm.split_join hs).2 x hx).1)
  have hsz := Nm.split_size hs
  have HQ : Hid (quW ls ty cl bs pls = ((nmW ls bs pls).1 ++ ((⟨(put2 ty).toArray⟩ : ByteArray) ++ ⟨(put2 cl).toArray⟩).data.toList, (nmW ls bs pls).2)) := by
    show _ = _
    simp [quW, ByteArray.data_append]
  have hps : ((⟨(put2 ty).toArray⟩ : ByteArray) ++ ⟨(put2 cl).toArray⟩).size = 4 := by
    rw [ByteArray.size_append]; rfl
  have hps2 : ¬ 9223372036854775807 < (⟨(put2 ty).toArray⟩ : ByteArray).size + (⟨(put2 cl).toArray⟩ : ByteArray).size := by rw [← ByteArray.size_append, hps]; decide
  have hgl : w.heap.size < (w.alloc (.cells #[.string s, .int .i64 ty, .int .i64 cl] 57)).heap.size := by simp
  have htx := fun vb2 vp2 W (h : SW W g B (nmW ls bs pls).1 (nmW ls bs pls).2 vb2 vp2) (hB : B ≤ W.heap.size) => l04Text_any ((⟨(put2 ty).toArray⟩ : ByteArray) ++ ⟨(put2 cl).toArray⟩) g B _ _ vb2 vp2 W h hB (by rw [hps]; omega)
  rw [HQ.out]
  clear hps HQ hlen hsz hs
  generalize (⟨(put2 ty).toArray⟩ : ByteArray) = P1 at *
  generalize (⟨(put2 cl).toArray⟩ : ByteArray) = P2 at *
  generalize nmW ls bs pls = N at *
  go_enter Try.func28, Try.ntmps28
  go_wp2_with (go_at_call 44; refine hnm.mono ?_; rintro e w1 ⟨rfl, vb1, vp1, hS1, hb1⟩)
  have hbk : SWB w w1 g B N.1 N.2 vb1 vp1 w.heap.size #[.string s, .int .i64 ty, .int .i64 cl] 57 := ⟨⟨hS1, Nat.le_trans hB (Nat.le_trans bA.size hb1.be.size), (Bk.of bA hB).trans hb1⟩, hb1.kp _ _ _ hblk (by decide) (by decide) (by decide)⟩
  clear hS1 hb1 hblk bA hnm h hgl hB
  generalize w.heap.size = bx at *
  refine wp_region_held_drew (S := fun W => W.cell? ⟨bx, 1, none⟩ = some (.int .i64 ty) ∧ W.cell? ⟨bx, 2, none⟩ = some (.int .i64 cl)) (by kernel_rfl) ⟨(blk_cell hbk.2 1).trans rfl, (blk_cell hbk.2 2).trans rfl⟩ (fun hHeld => ?_)
  refine wpAnyH_take (i := 0) (v := ?_) rfl (by kernel_rfl) (by kernel_rfl) (by kernel_rfl) (fun _ _ _ h => h) (Or.inl ⟨by rfl, ?_⟩) (by assumption) ?_
  rotate_left 1
  · (rintro w ⟨hSw1, hSw2⟩; go_simp; try (with_reducible rfl))
  refine wpAnyH_take (i := 1) (v := ?_) rfl (by kernel_rfl) (by kernel_rfl) (by kernel_rfl) (fun _ _ _ h => h) (Or.inl ⟨by rfl, ?_⟩) (by assumption) ?_
  rotate_left 1
  · (rintro w ⟨hSw1, hSw2⟩; go_simp; try (with_reducible rfl))
  refine wpAnyH_take (i := 2) (v := ?_) rfl (by kernel_rfl) (by kernel_rfl) (by kernel_rfl) (fun _ _ _ h => h) (Or.inl ⟨by rfl, ?_⟩) (by assumption) ?_
  rotate_left 1
  · (rintro w ⟨hSw1, hSw2⟩; go_simp; try (with_reducible rfl))
  refine wpAnyH_take (i := 4) (v := ?_) rfl (by kernel_rfl) (by kernel_rfl) (by kernel_rfl) (fun _ _ _ h => h) (Or.inl ⟨by rfl, ?_⟩) (by assumption) ?_
  rotate_left 1
  · (rintro w ⟨hSw1, hSw2⟩; go_simp; try (with_reducible rfl))
  refine wpAnyH_take (i := 5) (v := ?_) rfl (by kernel_rfl) (by kernel_rfl) (by kernel_rfl) (fun _ _ _ h => h) (Or.inl ⟨by rfl, ?_⟩) (by assumption) ?_
  rotate_left 1
  · (rintro w ⟨hSw1, hSw2⟩; go_simp; try (with_reducible rfl))
  have hbk := hbk.below (Below.refl _ _).drew
  refine wpAnyH_ready (rs := [3]) (by kernel_rfl) (by simp) ?_
  refine AllReadyH.cons rfl (fun K hK => ?_) AllReadyH.nil
  go_simp
  refine (hp1 _).mono ?_
  rintro e wn ⟨rfl, hbn⟩
  go_wp2_with fail
  have hbk := hbk.below hbn
  refine hK.out _ _ ⟨(blk_cell hbk.2 1).trans rfl, (blk_cell hbk.2 2).trans rfl⟩ (fun _ => ?_)
  clear hK K
  refine wpAnyH_ready (rs := [6]) (by kernel_rfl) (by simp) ?_
  refine AllReadyH.cons rfl (fun K hK => ?_) AllReadyH.nil
  go_simp
  refine (hp2 _).mono ?_
  rintro e wn ⟨rfl, hbn⟩
  go_wp2_with fail
  have hbk := hbk.below hbn
  refine hK.out _ _ ⟨(blk_cell hbk.2 1).trans rfl, (blk_cell hbk.2 2).trans rfl⟩ (fun _ => ?_)
  clear hK K
  refine wpAnyH_take (i := 7) (v := .string (P1 ++ P2)) rfl (by kernel_rfl) (by kernel_rfl) (by kernel_rfl) (fun _ _ _ h => h) (Or.inl ⟨by rfl, ?_⟩) (by assumption) ?_
  · rintro w ⟨hSw1, hSw2⟩
    go_simp
    try (rw [if_neg hps2])
    try rfl
  refine wpAnyH_ready (rs := [8]) (by kernel_rfl) (by simp) ?_
  refine AllReadyH.cons rfl (fun K hK => ?_) AllReadyH.nil
  go_simp
  refine (htx _ _ _ hbk.1.1 hbk.1.2.1).mono ?_
  rintro e w6 ⟨rfl, vb6, hS6, hb6⟩
  go_wp2_with fail
  have hb7 := hb6.kp _ _ _ hbk.2 (by decide) (by decide) (by decide)
  refine hK.out _ _ ⟨(blk_cell hb7 1).trans rfl, (blk_cell hb7 2).trans rfl⟩ (fun _ => ?_)
  clear hK K
  refine wpAnyH_done (by kernel_rfl) ?_ _
  refine bodyPost_end (v := .tuple #[]) ?_ rfl ⟨rfl, vb6, vp1, hS6, hbk.1.2.2.trans hb6⟩
  simp [results, Try.results28, go_sem]
end Go.Proofs.Ytehggabhjpiclaa
