/- impl.DecodeName by its contract. -/
import Derived.Test.YtakonfkefoeenabRd4
import Derived.Test.YtakonfkefoeenabRd5
namespace Go.Proofs.Ytakonfkefoeenab
open Go.RowKit
set_option linter.unusedVariables false

set_option maxRecDepth 100000 in
set_option maxHeartbeats 400000 in
theorem dn_caught (b : Nat) (x : Int) (c : Int) (T : TypeId) (w : World) (h : w.heap[b]? = some (.cells #[.int .i64 x] T (0, 0))) :
    CallsD Try.prog 31 #[.pointer (some ⟨b, 0, none⟩)] (.panicking (fault c)) w fun e u' w' =>
      e = .returned (.tuple #[]) ∧ u' = .panicking [{ v := .iface 61 (.agg #[.int .i64 c]), recovered := true }] ∧ ∃ w1, Below w.heap.size w w1 ∧ w' = w1.setCell ⟨b, 0, none⟩ (.int .i64 c) := by
  unfold fault
  refine callsD_of_wpS Try.func31 rfl fun c₀ cs hu => ?_
  apply wpS_region
  simp [wpOpsS, go_sem, recoverD, hu, Try.ntmps31]
  refine (codeOf_fault c w).mono ?_
  rintro e w1 ⟨rfl, hb⟩
  have h1 : w1.heap[b]? = some (.cells #[.int .i64 x] T (0, 0)) := by rw [hb.block b (Array.getElem?_eq_some_iff.1 h).1]; exact h
  have c1 : w1.cell? ⟨b, 0, none⟩ = some (.int .i64 x) := by rw [cell_of_row _ _ _ _ _ _ h1]; rfl
  have f1 := frozen_of_row w1 b 0 _ _ h1
  simp [go_sem, c1, f1, bodyPostS, results, Try.results31]
  exact ⟨w1, hb, rfl⟩

set_option maxRecDepth 100000 in
set_option maxHeartbeats 400000 in
theorem dn_idle (b : Nat) (x : Int) (T : TypeId) (w : World) (h : w.heap[b]? = some (.cells #[.int .i64 x] T (0, 0))) :
    CallsD Try.prog 31 #[.pointer (some ⟨b, 0, none⟩)] .returning w fun e u' w' =>
      e = .returned (.tuple #[]) ∧ u' = .returning ∧ w' = w.setCell ⟨b, 0, none⟩ (.int .i64 0) := by
  refine callsD_of_wpS Try.func31 rfl fun c₀ cs hu => ?_
  apply wpS_region
  simp [wpOpsS, go_sem, recoverD, hu, Try.ntmps31]
  refine (codeOf_nil w).mono ?_
  rintro e w1 ⟨rfl, rfl⟩
  have c1 : w1.cell? ⟨b, 0, none⟩ = some (.int .i64 x) := by rw [cell_of_row _ _ _ _ _ _ h]; rfl
  have f1 := frozen_of_row w1 b 0 _ _ h
  simp [go_sem, c1, f1, bodyPostS, results, Try.results31]
  cases c₀
  simp_all

set_option maxRecDepth 100000 in
set_option maxHeartbeats 800000 in
theorem implDecodeName_any (v : Value) (l : List UInt8) (p : Int) (w : World) (h : BySl w v l) (hl : l.length ≤ 1048576) (hp : (Lit.int .i64 p).wf = true) :
    Calls Try.prog 16 #[v, .int .i64 p] w fun e w' => e = .returned (.tuple #[.string ⟨(dnS l p).1.toArray⟩, .int .i64 (dnS l p).2.1, .int .i64 (dnS l p).2.2]) ∧ Below w.heap.size w w' := by
  have hmf : ∀ (fn : Fn) (first cap : Array Value) (w : World), (Instr.makeFunc fn first cap).run Try.prog w = .ok (.func fn first cap) w := fun _ _ _ _ => rfl
  obtain ⟨hbl, a, cap, rfl, hcap, hmx, hc⟩ := h
  have hby : BySl w (.slice a l.length cap) l := ⟨hbl, a, cap, rfl, hcap, hmx, hc⟩
  clear hc
  by_cases hbad : p < 0 ∨ (l.length : Int) < p
  · rw [dnS, if_pos hbad]
    rcases hbad with hb | hb
    · go_enter_defers Try.func16, Try.ntmps16
      go_wp2
      simp [bodyPostD, Leaves, results, Try.results16, go_sem]
      exact (Below.refl _ _).alloc (Nat.le_refl _) _
    · have hb0 : 0 ≤ p := by omega
      go_enter_defers Try.func16, Try.ntmps16
      go_wp2
      simp [bodyPostD, Leaves, results, Try.results16, go_sem]
      exact (Below.refl _ _).alloc (Nat.le_refl _) _
  · obtain ⟨k, rfl⟩ := Int.eq_ofNat_of_zero_le (show 0 ≤ p by omega)
    rw [dnS, if_neg hbad]
    have hk : k ≤ l.length := by omega
    have hk' : (k : Int) ≤ (l.length : Int) := by omega
    have hnm := fun W (h1 : Rd W (w.heap.size + 1) (.slice a l.length cap) k) (hB : Below w.heap.size w W) => name_any (w.heap.size + 1) a l cap k W h1 (hby.below hB) (fun W2 hg => hby.below (hB.grown hg hB.size (fun q hq => by simp at hq; omega))) hk hl
    have hto : ((k : Int)).toNat = k := by omega
    rw [hto]
    have hrd : Rd ((w.alloc (.cells #[.int .i64 0] 2)).alloc (.cells #[.slice a l.length cap, .int .i64 (k : Int)] 55)) (w.heap.size + 1) (.slice a l.length cap) k := by
      unfold Rd
      have e := Array.getElem?_push_size (xs := w.heap.push (Obj.cells #[.int .i64 0] 2)) (x := Obj.cells #[.slice a l.length cap, .int .i64 (k : Int)] 55)
      rw [Array.size_push] at e
      exact e
    have hbe : Below w.heap.size w ((w.alloc (.cells #[.int .i64 0] 2)).alloc (.cells #[.slice a l.length cap, .int .i64 (k : Int)] 55)) := ((Below.refl _ _).alloc (Nat.le_refl _) _).alloc (by simp) _
    have hce : ((w.alloc (.cells #[.int .i64 0] 2)).alloc (.cells #[.slice a l.length cap, .int .i64 (k : Int)] 55)).heap[w.heap.size]? = some (.cells #[.int .i64 0] 2 (0, 0)) := by
      show ((w.heap.push _).push _)[w.heap.size]? = _
      simp [Array.getElem?_push]
    cases hd : dnF l k k [] none using Rs.elim with
    | bad c =>
      have hnm' := fun W h1 hB => (hnm W h1 hB).mono (R' := fun e w' => e = .panicked (fault c) ∧ W.grownBy w' (some (w.heap.size + 1))) (by
        rintro e w2 (⟨_, _, hx, _⟩ | ⟨c2, hx, he, hg2⟩)
        · rw [hd] at hx; cases hx
        · rw [hd] at hx; cases hx; exact ⟨he, hg2⟩)
      clear hnm
      go_enter_defers Try.func16, Try.ntmps16
      go_wp2_with (go_at_call 33; refine (hnm' _ hrd hbe).mono ?_; rintro e w2 ⟨rfl, hg2⟩)
      have hce2 : w2.heap[w.heap.size]? = some (.cells #[.int .i64 0] 2 (0, 0)) := by rw [hg2.block _ (Array.getElem?_eq_some_iff.1 hce).1 (by simp)]; exact hce
      refine leaves_cons (f := 31) (args := #[.pointer (some ⟨w.heap.size, 0, none⟩)]) (by simp) (by simp [go_sem]) ?_
      refine (dn_caught w.heap.size 0 c 2 w2 hce2).mono ?_
      rintro e u' w'' ⟨rfl, rfl, w3, hb3, rfl⟩
      have hce3 : w3.heap[w.heap.size]? = some (.cells #[.int .i64 0] 2 (0, 0)) := by rw [hb3.block _ (Array.getElem?_eq_some_iff.1 hce2).1]; exact hce2
      have hsame : (w3.setCell ⟨w.heap.size, 0, none⟩ (.int .i64 c)).cell? ⟨w.heap.size, 0, none⟩ = some (.int .i64 c) := by
        rw [cell_of_row _ _ _ _ _ _ (heap_setCell_same w3 w.heap.size 0 _ _ _ hce3)]; rfl
      have HB : Below w.heap.size w (w3.setCell ⟨w.heap.size, 0, none⟩ (.int .i64 c)) :=
        ((hbe.grown hg2 hbe.size (fun q hq => by simp at hq; omega)).trans (hb3.mono (Nat.le_trans hbe.size hg2.size))).setCell (Nat.le_refl _) _
      generalize w3.setCell ⟨w.heap.size, 0, none⟩ (.int .i64 c) = w4 at *
      simp [Leaves, settle, results, Try.results16, go_sem, hsame]
      exact HB
    | ok s nx =>
      have hnm' := fun W h1 hB => (hnm W h1 hB).mono (R' := fun e w' => e = .returned (.string ⟨s.toArray⟩) ∧ Rd w' (w.heap.size + 1) (.slice a l.length cap) nx ∧ W.grownBy w' (some (w.heap.size + 1))) (by
        rintro e w2 (⟨_, _, hx, he, hr, hn, hg2⟩ | ⟨c2, hx, he, hg2⟩)
        · rw [hd] at hx; cases hx; exact ⟨he, hr, hg2⟩
        · rw [hd] at hx; cases hx)
      clear hnm
      go_enter_defers Try.func16, Try.ntmps16
      go_wp2_with (go_at_call 33; refine (hnm' _ hrd hbe).mono ?_; rintro e w2 ⟨rfl, hr2, hg2⟩)
      have hce2 : w2.heap[w.heap.size]? = some (.cells #[.int .i64 0] 2 (0, 0)) := by rw [hg2.block _ (Array.getElem?_eq_some_iff.1 hce).1 (by simp)]; exact hce
      have c1 : w2.cell? ⟨w.heap.size + 1, 1, none⟩ = some (.int .i64 nx) := by rw [cell_of_row _ _ _ _ _ _ hr2]; rfl
      have c2 : w2.cell? ⟨w.heap.size, 0, none⟩ = some (.int .i64 0) := by rw [cell_of_row _ _ _ _ _ _ hce2]; rfl
      have f2 := frozen_of_row w2 w.heap.size 0 _ _ hce2
      have HCE : Hid ((w2.setCell ⟨w.heap.size, 0, none⟩ (.int .i64 0)).heap[w.heap.size]? = some (.cells #[.int .i64 0] 2 (0, 0))) := by
        rw [Hid, heap_setCell_same w2 w.heap.size 0 _ _ _ hce2]; rfl
      have HB : Hid (Below w.heap.size w (w2.setCell ⟨w.heap.size, 0, none⟩ (.int .i64 0))) := (hbe.grown hg2 hbe.size (fun q hq => by simp at hq; omega)).setCell (Nat.le_refl _) _
      clear hce hce2 hr2 hg2 hrd hbe
      go_region
      go_wp2
      have hce3 : (w2.setCell ⟨w.heap.size, 0, none⟩ (.int .i64 0)).drew.heap[w.heap.size]? = some (.cells #[.int .i64 0] 2 (0, 0)) := HCE.out
      have hb3 : Below w.heap.size w (w2.setCell ⟨w.heap.size, 0, none⟩ (.int .i64 0)).drew := HB.out.drew
      generalize (w2.setCell ⟨w.heap.size, 0, none⟩ (.int .i64 0)).drew = w3 at *
      refine leaves_cons (f := 31) (args := #[.pointer (some ⟨w.heap.size, 0, none⟩)]) (by simp) (by simp [go_sem]) ?_
      refine (dn_idle w.heap.size 0 2 w3 hce3).mono ?_
      rintro e u' w'' ⟨rfl, rfl, rfl⟩
      have hsame : (w3.setCell ⟨w.heap.size, 0, none⟩ (.int .i64 0)).cell? ⟨w.heap.size, 0, none⟩ = some (.int .i64 0) := by
        rw [cell_of_row _ _ _ _ _ _ (heap_setCell_same w3 w.heap.size 0 _ _ _ hce3)]; rfl
      have HB4 : Below w.heap.size w (w3.setCell ⟨w.heap.size, 0, none⟩ (.int .i64 0)) := hb3.setCell (Nat.le_refl _) _
      generalize w3.setCell ⟨w.heap.size, 0, none⟩ (.int .i64 0) = w4 at *
      simp [Leaves, settle, results, Try.results16, go_sem, hsame]
      exact HB4
end Go.Proofs.Ytakonfkefoeenab
