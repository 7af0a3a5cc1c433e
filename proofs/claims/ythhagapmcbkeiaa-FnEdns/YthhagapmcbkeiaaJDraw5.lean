import Derived.Test.YthhagapmcbkeiaaJDraw1
import Derived.Handy
/- spec.l01Raw by its contract. -/
namespace Go.Proofs.Ythhagapmcbkeiaa
open Go.RowKit

end Go.Proofs.Ythhagapmcbkeiaa
/- spec.l01Begin by its contract. -/
namespace Go.Proofs.Ythhagapmcbkeiaa
open Go.RowKit

/-- The bytes that a slice shows lie there. -/
def CodeIn (w : World) (a : Option Addr) (n : Nat) : Prop :=
  n = 0 ∨ ∃ b off, a = some ⟨b, off, none⟩ ∧ ∀ i, i < n → ∃ c : Int, w.cell? ⟨b, off + i, none⟩ = some (.int .u8 c) ∧ 0 ≤ c ∧ c < 256

/-- What l01Begin holds from round to round: its result's block and its variable's. -/
def Beg (w wr : World) (a : Option Addr) (n cap : Nat) (st : Int) : Prop :=
  wr.heap[w.heap.size]? = some (.cells #[.slice none 0 0, .int .i64 0, .int .u64 0] 49 (0, 0)) ∧
  wr.heap[w.heap.size + 1]? = some (.cells #[.slice a n cap, .int .i64 0, .int .u64 st] 49 (0, 0)) ∧ Below w.heap.size w wr

theorem beg_set {w wr : World} {a : Option Addr} {n cap : Nat} {st : Int} (h : Beg w wr a n cap st) (s2 : Int) : Beg w (wr.setCell ⟨w.heap.size + 1, 2, none⟩ (.int .u64 s2)) a n cap s2 := by
  obtain ⟨h1, h2, h3⟩ := h
  refine ⟨?_, ?_, h3.setCell (by simp) _⟩
  · rw [heap_setCell_other wr ⟨w.heap.size + 1, 2, none⟩ w.heap.size _ (by simp)]; exact h1
  · rw [heap_setCell_same wr (w.heap.size + 1) 2 _ _ _ h2]; rfl

theorem beg_drew {w wr : World} {a : Option Addr} {n cap : Nat} {st : Int} (h : Beg w wr a n cap st) : Beg w wr.drew a n cap st := ⟨h.1, h.2.1, h.2.2.drew⟩

set_option maxRecDepth 100000 in
set_option maxHeartbeats 400000 in
theorem l01Begin_any (a : Option Addr) (n cap : Nat) (w : World) (h : CodeIn w a n) (hn : n ≤ 1048576) :
    Calls Try.prog 10 #[.slice a n cap] w fun e w' => ∃ st : Int, e = .returned (.agg #[.slice a n cap, .int .i64 0, .int .u64 st]) ∧ Below w.heap.size w w' := by
  go_enter Try.func10, Try.ntmps10
  go_wp2
  go_loopw [4] (fun i wr => ∃ (k : Nat) (st : Int), k ≤ n ∧ i = .int .i64 k ∧ Beg w wr a n cap st) (fun i _ => n - (intOf i).toNat)
  case atStart =>
    refine ⟨0, 1469598103934665603, Nat.zero_le _, rfl, ?_, ?_, ((Below.refl _ _).alloc (Nat.le_refl _) _).alloc (by simp) _⟩
    · exact ((MapKept.heap_alloc (w.alloc _) _).2 _ (by simp)).trans (heap_alloc_new w _)
    · have := heap_alloc_new (w.alloc (.cells #[.slice none 0 0, .int .i64 0, .int .u64 0] 49 (0, 0))) (.cells #[.slice a n cap, .int .i64 0, .int .u64 1469598103934665603] 49 (0, 0)); rw [World.size_alloc] at this; exact this
  case round =>
    obtain ⟨k, st, hk, rfl, hbeg⟩ := hrel
    have HB := fun s2 => Nm.hide (beg_set hbeg s2)
    have HB0 := Nm.hide hbeg.2.2
    obtain ⟨hb0, hb1, hbel⟩ := hbeg
    have c0 := cell_of_row wr (w.heap.size + 1) 0 _ _ _ hb1
    have c1 := cell_of_row wr (w.heap.size + 1) 1 _ _ _ hb1
    have c2 := cell_of_row wr (w.heap.size + 1) 2 _ _ _ hb1
    have f2 := frozen_of_row wr (w.heap.size + 1) 2 _ _ hb1
    have e0 := cell_of_row wr w.heap.size 0 _ _ _ hb0
    have e1 := cell_of_row wr w.heap.size 1 _ _ _ hb0
    have e2 := cell_of_row wr w.heap.size 2 _ _ _ hb0
    have g0 := frozen_of_row wr w.heap.size 0 _ _ hb0
    have g1 := frozen_of_row wr w.heap.size 1 _ _ hb0
    have g2 := frozen_of_row wr w.heap.size 2 _ _ hb0
    simp at c0 c1 c2 e0 e1 e2
    by_cases hlt : k < n
    · obtain ⟨b, off, rfl, hcode⟩ := h.resolve_left (by omega)
      obtain ⟨c, hc, hc0, hc1⟩ := hcode k hlt
      have hbl := World.block_lt_of_cell? w _ hc
      have hcr := (hbel.cell hbl).trans hc
      clear hb0 hb1 hbel hcode hc h
      go_wp2
      go_region
      go_wp2
      go_roundw
      case rel => exact ⟨k + 1, _, by omega, by go_num, beg_drew (HB _).out⟩
      case measure => simp [intOf]; omega
    · have hke : k = n := by omega
      subst hke
      clear hb0 hb1 hbel h
      have r0 := fun v => World.cell?_setCell_same wr ⟨w.heap.size, 0, none⟩ v e0
      have r1 := fun u v => World.cell?_setCell_same (wr.setCell ⟨w.heap.size, 0, none⟩ u) ⟨w.heap.size, 1, none⟩ v ((World.cell?_setCell_other wr ⟨w.heap.size, 0, none⟩ ⟨w.heap.size, 1, none⟩ u (by simp)).trans e1)
      have r2 := fun t u v => World.cell?_setCell_same ((wr.setCell ⟨w.heap.size, 0, none⟩ t).setCell ⟨w.heap.size, 1, none⟩ u) ⟨w.heap.size, 2, none⟩ v ((World.cell?_setCell_other _ ⟨w.heap.size, 1, none⟩ ⟨w.heap.size, 2, none⟩ u (by simp)).trans ((World.cell?_setCell_other wr ⟨w.heap.size, 0, none⟩ ⟨w.heap.size, 2, none⟩ t (by simp)).trans e2))
      go_wp2
      refine bodyPost_ret (v := .agg #[.slice a k cap, .int .i64 0, .int .u64 st]) ?_ rfl ⟨st, rfl, ((HB0.out.setCell (Nat.le_refl _) _).setCell (Nat.le_refl _) _).setCell (Nat.le_refl _) _⟩
      simp [results, Try.results10, go_sem, r0, r1, r2, Result.andThen]
end Go.Proofs.Ythhagapmcbkeiaa
/- A source that has just been made. -/
namespace Go.Proofs.Ythhagapmcbkeiaa
open Go.RowKit

theorem code_below {w w1 : World} {a : Option Addr} {n : Nat} (h : CodeIn w a n) (hb : Below w.heap.size w w1) : CodeIn w1 a n := by
  rcases h with h | ⟨b, off, e, hc⟩
  · exact .inl h
  · refine .inr ⟨b, off, e, fun j hj => ?_⟩
    obtain ⟨c, hc1, hc2⟩ := hc j hj
    exact ⟨c, (hb.cell (World.block_lt_of_cell? w _ hc1)).trans hc1, hc2⟩

theorem code_at {w w1 : World} {a : Option Addr} {n : Nat} (h : CodeIn w a n) (hb : Below w.heap.size w w1) : CodeAt w1 w.heap.size a n := by
  rcases h with h | ⟨b, off, e, hc⟩
  · exact .inl h
  · rcases Nat.eq_zero_or_pos n with hn | hn
    · exact .inl hn
    refine .inr ⟨b, off, e, ?_, fun j hj => ?_⟩
    · obtain ⟨c, hc1, _⟩ := hc 0 hn
      have : b < w.heap.size := World.block_lt_of_cell? w _ hc1
      omega
    · obtain ⟨c, hc1, hc2⟩ := hc j hj
      exact ⟨c, (hb.cell (World.block_lt_of_cell? w _ hc1)).trans hc1, hc2⟩

theorem src_made {w : World} {a : Option Addr} {n cap : Nat} (h : CodeIn w a n) (hn : n ≤ 1048576) (st : Int) :
    Src (w.alloc (.cells #[.slice a n cap, .int .i64 0, .int .u64 st] 49 (0, 0))) w.heap.size a n cap :=
  ⟨0, st, heap_alloc_new w _, Int.le_refl _, Int.natCast_nonneg _, hn, code_at h ((Below.refl _ _).alloc (Nat.le_refl _) _)⟩
end Go.Proofs.Ythhagapmcbkeiaa
