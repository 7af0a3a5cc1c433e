import Derived.Test.YtephbegencpllaaGreatDoorJStpA
import Derived.Deep.RegionWith
/- The makers of forms by their contracts: those that hold something. -/
namespace Go.Proofs.YtephbegencpllaaGreatDoor
open Go.RowKit

theorem set_far {w1 : World} {g h : Nat} {r v : Value} (hne : h ≠ g) : ((w1.setCell ⟨g, 0, none⟩ r).setCell ⟨g, 1, none⟩ v).cell? ⟨h, 0, none⟩ = w1.cell? ⟨h, 0, none⟩ := by
  rw [World.cell?_setCell_other _ ⟨g, 1, none⟩ ⟨h, 0, none⟩ v (by simp <;> omega), World.cell?_setCell_other _ ⟨g, 0, none⟩ ⟨h, 0, none⟩ r (by simp <;> omega)]

set_option maxRecDepth 100000 in
set_option maxHeartbeats 1000000 in
theorem tagWord_any (w : World) :
    Calls Tryz.prog 43 #[] w fun e w' => (∃ f, e = .returned f ∧ FVal w' 2 f) ∧ Below w.heap.size w w' := by
  have hun := fun W => unquoted_any (.func (.func 81) #[] #[]) W _ _ _ rfl
  go_enter Tryz.func43, Tryz.ntmps43
  go_wp2_with (go_at_call 52; refine (hun _).mono ?_; rintro e w1 ⟨⟨g, x, y, rfl⟩, hb1⟩; obtain ⟨c0, c1, f0, f1⟩ := two_kept hb1)
  have hb : Below w.heap.size w w1 := ((Below.refl _ w).alloc (Nat.le_refl _) _).trans (hb1.mono (by simp))
  obtain ⟨s0, s1⟩ := two_set (r := .func g x y) (v := .func (.func 83) #[] #[]) c0 c1
  refine bodyPost_ret (v := .agg #[.func g x y, .func (.func 83) #[] #[]]) ?_ rfl ⟨⟨_, rfl, _, _, _, _, rfl, rfl⟩, (hb.setCell (Nat.le_refl _) _).setCell (Nat.le_refl _) _⟩
  simp [results, Tryz.results43, go_sem, Result.andThen, s0, s1]

set_option maxRecDepth 100000 in
set_option maxHeartbeats 1000000 in
theorem numberWord_any (k : Nat) (w : World) :
    Calls Tryz.prog 34 #[.int .i64 (k : Int)] w fun e w' => (∃ f, e = .returned f ∧ FVal w' (k + 6) f) ∧ Below w.heap.size w w' := by
  have hun := fun p W => unquoted_any (.func (.func 62) #[] p) W _ _ _ rfl
  go_enter Tryz.func34, Tryz.ntmps34
  go_wp2_with (go_at_call 52; refine (hun _ _).mono ?_; rintro e w1 ⟨⟨g, x, y, rfl⟩, hb1⟩; obtain ⟨c0, c1, f0, f1⟩ := two_kept hb1; have kg : w1.cell? ⟨w.heap.size, 0, none⟩ = some (.int .i64 (k : Int)) := (hb1.cell (by simp; omega)).trans (by simp); simp only [World.alloc, Array.size_push] at c0 c1 f0 f1)
  have hb : Below w.heap.size w w1 := (((Below.refl _ w).alloc (Nat.le_refl _) _).alloc (by simp) _).trans (hb1.mono (by simp; omega))
  obtain ⟨s0, s1⟩ := two_set (r := .func g x y) (v := .func (.func 64) #[] #[.pointer (some ⟨w.heap.size, 0, none⟩)]) c0 c1
  refine bodyPost_ret (v := .agg #[.func g x y, .func (.func 64) #[] #[.pointer (some ⟨w.heap.size, 0, none⟩)]]) ?_ rfl ⟨⟨_, rfl, _, _, _, _, rfl, ⟨_, rfl, (set_far (by omega)).trans kg⟩⟩, (hb.setCell (by simp) _).setCell (by simp) _⟩
  simp [results, Tryz.results34, go_sem, Result.andThen, s0, s1]

set_option maxRecDepth 100000 in
set_option maxHeartbeats 1000000 in
theorem justWords_any (u : Value) (w : World) (a : Option Addr) (n cap : Nat) (hu : u = .slice a n cap) :
    Calls Tryz.prog 36 #[u] w fun e w' => (∃ g x y gc, e = .returned (.agg #[.func g x y, .func (.func 71) #[] #[.pointer (some ⟨gc, 0, none⟩)]]) ∧ w'.cell? ⟨gc, 0, none⟩ = some u) ∧ Below w.heap.size w w' := by
  subst hu
  go_enter Tryz.func36, Tryz.ntmps36
  go_wp2
  refine bodyPost_ret (v := .agg #[.func (.func 69) #[] #[.pointer (some ⟨w.heap.size, 0, none⟩)], .func (.func 71) #[] #[.pointer (some ⟨w.heap.size, 0, none⟩)]]) ?_ rfl ⟨⟨_, _, _, _, rfl, by simp⟩, (((Below.refl _ w).alloc (Nat.le_refl _) _).alloc (by simp) _)⟩
  simp [results, Tryz.results36, go_sem, Result.andThen]
end Go.Proofs.YtephbegencpllaaGreatDoor
/- The makers of forms by their contracts: the addresses. -/
namespace Go.Proofs.YtephbegencpllaaGreatDoor
open Go.RowKit

theorem four_kept {w w1 : World} {a b c d e : Value} {t1 t2 t3 t4 : Nat} (hb : Below ((((w.alloc (.cells #[a] t1)).alloc (.cells #[b] t2)).alloc (.cells #[c] t3)).alloc (.cells #[d, e] t4)).heap.size ((((w.alloc (.cells #[a] t1)).alloc (.cells #[b] t2)).alloc (.cells #[c] t3)).alloc (.cells #[d, e] t4)) w1) :
    w1.cell? ⟨w.heap.size, 0, none⟩ = some a ∧ w1.cell? ⟨w.heap.size + 1 + 1, 0, none⟩ = some c ∧ Below w.heap.size w w1 := by
  have s1 : (w.alloc (.cells #[a] t1)).heap.size = w.heap.size + 1 := by simp
  have s2 : ((w.alloc (.cells #[a] t1)).alloc (.cells #[b] t2)).heap.size = w.heap.size + 1 + 1 := by simp
  have s3 : (((w.alloc (.cells #[a] t1)).alloc (.cells #[b] t2)).alloc (.cells #[c] t3)).heap.size = w.heap.size + 1 + 1 + 1 := by simp
  have s4 : ((((w.alloc (.cells #[a] t1)).alloc (.cells #[b] t2)).alloc (.cells #[c] t3)).alloc (.cells #[d, e] t4)).heap.size = w.heap.size + 1 + 1 + 1 + 1 := by simp
  have b1 : Below w.heap.size w (w.alloc (.cells #[a] t1)) := (Below.refl _ w).alloc (Nat.le_refl _) _
  have b2 := (Below.refl (w.alloc (.cells #[a] t1)).heap.size (w.alloc (.cells #[a] t1))).alloc (Nat.le_refl _) (.cells #[b] t2)
  have b3 := (Below.refl ((w.alloc (.cells #[a] t1)).alloc (.cells #[b] t2)).heap.size ((w.alloc (.cells #[a] t1)).alloc (.cells #[b] t2))).alloc (Nat.le_refl _) (.cells #[c] t3)
  have b4 := (Below.refl (((w.alloc (.cells #[a] t1)).alloc (.cells #[b] t2)).alloc (.cells #[c] t3)).heap.size (((w.alloc (.cells #[a] t1)).alloc (.cells #[b] t2)).alloc (.cells #[c] t3))).alloc (Nat.le_refl _) (.cells #[d, e] t4)
  have b34 := Nm.below_two b4 hb
  have b24 := Nm.below_two b2 (Nm.below_two b3 b34)
  refine ⟨(b24.cell (by rw [s1]; exact Nat.lt_succ_self _)).trans (by simp), (b34.cell (by rw [s3]; exact Nat.lt_succ_self _)).trans ?_, Nm.below_two b1 b24⟩
  have := World.cell?_alloc_new ((w.alloc (.cells #[a] t1)).alloc (.cells #[b] t2)) #[c] t3 0
  rw [s2] at this
  exact this

set_option maxRecDepth 100000 in
set_option maxHeartbeats 1000000 in
theorem addressWordV4_any (w : World) :
    Calls Tryz.prog 37 #[.int .i64 4, .func (.func 38) #[] #[], .func (.func 39) #[] #[]] w fun e w' => (∃ f, e = .returned f ∧ FVal w' 4 f) ∧ Below w.heap.size w w' := by
  have hun := fun p W => unquoted_any (.func (.func 72) #[] p) W _ _ _ rfl
  go_enter Tryz.func37, Tryz.ntmps37
  go_wp2_with (go_at_call 52; refine (hun _ _).mono ?_; rintro e w1 ⟨⟨g, x, y, rfl⟩, hb1⟩; obtain ⟨c0, c1, f0, f1⟩ := two_kept hb1; obtain ⟨kg, kh, hb⟩ := four_kept hb1; simp only [World.alloc, Array.size_push] at c0 c1 f0 f1)
  obtain ⟨s0, s1⟩ := two_set (r := .func g x y) (v := .func (.func 73) #[] #[.pointer (some ⟨w.heap.size + 1 + 1, 0, none⟩), .pointer (some ⟨w.heap.size, 0, none⟩)]) c0 c1
  refine bodyPost_ret (v := .agg #[.func g x y, .func (.func 73) #[] #[.pointer (some ⟨w.heap.size + 1 + 1, 0, none⟩), .pointer (some ⟨w.heap.size, 0, none⟩)]]) ?_ rfl ⟨⟨_, rfl, _, _, _, _, rfl, ⟨_, _, rfl, (set_far (by omega)).trans kh, (set_far (by omega)).trans kg⟩⟩, (hb.setCell (by simp <;> omega) _).setCell (by simp <;> omega) _⟩
  simp [results, Tryz.results37, go_sem, Result.andThen, s0, s1]

set_option maxRecDepth 100000 in
set_option maxHeartbeats 1000000 in
theorem addressWordV6_any (w : World) :
    Calls Tryz.prog 37 #[.int .i64 16, .func (.func 40) #[] #[], .func (.func 41) #[] #[]] w fun e w' => (∃ f, e = .returned f ∧ FVal w' 5 f) ∧ Below w.heap.size w w' := by
  have hun := fun p W => unquoted_any (.func (.func 72) #[] p) W _ _ _ rfl
  go_enter Tryz.func37, Tryz.ntmps37
  go_wp2_with (go_at_call 52; refine (hun _ _).mono ?_; rintro e w1 ⟨⟨g, x, y, rfl⟩, hb1⟩; obtain ⟨c0, c1, f0, f1⟩ := two_kept hb1; obtain ⟨kg, kh, hb⟩ := four_kept hb1; simp only [World.alloc, Array.size_push] at c0 c1 f0 f1)
  obtain ⟨s0, s1⟩ := two_set (r := .func g x y) (v := .func (.func 73) #[] #[.pointer (some ⟨w.heap.size + 1 + 1, 0, none⟩), .pointer (some ⟨w.heap.size, 0, none⟩)]) c0 c1
  refine bodyPost_ret (v := .agg #[.func g x y, .func (.func 73) #[] #[.pointer (some ⟨w.heap.size + 1 + 1, 0, none⟩), .pointer (some ⟨w.heap.size, 0, none⟩)]]) ?_ rfl ⟨⟨_, rfl, _, _, _, _, rfl, ⟨_, _, rfl, (set_far (by omega)).trans kh, (set_far (by omega)).trans kg⟩⟩, (hb.setCell (by simp <;> omega) _).setCell (by simp <;> omega) _⟩
  simp [results, Tryz.results37, go_sem, Result.andThen, s0, s1]
end Go.Proofs.YtephbegencpllaaGreatDoor
/- The makers of forms by their contracts: times, many words. -/
namespace Go.Proofs.YtephbegencpllaaGreatDoor
open Go.RowKit

set_option maxRecDepth 100000 in
set_option maxHeartbeats 1000000 in
theorem manyWords_any (w : World) (f : Fn) (x y : Array Value) (v : Value) (g : Fn) (p q : Array Value) (hv : v = .func g p q) :
    Calls Tryz.prog 42 #[.agg #[.func f x y, v]] w fun e w' => (∃ g x y gc, e = .returned (.agg #[.func g x y, .func (.func 80) #[] #[.pointer (some ⟨gc, 0, none⟩)]]) ∧ w'.cell? ⟨gc, 1, none⟩ = some v) ∧ Below w.heap.size w w' := by
  subst hv
  go_enter Tryz.func42, Tryz.ntmps42
  go_wp2
  refine bodyPost_ret (v := .agg #[.func (.func 78) #[] #[.pointer (some ⟨w.heap.size, 0, none⟩)], .func (.func 80) #[] #[.pointer (some ⟨w.heap.size, 0, none⟩)]]) ?_ rfl ⟨⟨_, _, _, _, rfl, by simp⟩, (((Below.refl _ w).alloc (Nat.le_refl _) _).alloc (by simp) _)⟩
  simp [results, Tryz.results42, go_sem, Result.andThen]

theorem old_alloc {w1 : World} {g : Nat} (hlt : g < w1.heap.size) (o : Obj) (j : Nat) : (w1.alloc o).cell? ⟨g, j, none⟩ = w1.cell? ⟨g, j, none⟩ ∧ (w1.alloc o).frozen? ⟨g, j, none⟩ = w1.frozen? ⟨g, j, none⟩ := by
  have hb : Below w1.heap.size w1 (w1.alloc o) := (Below.refl _ w1).alloc (Nat.le_refl _) o
  exact ⟨hb.cell hlt, by simp only [World.frozen?, hb.block g hlt]⟩
set_option maxRecDepth 100000 in
set_option maxHeartbeats 1000000 in
theorem nameAndTypes_any (w : World) :
    Calls Tryz.prog 45 #[] w fun e w' => (∃ g x y gc, e = .returned (.agg #[.func g x y, .func (.func 88) #[] #[.pointer (some ⟨gc, 0, none⟩)]]) ∧ w'.cell? ⟨gc, 1, none⟩ = some (.func (.func 54) #[] #[])) ∧ Below w.heap.size w w' := by
  have hn := fun W => nameWord_any W
  go_enter Tryz.func45, Tryz.ntmps45
  go_wp2_with (go_at_call 32; refine (hn _).mono ?_; rintro e w1 ⟨⟨f, rfl, g, x, y, v, rfl, rfl⟩, hb1⟩; obtain ⟨c0, c1, f0, f1⟩ := two_kept hb1; have hl1 := World.block_lt_of_cell? w1 _ c0; have d0 := fun o => (old_alloc hl1 o 0).1.trans c0; have d1 := fun o => (old_alloc hl1 o 1).1.trans c1; have e0 := fun o => (old_alloc hl1 o 0).2.trans f0; have e1 := fun o => (old_alloc hl1 o 1).2.trans f1)
  have hb : Below w.heap.size w w1 := ((Below.refl _ w).alloc (Nat.le_refl _) _).trans (hb1.mono (by simp))
  have hs1 := hb.size
  obtain ⟨s0, s1⟩ := two_set (w1 := w1) (r := .func (.func 86) #[] #[.pointer (some ⟨w1.heap.size, 0, none⟩)]) (v := .func (.func 88) #[] #[.pointer (some ⟨w1.heap.size, 0, none⟩)]) c0 c1
  have hl2 := World.block_lt_of_cell? _ _ s0
  have t0 := fun o => (old_alloc hl2 o 0).1.trans s0
  have t1 := fun o => (old_alloc hl2 o 1).1.trans s1
  refine bodyPost_ret (v := .agg #[.func (.func 86) #[] #[.pointer (some ⟨w1.heap.size, 0, none⟩)], .func (.func 88) #[] #[.pointer (some ⟨w1.heap.size, 0, none⟩)]]) ?_ rfl ⟨⟨_, _, _, _, rfl, ?_⟩, ((hb.setCell (Nat.le_refl _) _).setCell (Nat.le_refl _) _).alloc (by simpa using hs1) _⟩
  · simp [results, Tryz.results45, go_sem, Result.andThen, t0, t1]
  · have e := World.cell?_alloc_new ((w1.setCell ⟨w.heap.size, 0, none⟩ (.func (.func 86) #[] #[.pointer (some ⟨w1.heap.size, 0, none⟩)])).setCell ⟨w.heap.size, 1, none⟩ (.func (.func 88) #[] #[.pointer (some ⟨w1.heap.size, 0, none⟩)])) #[.func g x y, .func (.func 54) #[] #[]] 57 1
    simpa using e
end Go.Proofs.YtephbegencpllaaGreatDoor
