import Derived.Test.YtddabafaejahbaaGreatDoorJRv1
import Derived.Deep.RegionWith
import Derived.Test.YtddabafaejahbaaGreatDoorJTxt3
import Derived.Test.YtddabafaejahbaaGreatDoorJIBg
/- The makers of forms by their contracts, with their readers: addresses, times, forms of data. -/
namespace Go.Proofs.YtddabafaejahbaaGreatDoor
open Go.RowKit
set_option linter.unusedVariables false

theorem four_keptR {w w1 : World} {a b c d e : Value} {t1 t2 t3 t4 : Nat} (hb : Below ((((w.alloc (.cells #[a] t1)).alloc (.cells #[b] t2)).alloc (.cells #[c] t3)).alloc (.cells #[d, e] t4)).heap.size ((((w.alloc (.cells #[a] t1)).alloc (.cells #[b] t2)).alloc (.cells #[c] t3)).alloc (.cells #[d, e] t4)) w1) :
    w1.cell? ⟨w.heap.size, 0, none⟩ = some a ∧ w1.cell? ⟨w.heap.size + 1, 0, none⟩ = some b ∧ w1.cell? ⟨w.heap.size + 1 + 1, 0, none⟩ = some c ∧ Below w.heap.size w w1 := by
  have s1 : (w.alloc (.cells #[a] t1)).heap.size = w.heap.size + 1 := by simp
  have s2 : ((w.alloc (.cells #[a] t1)).alloc (.cells #[b] t2)).heap.size = w.heap.size + 1 + 1 := by simp
  have s3 : (((w.alloc (.cells #[a] t1)).alloc (.cells #[b] t2)).alloc (.cells #[c] t3)).heap.size = w.heap.size + 1 + 1 + 1 := by simp
  have b1 : Below w.heap.size w (w.alloc (.cells #[a] t1)) := (Below.refl _ w).alloc (Nat.le_refl _) _
  have b2 := (Below.refl (w.alloc (.cells #[a] t1)).heap.size (w.alloc (.cells #[a] t1))).alloc (Nat.le_refl _) (.cells #[b] t2)
  have b3 := (Below.refl ((w.alloc (.cells #[a] t1)).alloc (.cells #[b] t2)).heap.size ((w.alloc (.cells #[a] t1)).alloc (.cells #[b] t2))).alloc (Nat.le_refl _) (.cells #[c] t3)
  have b4 := (Below.refl (((w.alloc (.cells #[a] t1)).alloc (.cells #[b] t2)).alloc (.cells #[c] t3)).heap.size (((w.alloc (.cells #[a] t1)).alloc (.cells #[b] t2)).alloc (.cells #[c] t3))).alloc (Nat.le_refl _) (.cells #[d, e] t4)
  have b34 := Nm.below_two b4 hb
  have b23 := Nm.below_two b3 b34
  have b24 := Nm.below_two b2 b23
  refine ⟨(b24.cell (by rw [s1]; exact Nat.lt_succ_self _)).trans (by simp), (b23.cell (by rw [s2]; exact Nat.lt_succ_self _)).trans ?_, (b34.cell (by rw [s3]; exact Nat.lt_succ_self _)).trans ?_, Nm.below_two b1 b24⟩
  · have := World.cell?_alloc_new (w.alloc (.cells #[a] t1)) #[b] t2 0
    rw [s1] at this
    exact this
  · have := World.cell?_alloc_new ((w.alloc (.cells #[a] t1)).alloc (.cells #[b] t2)) #[c] t3 0
    rw [s2] at this
    exact this

set_option maxRecDepth 100000 in
set_option maxHeartbeats 1000000 in
theorem addressWordR4_any (w : World) :
    Calls Tryz.prog 63 #[.int .i64 4, .func (.func 64) #[] #[], .func (.func 65) #[] #[]] w fun e w' => (∃ f, e = .returned f ∧ RFv w' 4 f) ∧ Below w.heap.size w w' := by
  have hun := fun p W => unquotedR_any (.func (.func 113) #[] p) W _ _ _ rfl
  go_enter Tryz.func63, Tryz.ntmps63
  go_wp2_with (go_at_call 95; refine (hun _ _).mono ?_; rintro e w1 ⟨⟨b, rfl, hcb⟩, hb1⟩; obtain ⟨c0, c1, f0, f1⟩ := two_keptR hb1; have hne := cell_neR hcb c0 (by simp); obtain ⟨kg, kr, kh, hb⟩ := four_keptR hb1; simp only [World.alloc, Array.size_push] at c0 c1 f0 f1 hne)
  obtain ⟨s0, s1⟩ := two_setR (r := .func (.func 157) #[] #[.pointer (some ⟨b, 0, none⟩)]) (v := .func (.func 114) #[] #[.pointer (some ⟨w.heap.size + 1 + 1, 0, none⟩), .pointer (some ⟨w.heap.size, 0, none⟩)]) c0 c1
  refine bodyPost_ret (v := .agg #[.func (.func 157) #[] #[.pointer (some ⟨b, 0, none⟩)], .func (.func 114) #[] #[.pointer (some ⟨w.heap.size + 1 + 1, 0, none⟩), .pointer (some ⟨w.heap.size, 0, none⟩)]]) ?_ rfl ⟨⟨_, rfl, _, _, _, _, _, rfl, ⟨b, _, rfl, (set_farR hne).trans hcb, (set_farR (by omega)).trans kr⟩⟩, (hb.setCell (by simp <;> omega) _).setCell (by simp <;> omega) _⟩
  simp [results, Tryz.results63, go_sem, Result.andThen, s0, s1]

set_option maxRecDepth 100000 in
set_option maxHeartbeats 1000000 in
theorem addressWordR6_any (w : World) :
    Calls Tryz.prog 63 #[.int .i64 16, .func (.func 66) #[] #[], .func (.func 67) #[] #[]] w fun e w' => (∃ f, e = .returned f ∧ RFv w' 5 f) ∧ Below w.heap.size w w' := by
  have hun := fun p W => unquotedR_any (.func (.func 113) #[] p) W _ _ _ rfl
  go_enter Tryz.func63, Tryz.ntmps63
  go_wp2_with (go_at_call 95; refine (hun _ _).mono ?_; rintro e w1 ⟨⟨b, rfl, hcb⟩, hb1⟩; obtain ⟨c0, c1, f0, f1⟩ := two_keptR hb1; have hne := cell_neR hcb c0 (by simp); obtain ⟨kg, kr, kh, hb⟩ := four_keptR hb1; simp only [World.alloc, Array.size_push] at c0 c1 f0 f1 hne)
  obtain ⟨s0, s1⟩ := two_setR (r := .func (.func 157) #[] #[.pointer (some ⟨b, 0, none⟩)]) (v := .func (.func 114) #[] #[.pointer (some ⟨w.heap.size + 1 + 1, 0, none⟩), .pointer (some ⟨w.heap.size, 0, none⟩)]) c0 c1
  refine bodyPost_ret (v := .agg #[.func (.func 157) #[] #[.pointer (some ⟨b, 0, none⟩)], .func (.func 114) #[] #[.pointer (some ⟨w.heap.size + 1 + 1, 0, none⟩), .pointer (some ⟨w.heap.size, 0, none⟩)]]) ?_ rfl ⟨⟨_, rfl, _, _, _, _, _, rfl, ⟨b, _, rfl, (set_farR hne).trans hcb, (set_farR (by omega)).trans kr⟩⟩, (hb.setCell (by simp <;> omega) _).setCell (by simp <;> omega) _⟩
  simp [results, Tryz.results63, go_sem, Result.andThen, s0, s1]

set_option maxRecDepth 100000 in
set_option maxHeartbeats 1000000 in
theorem justWordsR_any (u : Value) (w : World) (a : Option Addr) (n cap : Nat) (hu : u = .slice a n cap) :
    Calls Tryz.prog 62 #[u] w fun e w' => (∃ gc F y, e = .returned (.agg #[.func (.func 110) #[] #[.pointer (some ⟨gc, 0, none⟩)], .func F #[] y]) ∧ w'.cell? ⟨gc, 0, none⟩ = some u) ∧ Below w.heap.size w w' := by
  subst hu
  go_enter Tryz.func62, Tryz.ntmps62
  go_wp2
  refine bodyPost_ret (v := .agg #[.func (.func 110) #[] #[.pointer (some ⟨w.heap.size, 0, none⟩)], .func (.func 112) #[] #[.pointer (some ⟨w.heap.size, 0, none⟩)]]) ?_ rfl ⟨⟨_, _, _, rfl, by simp⟩, (((Below.refl _ w).alloc (Nat.le_refl _) _).alloc (by simp) _)⟩
  simp [results, Tryz.results62, go_sem, Result.andThen]

set_option maxRecDepth 100000 in
set_option maxHeartbeats 1000000 in
theorem manyWordsR_any (w : World) (f : Fn) (x y : Array Value) (g : Fn) (p q : Array Value) :
    Calls Tryz.prog 68 #[.agg #[.func f x y, .func g p q]] w fun e w' => (∃ gc F z, e = .returned (.agg #[.func (.func 121) #[] #[.pointer (some ⟨gc, 0, none⟩)], .func F #[] z]) ∧ w'.cell? ⟨gc, 0, none⟩ = some (.func f x y) ∧ w'.cell? ⟨gc, 1, none⟩ = some (.func g p q)) ∧ Below w.heap.size w w' := by
  go_enter Tryz.func68, Tryz.ntmps68
  go_wp2
  refine bodyPost_ret (v := .agg #[.func (.func 121) #[] #[.pointer (some ⟨w.heap.size, 0, none⟩)], .func (.func 123) #[] #[.pointer (some ⟨w.heap.size, 0, none⟩)]]) ?_ rfl ⟨⟨_, _, _, rfl, by simp, by simp⟩, (((Below.refl _ w).alloc (Nat.le_refl _) _).alloc (by simp) _)⟩
  simp [results, Tryz.results68, go_sem, Result.andThen]

theorem old_allocR {w1 : World} {g : Nat} (hlt : g < w1.heap.size) (o : Obj) (j : Nat) : (w1.alloc o).cell? ⟨g, j, none⟩ = w1.cell? ⟨g, j, none⟩ ∧ (w1.alloc o).frozen? ⟨g, j, none⟩ = w1.frozen? ⟨g, j, none⟩ := by
  have hb : Below w1.heap.size w1 (w1.alloc o) := (Below.refl _ w1).alloc (Nat.le_refl _) o
  exact ⟨hb.cell hlt, by simp only [World.frozen?, hb.block g hlt]⟩
set_option maxRecDepth 100000 in
set_option maxHeartbeats 1000000 in
theorem nameAndTypesR_any (w : World) :
    Calls Tryz.prog 71 #[] w fun e w' => (∃ gc b F z, e = .returned (.agg #[.func (.func 129) #[] #[.pointer (some ⟨gc, 0, none⟩)], .func F #[] z]) ∧ w'.cell? ⟨gc, 0, none⟩ = some (.func (.func 157) #[] #[.pointer (some ⟨b, 0, none⟩)]) ∧ w'.cell? ⟨b, 0, none⟩ = some (.func (.func 96) #[] #[])) ∧ Below w.heap.size w w' := by
  have hn := fun W => nameWordR_any W
  go_enter Tryz.func71, Tryz.ntmps71
  go_wp2_with (go_at_call 58; refine (hn _).mono ?_; rintro e w1 ⟨⟨f, rfl, g, x, y, F, u, rfl, b, hbv, hcb⟩, hb1⟩; obtain ⟨rfl, rfl, rfl⟩ := Value.func.inj hbv; obtain ⟨c0, c1, f0, f1⟩ := two_keptR hb1; have hne := cell_neR hcb c0 (by simp); have hl1 := World.block_lt_of_cell? w1 _ c0; have d0 := fun o => (old_allocR hl1 o 0).1.trans c0; have d1 := fun o => (old_allocR hl1 o 1).1.trans c1; have e0 := fun o => (old_allocR hl1 o 0).2.trans f0; have e1 := fun o => (old_allocR hl1 o 1).2.trans f1)
  have hb : Below w.heap.size w w1 := ((Below.refl _ w).alloc (Nat.le_refl _) _).trans (hb1.mono (by simp))
  have hs1 := hb.size
  obtain ⟨s0, s1⟩ := two_setR (w1 := w1) (r := .func (.func 129) #[] #[.pointer (some ⟨w1.heap.size, 0, none⟩)]) (v := .func (.func 131) #[] #[.pointer (some ⟨w1.heap.size, 0, none⟩)]) c0 c1
  have hcb2 := (set_farR (r := .func (.func 129) #[] #[.pointer (some ⟨w1.heap.size, 0, none⟩)]) (v := .func (.func 131) #[] #[.pointer (some ⟨w1.heap.size, 0, none⟩)]) hne).trans hcb
  have hl2 := World.block_lt_of_cell? _ _ s0
  have t0 := fun o => (old_allocR hl2 o 0).1.trans s0
  have t1 := fun o => (old_allocR hl2 o 1).1.trans s1
  have tb := fun o => (old_allocR (World.block_lt_of_cell? _ _ hcb2) o 0).1.trans hcb2
  refine bodyPost_ret (v := .agg #[.func (.func 129) #[] #[.pointer (some ⟨w1.heap.size, 0, none⟩)], .func (.func 131) #[] #[.pointer (some ⟨w1.heap.size, 0, none⟩)]]) ?_ rfl ⟨⟨_, b, _, _, rfl, ?_, tb _⟩, ((hb.setCell (Nat.le_refl _) _).setCell (Nat.le_refl _) _).alloc (by simpa using hs1) _⟩
  · simp [results, Tryz.results71, go_sem, Result.andThen, t0, t1]
  · have e := World.cell?_alloc_new ((w1.setCell ⟨w.heap.size, 0, none⟩ (.func (.func 129) #[] #[.pointer (some ⟨w1.heap.size, 0, none⟩)])).setCell ⟨w.heap.size, 1, none⟩ (.func (.func 131) #[] #[.pointer (some ⟨w1.heap.size, 0, none⟩)])) #[.func (.func 157) #[] #[.pointer (some ⟨b, 0, none⟩)], .func F #[] u] 113 0
    simpa using e
end Go.Proofs.YtddabafaejahbaaGreatDoor
/- impl.secondsOf by its contract. -/
namespace Go.Proofs.YtddabafaejahbaaGreatDoor
open Go.RowKit

theorem low_val (c : UInt8) : (Nm.low c).toNat = if 65 ≤ c.toNat ∧ c.toNat ≤ 90 then c.toNat + 32 else c.toNat := by
  unfold Nm.low
  split
  · have := c.toNat_lt
    simp; omega
  · rfl
theorem unit_low (c : UInt8) : unitS c = (if (Nm.low c).toNat = 115 then 1 else if (Nm.low c).toNat = 109 then 60 else if (Nm.low c).toNat = 104 then 3600 else if (Nm.low c).toNat = 100 then 86400 else if (Nm.low c).toNat = 119 then 604800 else 0) := by
  rw [low_val, unitS]
  have := c.toNat_lt
  generalize c.toNat = n at *
  repeat' split
  all_goals omega

set_option maxRecDepth 100000 in
set_option maxHeartbeats 1600000 in
theorem secondsOf_any (c : UInt8) (w : World) :
    Calls Tryz.prog 202 #[.int .u8 c.toNat] w fun e w' => e = .returned (.int .i64 (unitS c)) ∧ w' = w := by
  have hf := fun W => foldByte_any c W
  have hu := unit_low c
  generalize Nm.low c = d at *
  generalize unitS c = z at *
  by_cases h1 : d.toNat = 115
  · rw [if_pos h1] at hu
    have q1 : ((d.toNat : Int) == 115) = true := by rw [beq_iff_eq]; omega
    subst hu
    clear h1
    go_enter Tryz.func202, Tryz.ntmps202
    go_wp2_with (go_at_call 154; refine (hf _).mono ?_; rintro e w1 ⟨rfl, hw⟩; obtain rfl : w = w1 := hw.symm; clear hw)
    go_ret
    exact ⟨rfl, rfl⟩
  rw [if_neg h1] at hu
  have q1 : ((d.toNat : Int) == 115) = false := by rw [beq_eq_false_iff_ne]; omega
  by_cases h2 : d.toNat = 109
  · rw [if_pos h2] at hu
    have q2 : ((d.toNat : Int) == 109) = true := by rw [beq_iff_eq]; omega
    subst hu
    clear h1 h2
    go_enter Tryz.func202, Tryz.ntmps202
    go_wp2_with (go_at_call 154; refine (hf _).mono ?_; rintro e w1 ⟨rfl, hw⟩; obtain rfl : w = w1 := hw.symm; clear hw)
    go_ret
    exact ⟨rfl, rfl⟩
  rw [if_neg h2] at hu
  have q2 : ((d.toNat : Int) == 109) = false := by rw [beq_eq_false_iff_ne]; omega
  by_cases h3 : d.toNat = 104
  · rw [if_pos h3] at hu
    have q3 : ((d.toNat : Int) == 104) = true := by rw [beq_iff_eq]; omega
    subst hu
    clear h1 h2 h3
    go_enter Tryz.func202, Tryz.ntmps202
    go_wp2_with (go_at_call 154; refine (hf _).mono ?_; rintro e w1 ⟨rfl, hw⟩; obtain rfl : w = w1 := hw.symm; clear hw)
    go_ret
    exact ⟨rfl, rfl⟩
  rw [if_neg h3] at hu
  have q3 : ((d.toNat : Int) == 104) = false := by rw [beq_eq_false_iff_ne]; omega
  by_cases h4 : d.toNat = 100
  · rw [if_pos h4] at hu
    have q4 : ((d.toNat : Int) == 100) = true := by rw [beq_iff_eq]; omega
    subst hu
    clear h1 h2 h3 h4
    go_enter Tryz.func202, Tryz.ntmps202
    go_wp2_with (go_at_call 154; refine (hf _).mono ?_; rintro e w1 ⟨rfl, hw⟩; obtain rfl : w = w1 := hw.symm; clear hw)
    go_ret
    exact ⟨rfl, rfl⟩
  rw [if_neg h4] at hu
  have q4 : ((d.toNat : Int) == 100) = false := by rw [beq_eq_false_iff_ne]; omega
  by_cases h5 : d.toNat = 119
  · rw [if_pos h5] at hu
    have q5 : ((d.toNat : Int) == 119) = true := by rw [beq_iff_eq]; omega
    subst hu
    clear h1 h2 h3 h4 h5
    go_enter Tryz.func202, Tryz.ntmps202
    go_wp2_with (go_at_call 154; refine (hf _).mono ?_; rintro e w1 ⟨rfl, hw⟩; obtain rfl : w = w1 := hw.symm; clear hw)
    go_ret
    exact ⟨rfl, rfl⟩
  rw [if_neg h5] at hu
  have q5 : ((d.toNat : Int) == 119) = false := by rw [beq_eq_false_iff_ne]; omega
  subst hu
  clear h1 h2 h3 h4 h5
  go_enter Tryz.func202, Tryz.ntmps202
  go_wp2_with (go_at_call 154; refine (hf _).mono ?_; rintro e w1 ⟨rfl, hw⟩; obtain rfl : w = w1 := hw.symm; clear hw)
  go_ret
  exact ⟨rfl, rfl⟩
end Go.Proofs.YtddabafaejahbaaGreatDoor
