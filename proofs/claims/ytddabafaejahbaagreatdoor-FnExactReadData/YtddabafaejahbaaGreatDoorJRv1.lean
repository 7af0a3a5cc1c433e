import Derived.Test.YtddabafaejahbaaGreatDoorJIBg
import Derived.Laws.EntriesVeiled
import Derived.Test.YtddabafaejahbaaGreatDoorJMath
import Derived.Test.YtddabafaejahbaaGreatDoorRows
import Derived.WalkSpells
import Derived.WalkLawsBesides
/- The readers of words: which value is the reader of a kind; their makers by their contracts. -/
namespace Go.Proofs.YtddabafaejahbaaGreatDoor
open Go.RowKit
set_option linter.unusedVariables false

/-- The kinds of words that are read: 0 a name, 1 a text, 2 a tag, 3 the rest, 4 and 5 addresses, 6 a time, k + 7 a number of k bytes; as a script has them. -/
def kc : Nat → UInt8
  | 0 => 110
  | 1 => 116
  | 2 => 103
  | 3 => 118
  | 4 => 65
  | 5 => 86
  | 6 => 84
  | k + 7 => UInt8.ofNat (48 + k)
/-- The value is the reader of that kind. -/
def RVal (w : World) : Nat → Value → Prop
  | 0, v => ∃ b, v = .func (.func 157) #[] #[.pointer (some ⟨b, 0, none⟩)] ∧ w.cell? ⟨b, 0, none⟩ = some (.func (.func 96) #[] #[])
  | 1, v => v = .func (.func 99) #[] #[]
  | 2, v => ∃ b, v = .func (.func 157) #[] #[.pointer (some ⟨b, 0, none⟩)] ∧ w.cell? ⟨b, 0, none⟩ = some (.func (.func 124) #[] #[])
  | 3, v => v = .func (.func 127) #[] #[]
  | 4, v => ∃ b g, v = .func (.func 157) #[] #[.pointer (some ⟨b, 0, none⟩)] ∧ w.cell? ⟨b, 0, none⟩ = some (.func (.func 113) #[] #[.pointer (some ⟨g, 0, none⟩)]) ∧ w.cell? ⟨g, 0, none⟩ = some (.func (.func 64) #[] #[])
  | 5, v => ∃ b g, v = .func (.func 157) #[] #[.pointer (some ⟨b, 0, none⟩)] ∧ w.cell? ⟨b, 0, none⟩ = some (.func (.func 113) #[] #[.pointer (some ⟨g, 0, none⟩)]) ∧ w.cell? ⟨g, 0, none⟩ = some (.func (.func 66) #[] #[])
  | 6, v => ∃ b g b2 g2, v = .func (.func 157) #[] #[.pointer (some ⟨b, 0, none⟩)] ∧ w.cell? ⟨b, 0, none⟩ = some (.func (.func 108) #[] #[.pointer (some ⟨g, 0, none⟩)]) ∧ w.cell? ⟨g, 0, none⟩ = some (.func (.func 157) #[] #[.pointer (some ⟨b2, 0, none⟩)]) ∧ w.cell? ⟨b2, 0, none⟩ = some (.func (.func 104) #[] #[.pointer (some ⟨g2, 0, none⟩)]) ∧ w.cell? ⟨g2, 0, none⟩ = some (.int .i64 4)
  | k + 7, v => ∃ b g, v = .func (.func 157) #[] #[.pointer (some ⟨b, 0, none⟩)] ∧ w.cell? ⟨b, 0, none⟩ = some (.func (.func 104) #[] #[.pointer (some ⟨g, 0, none⟩)]) ∧ w.cell? ⟨g, 0, none⟩ = some (.int .i64 (k : Int))
/-- Every cell that is there is as it was. -/
def KeptR (w w' : World) : Prop := ∀ a v, w.cell? a = some v → w'.cell? a = some v
theorem keptR_below {w w' : World} (h : Below w.heap.size w w') : KeptR w w' := fun a v hv => (h.cell (World.block_lt_of_cell? w _ hv)).trans hv
theorem RVal.kept {w w' : World} {K : Nat} {v : Value} (h : RVal w K v) (hk : KeptR w w') : RVal w' K v := by
  match K, h with
  | 0, ⟨b, h1, h2⟩ => exact ⟨b, h1, hk _ _ h2⟩
  | 1, h => exact h
  | 2, ⟨b, h1, h2⟩ => exact ⟨b, h1, hk _ _ h2⟩
  | 3, h => exact h
  | 4, ⟨b, g, h1, h2, h3⟩ => exact ⟨b, g, h1, hk _ _ h2, hk _ _ h3⟩
  | 5, ⟨b, g, h1, h2, h3⟩ => exact ⟨b, g, h1, hk _ _ h2, hk _ _ h3⟩
  | 6, ⟨b, g, b2, g2, h1, h2, h3, h4, h5⟩ => exact ⟨b, g, b2, g2, h1, hk _ _ h2, hk _ _ h3, hk _ _ h4, hk _ _ h5⟩
  | k + 7, ⟨b, g, h1, h2, h3⟩ => exact ⟨b, g, h1, hk _ _ h2, hk _ _ h3⟩
theorem rval_func {w : World} {K : Nat} {v : Value} (h : RVal w K v) : ∃ F u, v = .func F #[] u := by
  match K, h with
  | 0, ⟨b, h1, h2⟩ => exact ⟨_, _, h1⟩
  | 1, h => exact ⟨_, _, h⟩
  | 2, ⟨b, h1, h2⟩ => exact ⟨_, _, h1⟩
  | 3, h => exact ⟨_, _, h⟩
  | 4, ⟨b, g, h1, h2, h3⟩ => exact ⟨_, _, h1⟩
  | 5, ⟨b, g, h1, h2, h3⟩ => exact ⟨_, _, h1⟩
  | 6, ⟨b, g, b2, g2, h1, h2, h3, h4, h5⟩ => exact ⟨_, _, h1⟩
  | k + 7, ⟨b, g, h1, h2, h3⟩ => exact ⟨_, _, h1⟩
/-- A form: the reader of the kind, and a writer, whatever it is. -/
def RFv (w : World) (K : Nat) (f : Value) : Prop := ∃ g x y F u, f = .agg #[.func g x y, .func F #[] u] ∧ RVal w K (.func g x y)
theorem RFv.kept {w w' : World} {K : Nat} {f : Value} (h : RFv w K f) (hk : KeptR w w') : RFv w' K f := by
  obtain ⟨g, x, y, F, u, rfl, hv⟩ := h
  exact ⟨g, x, y, F, u, rfl, hv.kept hk⟩

set_option maxRecDepth 100000 in
set_option maxHeartbeats 1000000 in
theorem unquotedR_any (u : Value) (w : World) (g : Fn) (x y : Array Value) (hu : u = .func g x y) :
    Calls Tryz.prog 95 #[u] w fun e w' => (∃ b, e = .returned (.func (.func 157) #[] #[.pointer (some ⟨b, 0, none⟩)]) ∧ w'.cell? ⟨b, 0, none⟩ = some u) ∧ Below w.heap.size w w' := by
  subst hu
  go_enter Tryz.func95, Tryz.ntmps95
  go_wp2
  go_ret
  exact ⟨⟨w.heap.size, rfl, by simp⟩, (Below.refl _ _).alloc (Nat.le_refl _) _⟩

set_option maxRecDepth 100000 in
set_option maxHeartbeats 1000000 in
theorem textWordR_any (w : World) :
    Calls Tryz.prog 59 #[] w fun e w' => (∃ f, e = .returned f ∧ RFv w' 1 f) ∧ Below w.heap.size w w' := by
  go_enter Tryz.func59, Tryz.ntmps59
  go_wp2
  refine bodyPost_ret (v := .agg #[.func (.func 99) #[] #[], .func (.func 102) #[] #[]]) ?_ rfl ⟨⟨_, rfl, _, _, _, _, _, rfl, rfl⟩, (Below.refl _ _).alloc (Nat.le_refl _) _⟩
  simp [results, Tryz.results59, go_sem, Result.andThen]

set_option maxRecDepth 100000 in
set_option maxHeartbeats 1000000 in
theorem restWordR_any (w : World) :
    Calls Tryz.prog 70 #[] w fun e w' => (∃ f, e = .returned f ∧ RFv w' 3 f) ∧ Below w.heap.size w w' := by
  go_enter Tryz.func70, Tryz.ntmps70
  go_wp2
  refine bodyPost_ret (v := .agg #[.func (.func 127) #[] #[], .func (.func 128) #[] #[]]) ?_ rfl ⟨⟨_, rfl, _, _, _, _, _, rfl, rfl⟩, (Below.refl _ _).alloc (Nat.le_refl _) _⟩
  simp [results, Tryz.results70, go_sem, Result.andThen]

/-- Two cells that were laid ahead of a call are there behind it. -/
theorem two_keptR {w w1 : World} {a b : Value} {t : Nat} (hb : Below (w.alloc (.cells #[a, b] t)).heap.size (w.alloc (.cells #[a, b] t)) w1) :
    w1.cell? ⟨w.heap.size, 0, none⟩ = some a ∧ w1.cell? ⟨w.heap.size, 1, none⟩ = some b ∧ w1.frozen? ⟨w.heap.size, 0, none⟩ = false ∧ w1.frozen? ⟨w.heap.size, 1, none⟩ = false := by
  have hlt : w.heap.size < (w.alloc (.cells #[a, b] t)).heap.size := by simp
  have hf : ∀ j, w1.frozen? ⟨w.heap.size, j, none⟩ = false := by
    intro j
    have e : w1.frozen? ⟨w.heap.size, j, none⟩ = (w.alloc (.cells #[a, b] t)).frozen? ⟨w.heap.size, j, none⟩ := by
      simp only [World.frozen?, hb.block w.heap.size hlt]
    rw [e]
    exact World.frozen?_alloc_new w _ _ j
  refine ⟨(hb.cell hlt).trans (by simp), (hb.cell hlt).trans (by simp), hf 0, hf 1⟩
theorem two_setR {w1 : World} {g : Nat} {a b r v : Value} (c0 : w1.cell? ⟨g, 0, none⟩ = some a) (c1 : w1.cell? ⟨g, 1, none⟩ = some b) :
    ((w1.setCell ⟨g, 0, none⟩ r).setCell ⟨g, 1, none⟩ v).cell? ⟨g, 0, none⟩ = some r ∧ ((w1.setCell ⟨g, 0, none⟩ r).setCell ⟨g, 1, none⟩ v).cell? ⟨g, 1, none⟩ = some v := by
  refine ⟨?_, ?_⟩
  · rw [World.cell?_setCell_other _ ⟨g, 1, none⟩ ⟨g, 0, none⟩ v (by simp)]
    exact World.cell?_setCell_same w1 ⟨g, 0, none⟩ r c0
  · exact World.cell?_setCell_same (w1.setCell ⟨g, 0, none⟩ r) ⟨g, 1, none⟩ v ((World.cell?_setCell_other w1 ⟨g, 0, none⟩ ⟨g, 1, none⟩ r (by simp)).trans c1)
theorem set_farR {w1 : World} {g h : Nat} {r v : Value} (hne : h ≠ g) : ((w1.setCell ⟨g, 0, none⟩ r).setCell ⟨g, 1, none⟩ v).cell? ⟨h, 0, none⟩ = w1.cell? ⟨h, 0, none⟩ := by
  rw [World.cell?_setCell_other _ ⟨g, 1, none⟩ ⟨h, 0, none⟩ v (by simp <;> omega), World.cell?_setCell_other _ ⟨g, 0, none⟩ ⟨h, 0, none⟩ r (by simp <;> omega)]
/-- A cell that holds something else lies in another block. -/
theorem cell_neR {w : World} {a b i : Nat} {u v : Value} (h : w.cell? ⟨a, i, none⟩ = some u) (h2 : w.cell? ⟨b, i, none⟩ = some v) (hne : u ≠ v) : a ≠ b := by
  intro e
  subst e
  rw [h] at h2
  exact hne (Option.some.inj h2)

set_option maxRecDepth 100000 in
set_option maxHeartbeats 1000000 in
theorem nameWordR_any (w : World) :
    Calls Tryz.prog 58 #[] w fun e w' => (∃ f, e = .returned f ∧ RFv w' 0 f) ∧ Below w.heap.size w w' := by
  have hun := fun W => unquotedR_any (.func (.func 96) #[] #[]) W _ _ _ rfl
  go_enter Tryz.func58, Tryz.ntmps58
  go_wp2_with (go_at_call 95; refine (hun _).mono ?_; rintro e w1 ⟨⟨b, rfl, hcb⟩, hb1⟩; obtain ⟨c0, c1, f0, f1⟩ := two_keptR hb1; have hne := cell_neR hcb c0 (by simp))
  have hb : Below w.heap.size w w1 := ((Below.refl _ w).alloc (Nat.le_refl _) _).trans (hb1.mono (by simp))
  obtain ⟨s0, s1⟩ := two_setR (r := .func (.func 157) #[] #[.pointer (some ⟨b, 0, none⟩)]) (v := .func (.func 97) #[] #[]) c0 c1
  refine bodyPost_ret (v := .agg #[.func (.func 157) #[] #[.pointer (some ⟨b, 0, none⟩)], .func (.func 97) #[] #[]]) ?_ rfl ⟨⟨_, rfl, _, _, _, _, _, rfl, ⟨b, rfl, (set_farR hne).trans hcb⟩⟩, (hb.setCell (Nat.le_refl _) _).setCell (Nat.le_refl _) _⟩
  simp [results, Tryz.results58, go_sem, Result.andThen, s0, s1]

set_option maxRecDepth 100000 in
set_option maxHeartbeats 1000000 in
theorem tagWordR_any (w : World) :
    Calls Tryz.prog 69 #[] w fun e w' => (∃ f, e = .returned f ∧ RFv w' 2 f) ∧ Below w.heap.size w w' := by
  have hun := fun W => unquotedR_any (.func (.func 124) #[] #[]) W _ _ _ rfl
  go_enter Tryz.func69, Tryz.ntmps69
  go_wp2_with (go_at_call 95; refine (hun _).mono ?_; rintro e w1 ⟨⟨b, rfl, hcb⟩, hb1⟩; obtain ⟨c0, c1, f0, f1⟩ := two_keptR hb1; have hne := cell_neR hcb c0 (by simp))
  have hb : Below w.heap.size w w1 := ((Below.refl _ w).alloc (Nat.le_refl _) _).trans (hb1.mono (by simp))
  obtain ⟨s0, s1⟩ := two_setR (r := .func (.func 157) #[] #[.pointer (some ⟨b, 0, none⟩)]) (v := .func (.func 126) #[] #[]) c0 c1
  refine bodyPost_ret (v := .agg #[.func (.func 157) #[] #[.pointer (some ⟨b, 0, none⟩)], .func (.func 126) #[] #[]]) ?_ rfl ⟨⟨_, rfl, _, _, _, _, _, rfl, ⟨b, rfl, (set_farR hne).trans hcb⟩⟩, (hb.setCell (Nat.le_refl _) _).setCell (Nat.le_refl _) _⟩
  simp [results, Tryz.results69, go_sem, Result.andThen, s0, s1]

set_option maxRecDepth 100000 in
set_option maxHeartbeats 1000000 in
theorem numberWordR_any (k : Nat) (w : World) :
    Calls Tryz.prog 60 #[.int .i64 (k : Int)] w fun e w' => (∃ f, e = .returned f ∧ RFv w' (k + 7) f) ∧ Below w.heap.size w w' := by
  have hun := fun p W => unquotedR_any (.func (.func 104) #[] p) W _ _ _ rfl
  go_enter Tryz.func60, Tryz.ntmps60
  go_wp2_with (go_at_call 95; refine (hun _ _).mono ?_; rintro e w1 ⟨⟨b, rfl, hcb⟩, hb1⟩; obtain ⟨c0, c1, f0, f1⟩ := two_keptR hb1; have hne := cell_neR hcb c0 (by simp); have kg : w1.cell? ⟨w.heap.size, 0, none⟩ = some (.int .i64 (k : Int)) := (hb1.cell (by simp; omega)).trans (by simp); simp only [World.alloc, Array.size_push] at c0 c1 f0 f1 hne)
  have hb : Below w.heap.size w w1 := (((Below.refl _ w).alloc (Nat.le_refl _) _).alloc (by simp) _).trans (hb1.mono (by simp; omega))
  obtain ⟨s0, s1⟩ := two_setR (r := .func (.func 157) #[] #[.pointer (some ⟨b, 0, none⟩)]) (v := .func (.func 105) #[] #[.pointer (some ⟨w.heap.size, 0, none⟩)]) c0 c1
  refine bodyPost_ret (v := .agg #[.func (.func 157) #[] #[.pointer (some ⟨b, 0, none⟩)], .func (.func 105) #[] #[.pointer (some ⟨w.heap.size, 0, none⟩)]]) ?_ rfl ⟨⟨_, rfl, _, _, _, _, _, rfl, ⟨b, _, rfl, (set_farR hne).trans hcb, (set_farR (by omega)).trans kg⟩⟩, (hb.setCell (by simp) _).setCell (by simp) _⟩
  simp [results, Tryz.results60, go_sem, Result.andThen, s0, s1]
end Go.Proofs.YtddabafaejahbaaGreatDoor
/- impl.isDigit by its contract. -/
namespace Go.Proofs.YtddabafaejahbaaGreatDoor
open Go.RowKit

set_option maxRecDepth 100000 in
set_option maxHeartbeats 400000 in
theorem isDigit_any (c : UInt8) (w : World) :
    Calls Tryz.prog 92 #[.int .u8 c.toNat] w fun e w' => e = .returned (.bool (Nm.digB c)) ∧ w' = w := by
  by_cases h1 : 48 ≤ c.toNat
  · have d1 : decide ((48 : Int) ≤ (c.toNat : Int)) = true := by simp; omega
    have HE : Hid (Nm.digB c = decide ((c.toNat : Int) ≤ 57)) := by
      show _ = _
      rw [Nm.digB, decide_eq_true h1, Bool.true_and, Bool.eq_iff_iff]
      simp; omega
    go_enter Tryz.func92, Tryz.ntmps92
    go_wp2
    go_ret
    rw [HE.out]
    exact ⟨rfl, rfl⟩
  · have d1 : decide ((48 : Int) ≤ (c.toNat : Int)) = false := by simp; omega
    have HE : Hid (Nm.digB c = false) := by
      show _ = _
      rw [Nm.digB, decide_eq_false h1]; rfl
    go_enter Tryz.func92, Tryz.ntmps92
    go_wp2
    go_ret
    rw [HE.out]
    exact ⟨rfl, rfl⟩

end Go.Proofs.YtddabafaejahbaaGreatDoor
/- impl.readNumber by its contract. -/
namespace Go.Proofs.YtddabafaejahbaaGreatDoor
open Go.RowKit

set_option maxRecDepth 100000 in
set_option maxHeartbeats 800000 in
theorem readNumber_any (s : ByteArray) (most : Nat) (w : World) (hm : most ≤ 17) :
    Calls Tryz.prog 53 #[.string s, .int .i64 (most : Int)] w fun e w' => e = .returned (numV (numO s most)) ∧ w' = w := by
  by_cases h1 : s.size < 1
  · have HN : Hid (numV (numO s most) = .tuple #[.int .i64 0, .bool false]) := by show _ = _; rw [numO_len (by omega)]; rfl
    obtain ⟨h1', _⟩ := beq_empty (s := s) (by omega)
    go_enter Tryz.func53, Tryz.ntmps53
    go_wp2
    go_ret2
    rw [HN.out]
    exact ⟨rfl, rfl⟩
  obtain ⟨h1', _⟩ := not_empty (s := s) (by omega)
  by_cases h2 : most < s.size
  · have HN : Hid (numV (numO s most) = .tuple #[.int .i64 0, .bool false]) := by show _ = _; rw [numO_len (by omega)]; rfl
    have h2' : (most : Int) < (s.size : Int) := by omega
    go_enter Tryz.func53, Tryz.ntmps53
    go_wp2
    go_ret2
    rw [HN.out]
    exact ⟨rfl, rfl⟩
  have h2' : (s.size : Int) ≤ (most : Int) := by omega
  go_enter Tryz.func53, Tryz.ntmps53
  go_wp2
  go_loop [6, 18] (fun u v => ∃ k : Nat, k ≤ s.size ∧ v = .int .i64 k ∧ u = .int .i64 ((numD (s.data.toList.take k) : Nat) : Int) ∧ ∀ j, j < k → (hj : j < s.size) → Nm.digB s[j] = true) (fun _ v => s.size - (intOf v).toNat)
  case atStart => exact ⟨0, Nat.zero_le _, rfl, rfl, fun j h => by omega⟩
  case round =>
    obtain ⟨k, hk, rfl, rfl, hd⟩ := hrel
    by_cases hlt : k < s.size
    · have hlt' : (k : Int) < (s.size : Int) := by omega
      have hdig := isDigit_any s[k]
      have hlim := numD_take hk hd
      have hp17 : 10 ^ k ≤ 10 ^ 17 := Nat.pow_le_pow_right (by decide) (by omega)
      have hp : (10 : Nat) ^ 17 = 100000000000000000 := by decide
      have hb : numD (s.data.toList.take k) < 100000000000000000 := by omega
      clear hlim hp17 hp
      cases hD : Nm.digB s[k] with
      | false =>
        have HN : Hid (numV (numO s most) = .tuple #[.int .i64 0, .bool false]) := by show _ = _; rw [numO_bad hlt hD]; rfl
        rw [hD] at hdig
        clear hD hd
        generalize numD (s.data.toList.take k) = m at *
        go_wp2_with (go_at_call 92; refine (hdig _).mono ?_; rintro e w1 ⟨rfl, hw⟩; obtain rfl : w = w1 := hw.symm; clear hw)
        go_ret2
        rw [HN.out]
        exact ⟨rfl, rfl⟩
      | true =>
        have hc : 48 ≤ s[k].toNat ∧ s[k].toNat ≤ 57 := by simp [Nm.digB] at hD; omega
        have hc1 : (48 : Int) ≤ (s[k].toNat : Int) := by omega
        have hc2 : (s[k].toNat : Int) ≤ 57 := by omega
        have e1 : s.data.toList.take (k + 1) = s.data.toList.take k ++ [s[k]] := Nm.take_step (Nm.get_data hlt)
        have e2 := numD_snoc (s.data.toList.take k) s[k]
        rw [← e1] at e2
        have HD : Hid (∀ j, j < k + 1 → (hj : j < s.size) → Nm.digB s[j] = true) := by
          show ∀ j, _
          intro j hj hjs
          by_cases e : j = k
          · subst e; exact hD
          · exact hd j (by omega) hjs
        have HV : Hid (((numD (s.data.toList.take (k + 1)) : Nat) : Int) = (numD (s.data.toList.take k) : Int) * 10 + ((s[k].toNat : Int) - 48)) := by
          show _ = _
          rw [e2]; omega
        rw [hD] at hdig
        clear hD hd e1 e2
        generalize numD (s.data.toList.take k) = m at *
        go_wp2_with (go_at_call 92; refine (hdig _).mono ?_; rintro e w1 ⟨rfl, hw⟩; obtain rfl : w = w1 := hw.symm; clear hw)
        go_round
        case rel => exact ⟨k + 1, by omega, by go_num, by rw [HV.out]; go_num, HD.out⟩
        case measure => simp [intOf]; omega
    · have hlt' : (s.size : Int) ≤ (k : Int) := by omega
      have hks : k = s.size := by omega
      have HN : Hid (numV (numO s most) = .tuple #[.int .i64 ((numD (s.data.toList.take k) : Nat) : Int), .bool true]) := by
        show _ = _
        rw [numO_good (by omega) (by omega) (fun j hj => hd j (by omega) hj), hks, List.take_of_length_le (by simp)]; rfl
      clear hd
      generalize numD (s.data.toList.take k) = m at *
      go_wp2
      go_ret2
      rw [HN.out]
      exact ⟨rfl, rfl⟩
end Go.Proofs.YtddabafaejahbaaGreatDoor
