/- slices.Concat of two rows of bytes, whatever their lengths. -/
import Derived.Test.YtlgeeidbclnhbaaICc
import Derived.Laws.OwnMore
namespace Go.Proofs.Ytlgeeidbclnhbaa
open Go.RowKit
set_option linter.unusedVariables false

/-- append(v, u...) without bytes. -/
theorem nil_app {w : World} {u : Value} (hs : BySl w u []) (B : Nat) :
    ∃ v' w', (Builtin.append_ #[22, 22] 22 #[.slice none 0 0, u]).run Try.prog w = .ok v' w' ∧ v' = .slice none 0 0 ∧ w.grownBy w' none := by
  obtain ⟨j0, hj, k0, k1, k2⟩ := info_parts Try.infoBy
  obtain ⟨hlen, a, cap, rfl, hcap, hmx, hc⟩ := hs
  cases a with
  | none =>
    have hcc : ∀ c, (Builtin.append_ #[22, 22] 22 #[.slice none 0 0, .slice none 0 c]).run Try.prog w = .ok (.slice none 0 0) w := fun c => by
      have := run_append_owned_none (P := Try.prog) (w := w) w.heap.size 22 22 5 j0 1 Try.underlying22 hj (.slice none 0 0) 0 [] (World.ownsRow_nil _ _ _ _)
      exact this
    exact ⟨_, _, hcc cap, rfl, World.grownBy.refl _ _⟩
  | some x =>
    obtain ⟨v', w', h1, h2, h3, h4⟩ := run_append_own (P := Try.prog) w w.heap.size 22 22 5 j0 (.int .u8 0) 1 1 Try.underlying22 hj k0 k1 k2 rfl (by decide) (.slice none 0 0) 0 [] (World.ownsRow_nil _ _ _ _) x 0 cap [] rfl (by intro j u hu; simp at hu) (by intro u hu; simp at hu) (by unfold maxLen; omega) (by omega) (Nat.le_refl _)
    exact ⟨v', w', h1, h4.2 ⟨rfl, rfl⟩, h3⟩

set_option maxRecDepth 100000 in
theorem grow_zero (w : World) : Calls Try.prog 17 #[.slice none 0 0, .int .i64 0] w fun e w' => e = .returned (.slice none 0 0) ∧ w' = w := by
  go_enter Try.func17, Try.ntmps17
  go_wp2
  go_ret
  exact ⟨rfl, rfl⟩

set_option maxRecDepth 100000 in
set_option maxHeartbeats 3200000 in
theorem concat_nil (v1 v2 : Value) (b : Nat) (w : World) (hc0 : w.cell? ⟨b, 0, none⟩ = some v1) (hc1 : w.cell? ⟨b, 1, none⟩ = some v2) (h1 : BySl w v1 []) (h2 : BySl w v2 []) :
    Calls Try.prog 14 #[.slice (some ⟨b, 0, none⟩) 2 2] w fun e w' => e = .returned (.slice none 0 0) ∧ Below w.heap.size w w' := by
  obtain ⟨a1, c1, rfl⟩ : ∃ a1 c1, v1 = .slice a1 0 c1 := by obtain ⟨_, a, c, e, _⟩ := h1; exact ⟨a, c, e⟩
  obtain ⟨a2, c2, rfl⟩ : ∃ a2 c2, v2 = .slice a2 0 c2 := by obtain ⟨_, a, c, e, _⟩ := h2; exact ⟨a, c, e⟩
  have hgr := fun W => grow_zero W
  have hbl := World.block_lt_of_cell? w _ hc0
  go_enter Try.func14, Try.ntmps14
  go_wp2
  go_loopw [3, 11] (fun s i wr => w = wr ∧ s = .int .i64 0 ∧ (i = .int .i64 0 ∨ i = .int .i64 1 ∨ i = .int .i64 2)) (fun _ i _ => 2 - (intOf i).toNat)
  case atStart => exact ⟨rfl, rfl, .inl rfl⟩
  case round =>
    obtain ⟨rfl, rfl, hr⟩ := hrel
    rcases hr with rfl | rfl | rfl
    · go_wp2
      go_roundw
      case rel => exact ⟨by trivial, rfl, .inr (.inl rfl)⟩
      case measure => simp [intOf]
    · go_wp2
      go_roundw
      case rel => exact ⟨by trivial, rfl, .inr (.inr rfl)⟩
      case measure => simp [intOf]
    · go_wp2_with fail
      refine (hgr _).mono ?_
      rintro e w1 ⟨rfl, rfl⟩
      clear hgr
      go_wp2
      go_loopw [6, 27] (fun v i wr => Below w1.heap.size w1 wr ∧ v = .slice none 0 0 ∧ (i = .int .i64 0 ∨ i = .int .i64 1 ∨ i = .int .i64 2)) (fun _ i _ => 2 - (intOf i).toNat)
      case atStart => exact ⟨Below.refl _ _, rfl, .inl rfl⟩
      case round =>
        obtain ⟨hbel, rfl, hr⟩ := hrel
        have hsw := hbel.size
        have d0 := (hbel.cell (p := ⟨b, 0, none⟩) hbl).trans hc0
        have d1 := (hbel.cell (p := ⟨b, 1, none⟩) hbl).trans hc1
        rcases hr with rfl | rfl | rfl
        · obtain ⟨v', w', hrun, rfl, hg⟩ := nil_app (h1.below hbel) 0
          have hb' := hbel.grown hg hsw (fun q hq => by cases hq)
          clear h1 h2 hc0 hc1 hg
          go_wp2_with (refine wpList_app_ran rfl (.tmp 31) (.tmp 32) 22 22 rfl _ _ _ _ rfl rfl hrun ?_)
          go_roundw
          case rel => exact ⟨hb', rfl, .inr (.inl rfl)⟩
          case measure => simp [intOf]
        · obtain ⟨v', w', hrun, rfl, hg⟩ := nil_app (h2.below hbel) 0
          have hb' := hbel.grown hg hsw (fun q hq => by cases hq)
          clear h1 h2 hc0 hc1 hg
          go_wp2_with (refine wpList_app_ran rfl (.tmp 31) (.tmp 32) 22 22 rfl _ _ _ _ rfl rfl hrun ?_)
          go_roundw
          case rel => exact ⟨hb', rfl, .inr (.inr rfl)⟩
          case measure => simp [intOf]
        · clear h1 h2 hc0 hc1
          go_wp2
          go_ret
          exact ⟨rfl, hbel⟩

set_option maxRecDepth 100000 in
set_option maxHeartbeats 3200000 in
theorem concat_pos (v1 v2 : Value) (l1 l2 : List UInt8) (b : Nat) (w : World) (hc0 : w.cell? ⟨b, 0, none⟩ = some v1) (hc1 : w.cell? ⟨b, 1, none⟩ = some v2) (h1 : BySl w v1 l1) (h2 : BySl w v2 l2) (hp : 0 < l1.length + l2.length) (hl1 : l1.length ≤ 3000000) (hl2 : l2.length ≤ 3000000) :
    Calls Try.prog 14 #[.slice (some ⟨b, 0, none⟩) 2 2] w fun e w' => ∃ v, e = .returned v ∧ w'.ownsRow w.heap.size 5 1 v (l1 ++ l2).length (Nm.bys (l1 ++ l2)) ∧ Below w.heap.size w w' := by
  obtain ⟨a1, c1, rfl⟩ : ∃ a1 c1, v1 = .slice a1 l1.length c1 := by obtain ⟨_, a, c, e, _⟩ := h1; exact ⟨a, c, e⟩
  obtain ⟨a2, c2, rfl⟩ : ∃ a2 c2, v2 = .slice a2 l2.length c2 := by obtain ⟨_, a, c, e, _⟩ := h2; exact ⟨a, c, e⟩
  obtain ⟨N, hN⟩ : ∃ N, N = l1.length + l2.length := ⟨_, rfl⟩
  have hw0 : IntKind.i64.wrap (l1.length : Int) = (l1.length : Int) := Go.wrap_small _ (by omega) (by omega)
  have hw1 : IntKind.i64.wrap ((l1.length : Int) + (l2.length : Int)) = (N : Int) := by rw [Go.wrap_small _ (by omega) (by omega)]; omega
  have hgr := fun W => grow_any N (by omega) (by omega) W
  have n1 : ¬ (l1.length : Int) < 0 := by omega
  have n2 : ¬ (N : Int) < 0 := by omega
  have hbl := World.block_lt_of_cell? w _ hc0
  have HN := Nm.hide hN
  clear hN
  go_enter Try.func14, Try.ntmps14
  go_wp2
  go_loopw [3, 11] (fun s i wr => w = wr ∧ ((s = .int .i64 0 ∧ i = .int .i64 0) ∨ (s = .int .i64 (l1.length : Int) ∧ i = .int .i64 1) ∨ (s = .int .i64 (N : Int) ∧ i = .int .i64 2))) (fun _ i _ => 2 - (intOf i).toNat)
  case atStart => exact ⟨rfl, .inl ⟨rfl, rfl⟩⟩
  case round =>
    obtain ⟨rfl, hr⟩ := hrel
    rcases hr with ⟨rfl, rfl⟩ | ⟨rfl, rfl⟩ | ⟨rfl, rfl⟩
    · go_wp2
      go_roundw
      case rel => exact ⟨by trivial, .inr (.inl ⟨rfl, rfl⟩)⟩
      case measure => simp [intOf]
    · go_wp2
      go_roundw
      case rel => exact ⟨by trivial, .inr (.inr ⟨rfl, rfl⟩)⟩
      case measure => simp [intOf]
    · go_wp2_with fail
      refine (hgr _).mono ?_
      rintro e w1 ⟨v0, rfl, ho, hob, hb1⟩
      obtain ⟨ax, cx, rfl⟩ := own_sl ho
      clear hgr hw0 hw1 n1 n2
      go_wp2
      go_loopw [6, 27] (fun v i wr => Below w.heap.size w wr ∧ v.ownBlock ≠ none ∧ ((i = .int .i64 0 ∧ wr.ownsRow w.heap.size 5 1 v 0 (Nm.bys [])) ∨ (i = .int .i64 1 ∧ wr.ownsRow w.heap.size 5 1 v l1.length (Nm.bys l1)) ∨ (i = .int .i64 2 ∧ wr.ownsRow w.heap.size 5 1 v N (Nm.bys (l1 ++ l2))))) (fun _ i _ => 2 - (intOf i).toNat)
      case atStart => exact ⟨hb1, hob, .inl ⟨rfl, ho⟩⟩
      case round =>
        clear ho hob hb1
        obtain ⟨hbel, hob, hr⟩ := hrel
        have hsw := hbel.size
        have d0 := (hbel.cell (p := ⟨b, 0, none⟩) hbl).trans hc0
        have d1 := (hbel.cell (p := ⟨b, 1, none⟩) hbl).trans hc1
        rcases hr with ⟨rfl, ho⟩ | ⟨rfl, ho⟩ | ⟨rfl, ho⟩
        · obtain ⟨ax, cx, rfl⟩ := own_sl ho
          obtain ⟨v', w', hrun, ho', hg, hob'⟩ := own_app ho hob (h1.below hbel) (by omega) (by omega) hsw
          have hb' := hbel.grown hg hsw (fun q hq => (ho.lt q hq).1)
          rw [List.nil_append, Nat.zero_add] at ho'
          obtain ⟨ay, cy, rfl⟩ := own_sl ho'
          clear h1 h2 hc0 hc1 hg
          go_wp2_with (refine wpList_app_ran rfl (.tmp 31) (.tmp 32) 22 22 rfl _ _ _ _ rfl rfl hrun ?_)
          go_roundw
          case rel => exact ⟨hb', hob', .inr (.inl ⟨rfl, ho'⟩)⟩
          case measure => simp [intOf]
        · obtain ⟨ax, cx, rfl⟩ := own_sl ho
          obtain ⟨v', w', hrun, ho', hg, hob'⟩ := own_app ho hob (h2.below hbel) (by omega) (by omega) hsw
          have hb' := hbel.grown hg hsw (fun q hq => (ho.lt q hq).1)
          rw [← HN.out] at ho'
          obtain ⟨ay, cy, rfl⟩ := own_sl ho'
          clear h1 h2 hc0 hc1 hg
          go_wp2_with (refine wpList_app_ran rfl (.tmp 31) (.tmp 32) 22 22 rfl _ _ _ _ rfl rfl hrun ?_)
          go_roundw
          case rel => exact ⟨hb', hob', .inr (.inr ⟨rfl, ho'⟩)⟩
          case measure => simp [intOf]
        · obtain ⟨ax, cx, rfl⟩ := own_sl ho
          clear h1 h2 hc0 hc1
          go_wp2
          go_ret
          refine ⟨_, rfl, ?_, hbel⟩
          have e : (l1 ++ l2).length = N := by rw [List.length_append, HN.out]
          rw [e]
          exact ho

theorem concat_all (v1 v2 : Value) (l1 l2 : List UInt8) (b : Nat) (w : World) (hc0 : w.cell? ⟨b, 0, none⟩ = some v1) (hc1 : w.cell? ⟨b, 1, none⟩ = some v2) (h1 : BySl w v1 l1) (h2 : BySl w v2 l2) (hl1 : l1.length ≤ 3000000) (hl2 : l2.length ≤ 3000000) :
    Calls Try.prog 14 #[.slice (some ⟨b, 0, none⟩) 2 2] w fun e w' => ∃ v, e = .returned v ∧ BySl w' v (l1 ++ l2) ∧ Below w.heap.size w w' := by
  rcases Nat.eq_zero_or_pos (l1.length + l2.length) with h0 | hp
  · obtain rfl : l1 = [] := List.length_eq_zero_iff.1 (by omega)
    obtain rfl : l2 = [] := List.length_eq_zero_iff.1 (by omega)
    refine (concat_nil v1 v2 b w hc0 hc1 h1 h2).mono ?_
    rintro e w' ⟨rfl, hb⟩
    exact ⟨_, rfl, CRow.of_owns (B := 0) (e := 5) (World.ownsRow_nil _ _ _ _), hb⟩
  · refine (concat_pos v1 v2 l1 l2 b w hc0 hc1 h1 h2 hp hl1 hl2).mono ?_
    rintro e w' ⟨v, rfl, ho, hb⟩
    exact ⟨v, rfl, CRow.of_owns ho, hb⟩
end Go.Proofs.Ytlgeeidbclnhbaa
