/- laws.eqLineS, whole. -/
import Derived.Test.YtjbdfooppokonaaDoorLkA
namespace Go.Proofs.YtjbdfooppokonaaDoor
open Go.RowKit
set_option linter.unusedVariables false

set_option maxRecDepth 100000 in
set_option maxHeartbeats 800000 in
theorem eqLine_same (n : Int) (b : Bool) (v v' : Value) (ws : List Wd) (B B' : Nat) (w : World) (h : w.ownsRow B 62 2 v ws.length (wdVs ws)) (h' : w.ownsRow B' 62 2 v' ws.length (wdVs ws)) (hn : ws.length ≤ 1000000) :
    Calls Tryd.prog 15 #[.agg #[.int .i64 n, .bool b, v], .agg #[.int .i64 n, .bool b, v']] w fun e w' => e = .returned (.bool true) ∧ Below w.heap.size w w' := by
  obtain ⟨a, c, rfl⟩ := own_sl h
  obtain ⟨a', c', rfl⟩ := own_sl h'
  have h1 : (n == n) = true := by simp
  have h2 : (b == b) = true := by simp
  have b2 := ((Below.refl w.heap.size w).alloc (Nat.le_refl _) (.cells #[.int .i64 n, .bool b, .slice a ws.length c] 30)).alloc (by simp) (.cells #[.int .i64 n, .bool b, .slice a' ws.length c'] 30)
  have heq := eqWordS_same _ _ ws B B' _ (own_below h b2) (own_below h' b2) hn
  have HB := Nm.hide b2
  clear h h' b2
  go_enter Tryd.func15, Tryd.ntmps15
  go_wp2_with (go_at_call 25; refine heq.mono ?_; rintro e w2 ⟨rfl, hb2⟩)
  go_ret
  exact ⟨rfl, Nm.below_two HB.out hb2⟩

set_option maxRecDepth 100000 in
set_option maxHeartbeats 1600000 in
theorem eqLineS_same (v v' : Value) (ps qs : List Lp) (B B' : Nat) (w : World) (h : LOwn w B v ps) (h' : LOwn w B' v' qs) (he : ps.map (·.1) = qs.map (·.1)) (hn : ps.length ≤ 1000000) (hw : ∀ p ∈ ps, p.1.ws.length ≤ 1000000) :
    Calls Tryd.prog 6 #[v, v'] w fun e w' => e = .returned (.bool true) ∧ Below w.heap.size w w' := by
  have hlen : qs.length = ps.length := by have := congrArg List.length he; simpa using this.symm
  obtain ⟨a, c, rfl⟩ := own_sl h.outer
  obtain ⟨a', c', rfl⟩ := own_sl h'.outer
  have ho' := h'.outer
  rw [hlen] at ho' ⊢
  go_enter Tryd.func6, Tryd.ntmps6
  have HLn := Nm.hide hlen
  clear hlen
  go_wp2
  go_loopw [5] (fun i wr => ∃ j : Nat, j ≤ ps.length ∧ i = .int .i64 (j : Int) ∧ Below w.heap.size w wr) (fun i _ => ps.length - (intOf i).toNat)
  case atStart => exact ⟨0, Nat.zero_le _, rfl, Below.refl _ _⟩
  case round =>
    obtain ⟨j, hj, rfl, hb⟩ := hrel
    by_cases hlt : j < ps.length
    · obtain ⟨x, hx⟩ : ∃ x, ps[j]? = some x := ⟨_, List.getElem?_eq_getElem hlt⟩
      obtain ⟨y, hy⟩ : ∃ y, qs[j]? = some y := ⟨_, List.getElem?_eq_getElem (by rw [HLn.out]; exact hlt)⟩
      have hxy : x.1 = y.1 := by
        have e1 : (ps.map (·.1))[j]? = some x.1 := by rw [List.getElem?_map, hx]; rfl
        have e2 : (qs.map (·.1))[j]? = some y.1 := by rw [List.getElem?_map, hy]; rfl
        rw [he, e2] at e1
        exact (Option.some.inj e1).symm
      have o1 := own_below h.outer hb
      have o2 := own_below ho' hb
      have n1 := h.inner j x hx
      have n2 := h'.inner j y hy
      rw [← hxy] at n2
      obtain ⟨ua, uc, hu⟩ := own_sl n1
      obtain ⟨ua', uc', hu'⟩ := own_sl n2
      obtain ⟨g, rfl⟩ : ∃ g, a = some ⟨g, 0, none⟩ := by
        rcases h.outer.2 with ⟨e, h0⟩ | ⟨g, cap, cur, e, _⟩
        · omega
        · cases e; exact ⟨g, rfl⟩
      obtain ⟨g', rfl⟩ : ∃ g', a' = some ⟨g', 0, none⟩ := by
        rcases ho'.2 with ⟨e, h0⟩ | ⟨g, cap, cur, e, _⟩
        · omega
        · cases e; exact ⟨g, rfl⟩
      have c0 : wr.cell? ⟨g, j * 3, none⟩ = some (.int .i64 (x.1.num : Int)) := (o1.cellAt (j * 3) (by omega)).trans (lpVs_at ps j 0 x hx (by decide))
      have c1 : wr.cell? ⟨g, j * 3 + 1, none⟩ = some (.bool x.1.bl) := (o1.cellAt (j * 3 + 1) (by omega)).trans (lpVs_at ps j 1 x hx (by decide))
      have c2 : wr.cell? ⟨g, j * 3 + 2, none⟩ = some x.2 := (o1.cellAt (j * 3 + 2) (by omega)).trans (lpVs_at ps j 2 x hx (by decide))
      have d0 : wr.cell? ⟨g', j * 3, none⟩ = some (.int .i64 (y.1.num : Int)) := (o2.cellAt (j * 3) (by omega)).trans (lpVs_at qs j 0 y hy (by decide))
      have d1 : wr.cell? ⟨g', j * 3 + 1, none⟩ = some (.bool y.1.bl) := (o2.cellAt (j * 3 + 1) (by omega)).trans (lpVs_at qs j 1 y hy (by decide))
      have d2 : wr.cell? ⟨g', j * 3 + 2, none⟩ = some y.2 := (o2.cellAt (j * 3 + 2) (by omega)).trans (lpVs_at qs j 2 y hy (by decide))
      rw [← hxy] at d0 d1
      rw [hu] at c2
      rw [hu'] at d2
      have hwl := hw x (List.mem_of_getElem? hx)
      have i1 : (0 : Int) ≤ (j : Int) := by omega
      have i2 : (j : Int) < (ps.length : Int) := by omega
      have heq : ∀ W, (W.cell? ⟨g, j * 3, none⟩ = some (.int .i64 (x.1.num : Int)) ∧ W.cell? ⟨g, j * 3 + 1, none⟩ = some (.bool x.1.bl) ∧ W.cell? ⟨g, j * 3 + 2, none⟩ = some (.slice ua x.1.ws.length uc) ∧ W.cell? ⟨g', j * 3, none⟩ = some (.int .i64 (x.1.num : Int)) ∧ W.cell? ⟨g', j * 3 + 1, none⟩ = some (.bool x.1.bl) ∧ W.cell? ⟨g', j * 3 + 2, none⟩ = some (.slice ua' x.1.ws.length uc') ∧ Below w.heap.size w W) → Calls Tryd.prog 15 #[.agg #[.int .i64 (x.1.num : Int), .bool x.1.bl, .slice ua x.1.ws.length uc], .agg #[.int .i64 (x.1.num : Int), .bool x.1.bl, .slice ua' x.1.ws.length uc']] W fun e w' => e = .returned (.bool true) ∧ (w'.cell? ⟨g, j * 3, none⟩ = some (.int .i64 (x.1.num : Int)) ∧ w'.cell? ⟨g, j * 3 + 1, none⟩ = some (.bool x.1.bl) ∧ w'.cell? ⟨g, j * 3 + 2, none⟩ = some (.slice ua x.1.ws.length uc) ∧ w'.cell? ⟨g', j * 3, none⟩ = some (.int .i64 (x.1.num : Int)) ∧ w'.cell? ⟨g', j * 3 + 1, none⟩ = some (.bool x.1.bl) ∧ w'.cell? ⟨g', j * 3 + 2, none⟩ = some (.slice ua' x.1.ws.length uc') ∧ Below w.heap.size w w') := by
        rintro W ⟨s1, s2, s3, s4, s5, s6, s7⟩
        have m1 := own_below n1 s7
        have m2 := own_below n2 s7
        rw [hu] at m1
        rw [hu'] at m2
        refine (eqLine_same _ _ _ _ x.1.ws B B' W m1 m2 hwl).mono ?_
        rintro e w' ⟨rfl, hb'⟩
        have k0 := fun (b i : Nat) (y : Value) (e : W.cell? ⟨b, i, none⟩ = some y) => (hb'.cell (World.block_lt_of_cell? W _ e)).trans e
        exact ⟨rfl, k0 _ _ _ s1, k0 _ _ _ s2, k0 _ _ _ s3, k0 _ _ _ s4, k0 _ _ _ s5, k0 _ _ _ s6, Nm.below_two s7 hb'⟩
      have hS0 : wr.drew.cell? ⟨g, j * 3, none⟩ = some (.int .i64 (x.1.num : Int)) ∧ wr.drew.cell? ⟨g, j * 3 + 1, none⟩ = some (.bool x.1.bl) ∧ wr.drew.cell? ⟨g, j * 3 + 2, none⟩ = some (.slice ua x.1.ws.length uc) ∧ wr.drew.cell? ⟨g', j * 3, none⟩ = some (.int .i64 (x.1.num : Int)) ∧ wr.drew.cell? ⟨g', j * 3 + 1, none⟩ = some (.bool x.1.bl) ∧ wr.drew.cell? ⟨g', j * 3 + 2, none⟩ = some (.slice ua' x.1.ws.length uc') ∧ Below w.heap.size w wr.drew := ⟨c0, c1, c2, d0, d1, d2, hb.drew⟩
      clear o1 o2 hx hy hxy n1 n2 hu hu' c0 c1 c2 d0 d1 d2 hwl
      go_wp2
      go_region_held3 (fun W => W.cell? ⟨g, j * 3, none⟩ = some (.int .i64 (x.1.num : Int)) ∧ W.cell? ⟨g, j * 3 + 1, none⟩ = some (.bool x.1.bl) ∧ W.cell? ⟨g, j * 3 + 2, none⟩ = some (.slice ua x.1.ws.length uc) ∧ W.cell? ⟨g', j * 3, none⟩ = some (.int .i64 (x.1.num : Int)) ∧ W.cell? ⟨g', j * 3 + 1, none⟩ = some (.bool x.1.bl) ∧ W.cell? ⟨g', j * 3 + 2, none⟩ = some (.slice ua' x.1.ws.length uc') ∧ Below w.heap.size w W) (first | assumption | exact hS0) ((first | (go_at_call 15; refine (heq _ (by first | assumption | exact hS0)).mono ?_; rintro e w' ⟨rfl, hS1⟩)))
      go_wp2
      go_roundw
      case rel => exact ⟨j + 1, by omega, by go_num, hS1.2.2.2.2.2.2⟩
      case measure => simp [intOf]; omega
    · have hjn : j = ps.length := by omega
      subst hjn
      go_wp2
      go_ret
      exact ⟨rfl, hb⟩
end Go.Proofs.YtjbdfooppokonaaDoor
