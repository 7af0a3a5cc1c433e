import Derived.Test.YtkiadnglbjamfaaPfY
/- (linkList).says by its contract. -/
namespace Go.Proofs.Ytkiadnglbjamfaa
open Go.RowKit
set_option linter.unusedVariables false

theorem says_back {W : World} {b : Nat} {x0 x1 x2 : Value} {n : Int} {R : Ending → World → Prop} {a : Act} (h : Blk W b #[x0, x1, x2] 68)
    (h2 : a.tmps[7]? = some (.pointer (some ⟨b, 0, none⟩))) (h3 : a.tmps[6]? = some (.int .i64 n)) (hd : a.defers = [])
    (hR : R (.returned (.tuple #[.int .i64 n, .agg #[x0, x1, x2]])) W) : bodyPost Try.prog Try.f38 R .ret a W := by
  refine bodyPost_ret ?_ hd hR
  have r := fun i => blk_cell h i
  simp [results, Try.results38, go_sem, Result.andThen, r, h2, h3]

def Sl3 (a b c : Value) : Prop := (∃ x n y, a = .slice x n y) ∧ (∃ x n y, b = .slice x n y) ∧ (∃ x n y, c = .slice x n y)
/-- What says answers. -/
def Said (w w' : World) (ls : List Lk) (x : List ByteArray) (q : Int) (e : Ending) : Prop := Below w.heap.size w w' ∧ ∃ a b c, e = .returned (.tuple #[.int .i64 (saysC ls x q), .agg #[a, b, c]]) ∧ Sl3 a b c ∧
  (saysC ls x q = 2 → ∃ l, pickB ls x covB = some l ∧ LkV w a b c l)

set_option maxRecDepth 100000 in
set_option maxHeartbeats 1600000 in
theorem says_any (v u : Value) (ls : List Lk) (vs : List (Value × Value × Value)) (x : List ByteArray) (q : Int) (w : World) (h : LkS w v ls vs) (hlen : ls.length ≤ 20) (hu : Nm.SRow w u x) (hx : Few x) :
    Calls Try.prog 38 #[v, u, .int .i64 q] w fun e w' => Said w w' ls x q e := by
  have hB := (Below.refl w.heap.size w).alloc (Nat.le_refl _) (.cells #[.slice none 0 0, .slice none 0 0, .slice none 0 0] 68)
  have k7 := blk_new w #[.slice none 0 0, .slice none 0 0, .slice none 0 0] 68
  have hpa := fun W (hW : Below w.heap.size w W) => pick_at v u ls vs x W (h.below hW) hlen (hu.below hW) hx
  have hpc := fun W (hW : Below w.heap.size w W) => pick_cov v u ls vs x W (h.below hW) hlen (hu.below hW) hx
  have HU := Nm.hide hu
  obtain ⟨_, va, vcap, rfl, hcap, hmx, hc⟩ := h.row
  obtain ⟨xu, yu, rfl, _⟩ := hu
  have HH := Nm.hide h
  clear hc h
  go_enter Try.func38, Try.ntmps38
  go_wp2_with fail
  refine (hpa _ hB).mono ?_
  rintro e w1 ⟨b1, hp⟩
  replace k7 := blk_below k7 b1
  replace hB := Nm.below_two hB b1
  clear b1 hpa
  cases hA : pickB ls x atB with
  | some o =>
    rw [hA] at hp
    obtain ⟨a, b, c, rfl, hl, _⟩ := hp
    have hA1 := (Below.refl w1.heap.size w1).alloc (Nat.le_refl _) (.cells #[a, b, c] 68)
    have k8 := blk_new w1 #[a, b, c] 68
    replace k7 := blk_below k7 hA1
    replace hB := Nm.below_two hB hA1
    replace hl := hl.below hA1
    have hq := fun W (hW : Below (w1.alloc (.cells #[a, b, c] 68)).heap.size (w1.alloc (.cells #[a, b, c] 68)) W) => has_any a b c o q W (hl.below hW)
    have h5 := fun W (hW : Below (w1.alloc (.cells #[a, b, c] 68)).heap.size (w1.alloc (.cells #[a, b, c] 68)) W) => has_any a b c o 5 W (hl.below hW)
    obtain ⟨⟨x1, y1, rfl⟩, ⟨x2, y2, rfl⟩, ⟨x3, y3, rfl⟩⟩ := lk_form hl
    have r8 := fun i => blk_cell k8 i
    clear hA1 hpc hl
    cases hQ : hasB o.ty q with
    | true =>
      rw [hQ] at hq
      have HV := Nm.hide (show saysC ls x q = 0 by rw [saysC, hA]; simp [hQ])
      clear hQ hA h5
      go_wp2_with fail
      refine (hq _ (Below.refl _ _)).mono ?_
      rintro e w2 ⟨rfl, b2⟩
      replace k7 := blk_below k7 b2
      replace hB := Nm.below_two hB b2
      clear b2 k8 hq
      have r7 := fun i => blk_cell k7 i
      have f7 := fun i => blk_frozen k7 i
      have X := Nm.hide (And.intro (setAll_new [.slice none 0 0, .slice none 0 0, .slice none 0 0] k7 rfl) (setAll_belowP (Nat.le_refl w.heap.size) [.slice none 0 0, .slice none 0 0, .slice none 0 0] 0 _ hB))
      simp only [setAll, Nat.reduceAdd, Nat.zero_add] at X
      clear k7
      go_wp2
      refine says_back X.out.1 rfl rfl rfl ?_
      refine ⟨X.out.2, _, _, _, by rw [HV.out], ⟨⟨_, _, _, rfl⟩, ⟨_, _, _, rfl⟩, ⟨_, _, _, rfl⟩⟩, fun h => ?_⟩
      rw [HV.out] at h
      exact absurd h (by decide)
    | false =>
      rw [hQ] at hq
      go_wp2_with fail
      refine (hq _ (Below.refl _ _)).mono ?_
      rintro e w2 ⟨rfl, b2⟩
      have c5 := h5 _ b2
      replace k7 := blk_below k7 b2
      replace k8 := blk_below k8 b2
      replace hB := Nm.below_two hB b2
      have r8 := fun i => blk_cell k8 i
      clear b2 hq h5
      cases hQ5 : hasB o.ty 5 with
      | true =>
        rw [hQ5] at c5
        have HV := Nm.hide (show saysC ls x q = 0 by rw [saysC, hA]; simp [hQ5])
        clear hQ hA hQ5
        go_wp2_with fail
        refine c5.mono ?_
        rintro e w3 ⟨rfl, b3⟩
        replace k7 := blk_below k7 b3
        replace hB := Nm.below_two hB b3
        clear b3 k8 c5
        have r7 := fun i => blk_cell k7 i
        have f7 := fun i => blk_frozen k7 i
        have X := Nm.hide (And.intro (setAll_new [.slice none 0 0, .slice none 0 0, .slice none 0 0] k7 rfl) (setAll_belowP (Nat.le_refl w.heap.size) [.slice none 0 0, .slice none 0 0, .slice none 0 0] 0 _ hB))
        simp only [setAll, Nat.reduceAdd, Nat.zero_add] at X
        clear k7
        go_wp2
        refine says_back X.out.1 rfl rfl rfl ?_
        refine ⟨X.out.2, _, _, _, by rw [HV.out], ⟨⟨_, _, _, rfl⟩, ⟨_, _, _, rfl⟩, ⟨_, _, _, rfl⟩⟩, fun h => ?_⟩
        rw [HV.out] at h
        exact absurd h (by decide)
      | false =>
        rw [hQ5] at c5
        have HV := Nm.hide (show saysC ls x q = 1 by rw [saysC, hA]; simp [hQ, hQ5])
        clear hQ hA hQ5
        go_wp2_with fail
        refine c5.mono ?_
        rintro e w3 ⟨rfl, b3⟩
        replace k7 := blk_below k7 b3
        replace hB := Nm.below_two hB b3
        clear b3 k8 c5
        have r7 := fun i => blk_cell k7 i
        have f7 := fun i => blk_frozen k7 i
        have X := Nm.hide (And.intro (setAll_new [.slice none 0 0, .slice none 0 0, .slice none 0 0] k7 rfl) (setAll_belowP (Nat.le_refl w.heap.size) [.slice none 0 0, .slice none 0 0, .slice none 0 0] 0 _ hB))
        simp only [setAll, Nat.reduceAdd, Nat.zero_add] at X
        clear k7
        go_wp2
        refine says_back X.out.1 rfl rfl rfl ?_
        refine ⟨X.out.2, _, _, _, by rw [HV.out], ⟨⟨_, _, _, rfl⟩, ⟨_, _, _, rfl⟩, ⟨_, _, _, rfl⟩⟩, fun h => ?_⟩
        rw [HV.out] at h
        exact absurd h (by decide)
  | none =>
    rw [hA] at hp
    replace hp : e = .returned (.tuple #[.agg #[.slice none 0 0, .slice none 0 0, .slice none 0 0], .bool false]) := hp
    subst hp
    have hA1 := (Below.refl w1.heap.size w1).alloc (Nat.le_refl _) (.cells #[.slice none 0 0, .slice none 0 0, .slice none 0 0] 68)
    replace k7 := blk_below k7 hA1
    replace hB := Nm.below_two hB hA1
    clear hA1
    go_wp2_with fail
    refine (hpc _ hB).mono ?_
    rintro e w2 ⟨b2, hp⟩
    replace k7 := blk_below k7 b2
    replace hB := Nm.below_two hB b2
    clear b2 hpc
    cases hC : pickB ls x covB with
    | none =>
      rw [hC] at hp
      replace hp : e = .returned (.tuple #[.agg #[.slice none 0 0, .slice none 0 0, .slice none 0 0], .bool false]) := hp
      subst hp
      have HV := Nm.hide (show saysC ls x q = 0 by rw [saysC, hA]; simp [hC])
      have hA1 := (Below.refl w2.heap.size w2).alloc (Nat.le_refl _) (.cells #[.slice none 0 0, .slice none 0 0, .slice none 0 0] 68)
      replace k7 := blk_below k7 hA1
      replace hB := Nm.below_two hB hA1
      clear hA1 hA hC
      have r7 := fun i => blk_cell k7 i
      have f7 := fun i => blk_frozen k7 i
      have X := Nm.hide (And.intro (setAll_new [.slice none 0 0, .slice none 0 0, .slice none 0 0] k7 rfl) (setAll_belowP (Nat.le_refl w.heap.size) [.slice none 0 0, .slice none 0 0, .slice none 0 0] 0 _ hB))
      simp only [setAll, Nat.reduceAdd, Nat.zero_add] at X
      clear k7
      go_wp2
      refine says_back X.out.1 rfl rfl rfl ?_
      refine ⟨X.out.2, _, _, _, by rw [HV.out], ⟨⟨_, _, _, rfl⟩, ⟨_, _, _, rfl⟩, ⟨_, _, _, rfl⟩⟩, fun h => ?_⟩
      rw [HV.out] at h
      exact absurd h (by decide)
    | some l =>
      rw [hC] at hp
      obtain ⟨a, b, c, rfl, hl, kk, hk1, hk2⟩ := hp
      have HK := Nm.hide (HH.out.all kk _ l hk1 hk2)
      clear hk1 hk2
      have hA1 := (Below.refl w2.heap.size w2).alloc (Nat.le_refl _) (.cells #[a, b, c] 68)
      have k8 := blk_new w2 #[a, b, c] 68
      replace k7 := blk_below k7 hA1
      replace hB := Nm.below_two hB hA1
      replace hl := hl.below hA1
      have hsu := strictlyUnder_any b _ l.nx x _ hl.rn (HU.out.below hB) hl.sn hx
      have HL := Nm.hide hl
      obtain ⟨⟨x1, y1, rfl⟩, ⟨x2, y2, rfl⟩, ⟨x3, y3, rfl⟩⟩ := lk_form hl
      have r8 := fun i => blk_cell k8 i
      clear hA1 hl
      cases hS : strB l.nx x with
      | true =>
        rw [hS] at hsu
        have HV := Nm.hide (show saysC ls x q = 1 by rw [saysC, hA]; simp [hC, hS])
        clear hS hA hC
        go_wp2_with fail
        refine hsu.mono ?_
        rintro e w3 ⟨rfl, m3, rfl⟩
        have b3 := below_drewN (w2.alloc (.cells #[.slice x1 l.ow.length y1, .slice x2 l.nx.length y2, .slice x3 l.ty.length y3] 68)) m3
        replace k7 := blk_below k7 b3
        replace hB := Nm.below_two hB b3
        clear b3 k8 r8
        generalize (w2.alloc (.cells #[.slice x1 l.ow.length y1, .slice x2 l.nx.length y2, .slice x3 l.ty.length y3] 68)).drewN m3 = w3 at *
        have r7 := fun i => blk_cell k7 i
        have f7 := fun i => blk_frozen k7 i
        have X := Nm.hide (And.intro (setAll_new [.slice none 0 0, .slice none 0 0, .slice none 0 0] k7 rfl) (setAll_belowP (Nat.le_refl w.heap.size) [.slice none 0 0, .slice none 0 0, .slice none 0 0] 0 _ hB))
        simp only [setAll, Nat.reduceAdd, Nat.zero_add] at X
        clear k7
        go_wp2
        refine says_back X.out.1 rfl rfl rfl ?_
        refine ⟨X.out.2, _, _, _, by rw [HV.out], ⟨⟨_, _, _, rfl⟩, ⟨_, _, _, rfl⟩, ⟨_, _, _, rfl⟩⟩, fun h => ?_⟩
        rw [HV.out] at h
        exact absurd h (by decide)
      | false =>
        rw [hS] at hsu
        have HV := Nm.hide (show saysC ls x q = 2 by rw [saysC, hA]; simp [hC, hS])
        have HC := Nm.hide hC
        clear hS hA hC
        go_wp2_with fail
        refine hsu.mono ?_
        rintro e w3 ⟨rfl, m3, rfl⟩
        have b3 := below_drewN (w2.alloc (.cells #[.slice x1 l.ow.length y1, .slice x2 l.nx.length y2, .slice x3 l.ty.length y3] 68)) m3
        replace k7 := blk_below k7 b3
        replace k8 := blk_below k8 b3
        have hl3 := HL.out.below b3
        replace hB := Nm.below_two hB b3
        clear b3 r8 HL
        generalize (w2.alloc (.cells #[.slice x1 l.ow.length y1, .slice x2 l.nx.length y2, .slice x3 l.ty.length y3] 68)).drewN m3 = w3 at *
        have r7 := fun i => blk_cell k7 i
        have f7 := fun i => blk_frozen k7 i
        have r8 := fun i => blk_cell k8 i
        have X := Nm.hide (And.intro (setAll_new [.slice x1 l.ow.length y1, .slice x2 l.nx.length y2, .slice x3 l.ty.length y3] (blk_below k7 (Below.refl _ _).drew) rfl) (setAll_belowP (Nat.le_refl w.heap.size) [.slice x1 l.ow.length y1, .slice x2 l.nx.length y2, .slice x3 l.ty.length y3] 0 _ hB.drew))
        simp only [setAll, Nat.reduceAdd, Nat.zero_add] at X
        clear k7 k8 hl3
        go_wp2
        go_region
        go_wp2
        refine says_back X.out.1 rfl rfl rfl ?_
        refine ⟨X.out.2, _, _, _, by rw [HV.out], ⟨⟨_, _, _, rfl⟩, ⟨_, _, _, rfl⟩, ⟨_, _, _, rfl⟩⟩, fun h => ⟨l, HC.out, HK.out⟩⟩
end Go.Proofs.Ytkiadnglbjamfaa
