/- laws.markLineS, heldLineS by their contracts. -/
import Derived.Test.YtjbdfooppokonaaDoorLkD
namespace Go.Proofs.YtjbdfooppokonaaDoor
open Go.RowKit
set_option linter.unusedVariables false

theorem bel_row {B e s m : Nat} {w W W1 : World} {v : Value} {xs : List Value} (h : Below B w W) (ho : W.ownsRow B e s v m xs) (hB : B ≤ w.heap.size) (hg : W.grownBy W1 v.ownBlock) : Below B w W1 :=
  ⟨hg.os.trans h.os, hg.tape.trans h.tape, hg.output.trans h.output, Nat.le_trans h.size hg.size, fun k hk => (hg.block k (by have := h.size; omega) (fun e => by have := (ho.lt k e.symm).1; omega)).trans (h.block k hk)⟩

set_option maxRecDepth 100000 in
set_option maxHeartbeats 1600000 in
theorem markLineS_own (v : Value) (ps : List Lp) (B k : Nat) (w : World) (h : LOwn w B v ps) (hB : B ≤ w.heap.size) (hn : ll ps ≤ 400000) (hw : ∀ p ∈ ps, p.1.ws.length ≤ 100000) (hk : k ≤ 100000) :
    Calls Tryd.prog 7 #[v, .int .i64 (k : Int)] w fun e w' => e = .returned (.int .i64 ((k + ll ps : Nat) : Int)) ∧ LOwn w' B v (mkL k ps) ∧ Below B w w' := by
  have hql := ll_len ps
  obtain ⟨a, cap, rfl⟩ := own_sl h.outer
  have hgex : 0 < ps.length → ∃ g, a = some ⟨g, 0, none⟩ := fun hp => by
    rcases h.outer.2 with ⟨e, h0⟩ | ⟨g, c, cur, e, _⟩
    · omega
    · cases e; exact ⟨g, rfl⟩
  have H0 := Nm.hide h
  clear h
  go_enter Tryd.func7, Tryd.ntmps7
  go_wp2
  go_loopw [1, 5] (fun t i wr => ∃ j : Nat, j ≤ ps.length ∧ i = .int .i64 (j : Int) ∧ t = .int .i64 ((k : Int) + (ll (ps.take j) : Int)) ∧ LOwn wr B (.slice a ps.length cap) ((mkL k ps).take j ++ ps.drop j) ∧ Below B w wr) (fun _ i _ => ps.length - (intOf i).toNat)
  case atStart => exact ⟨0, Nat.zero_le _, rfl, by simp [ll], by simpa using H0.out, Below.refl _ _⟩
  case round =>
    obtain ⟨j, hj, rfl, rfl, hz, hbe⟩ := hrel
    by_cases hlt : j < ps.length
    · obtain ⟨q, hq⟩ : ∃ q, ps[j]? = some q := ⟨_, List.getElem?_eq_getElem hlt⟩
      obtain ⟨g, rfl⟩ := hgex (by omega)
      have hmx := mixL_at (k := k) hq
      have hst := ll_step ps j q hq
      have hle := ll_take_le ps (j + 1)
      have hwq := hw q (List.mem_of_getElem? hq)
      have hin := hz.inner j q hmx
      obtain ⟨qa, qc, eq⟩ := own_sl hin
      have hlen9 : ((mkL k ps).take j ++ ps.drop j).length = ps.length := by rw [List.length_append, List.length_take, mkL_len, List.length_drop]; omega
      have hbs := hbe.size
      obtain ⟨K, hK⟩ : ∃ K, Hid (K = k + ll (ps.take j)) := ⟨_, rfl⟩
      have hKi : (k : Int) + (ll (ps.take j) : Int) = (K : Int) := by rw [hK.out]; omega
      have hKb : K ≤ 600000 := by rw [hK.out]; omega
      have hz1 := hz.cell (q := (⟨K, b3 (K + 1), q.1.ws⟩, q.2)) hlen9.symm hmx rfl rfl
      have ho := hz.outer
      rw [hlen9] at ho
      have hgs := gr_trans (gr_set wr g (j * 3) (.int .i64 (K : Int))) (gr_set _ g (j * 3 + 1) (.bool (b3 (K + 1))))
      have hbe1 := bel_row hbe ho hB hgs
      have hget : (((mkL k ps).take j ++ ps.drop j).set j (⟨K, b3 (K + 1), q.1.ws⟩, q.2))[j]? = some (⟨K, b3 (K + 1), q.1.ws⟩, q.2) := by
        rw [List.getElem?_set]
        simp only [if_true]
        rw [if_pos (by omega)]
      have hin1 := hz1.inner j _ hget
      simp only at hin1
      have hm9 := markWordS_own q.2 q.1.ws B (K + 2) _ hin1 hwq (by omega)
      have c0 : ∃ y, wr.cell? ⟨g, j * 3, none⟩ = some y := ⟨_, (ho.cellAt (j * 3) (by omega)).trans (lpVs_at _ j 0 q hmx (by decide))⟩
      have c1 : ∃ y, wr.cell? ⟨g, j * 3 + 1, none⟩ = some y := ⟨_, (ho.cellAt (j * 3 + 1) (by omega)).trans (lpVs_at _ j 1 q hmx (by decide))⟩
      obtain ⟨y0, c0⟩ := c0
      obtain ⟨y1, c1⟩ := c1
      have c2 : wr.cell? ⟨g, j * 3 + 2, none⟩ = some q.2 := (ho.cellAt (j * 3 + 2) (by omega)).trans (lpVs_at _ j 2 q hmx (by decide))
      have fz := fun i => ho.frozenAt i
      have HFIN : ∀ w2, w2.ownsRow B 62 2 q.2 q.1.ws.length (wdVs (mkWs (K + 2) q.1.ws.length)) → ((wr.setCell ⟨g, j * 3, none⟩ (.int .i64 (K : Int))).setCell ⟨g, j * 3 + 1, none⟩ (.bool (b3 (K + 1)))).grownBy w2 q.2.ownBlock → LOwn w2 B (.slice (some ⟨g, 0, none⟩) ps.length cap) ((mkL k ps).take (j + 1) ++ ps.drop (j + 1)) ∧ Below B w w2 := by
        intro w2 h1 h2
        have hd := hz1.data (ws := mkWs (K + 2) q.1.ws.length) hget (by rw [mkWs_len]) h1 h2
        rw [List.set_set] at hd
        refine ⟨?_, bel_row hbe1 hin1 hB h2⟩
        rw [← mixL_set hq, ← hK.out]
        exact hd
      rw [eq] at hm9 c2 HFIN
      rw [show ((K + 2 : Nat) : Int) = (K : Int) + 1 + 1 by omega, show ((K + 2 + 2 * q.1.ws.length : Nat) : Int) = (k : Int) + (ll (ps.take (j + 1)) : Int) by rw [hK.out]; omega] at hm9
      have hbb : (((K : Int) + 1) % 3 == 0) = b3 (K + 1) := by rw [← b3_int]; congr 2
      have HF2 := Nm.hide HFIN
      have HZ := Nm.hide (show (j + 1 ≤ ps.length) by omega)
      have i1 : (0 : Int) ≤ (j : Int) := by omega
      have i2 : (j : Int) < (ps.length : Int) := by omega
      rw [hKi]
      generalize b3 (K + 1) = bb at *
      clear HFIN hz hz1 hin hin1 hget hmx hgs hbe hbe1 ho hst hle eq hq hKi
      go_wp2_with (go_at_call 16; refine hm9.mono ?_; rintro e w2 ⟨rfl, h1, h2⟩)
      go_roundw
      case rel => exact ⟨j + 1, HZ.out, by go_num, rfl, HF2.out _ h1 h2⟩
      case measure => simp [intOf]; omega
    · have hjn : j = ps.length := by omega
      subst hjn
      have HR : Hid (LOwn wr B (.slice a ps.length cap) (mkL k ps)) := by
        show LOwn _ _ _ _
        rw [List.take_of_length_le (by rw [mkL_len]; omega), List.drop_of_length_le (by omega), List.append_nil] at hz
        exact hz
      rw [List.take_length]
      clear hz
      go_wp2
      go_ret
      exact ⟨by rw [show ((k + ll ps : Nat) : Int) = (k : Int) + (ll ps : Int) by omega]; rfl, HR.out, hbe⟩

set_option maxRecDepth 100000 in
set_option maxHeartbeats 1600000 in
theorem heldLineS_any (v : Value) (ps : List Lp) (B k : Nat) (w : World) (h : LOwn w B v (mkL k ps)) (hn : ll ps ≤ 400000) (hw : ∀ p ∈ ps, p.1.ws.length ≤ 100000) (hk : k ≤ 100000) :
    Calls Tryd.prog 8 #[v, .int .i64 (k : Int)] w fun e w' => e = .returned (.int .i64 ((k + ll ps : Nat) : Int)) ∧ Below w.heap.size w w' := by
  have hql := ll_len ps
  have ho := h.outer
  rw [mkL_len] at ho
  obtain ⟨a, cap, rfl⟩ := own_sl ho
  have hgex : 0 < ps.length → ∃ g, a = some ⟨g, 0, none⟩ := fun hp => by
    rcases ho.2 with ⟨e, h0⟩ | ⟨g, c, cur, e, _⟩
    · omega
    · cases e; exact ⟨g, rfl⟩
  have H0 := Nm.hide (And.intro h ho)
  clear h ho
  go_enter Tryd.func8, Tryd.ntmps8
  go_wp2
  go_loopw [1, 5] (fun t i wr => ∃ j : Nat, j ≤ ps.length ∧ i = .int .i64 (j : Int) ∧ t = .int .i64 ((k : Int) + (ll (ps.take j) : Int)) ∧ Below w.heap.size w wr) (fun _ i _ => ps.length - (intOf i).toNat)
  case atStart => exact ⟨0, Nat.zero_le _, rfl, by simp [ll], Below.refl _ _⟩
  case round =>
    obtain ⟨j, hj, rfl, rfl, hbel⟩ := hrel
    by_cases hlt : j < ps.length
    · obtain ⟨q, hq⟩ : ∃ q, ps[j]? = some q := ⟨_, List.getElem?_eq_getElem hlt⟩
      obtain ⟨g, rfl⟩ := hgex (by omega)
      have hmq := mkL_get ps k j q hq
      have hst := ll_step ps j q hq
      have hle := ll_take_le ps (j + 1)
      have hwq := hw q (List.mem_of_getElem? hq)
      obtain ⟨K, hK⟩ : ∃ K, Hid (K = k + ll (ps.take j)) := ⟨_, rfl⟩
      have hKi : (k : Int) + (ll (ps.take j) : Int) = (K : Int) := by rw [hK.out]; omega
      have hKb : K ≤ 600000 := by rw [hK.out]; omega
      rw [← hK.out] at hmq
      have o1 := own_below H0.out.2 hbel
      have hin := own_below (H0.out.1.inner j _ hmq) hbel
      simp only [mkLp, mkWs_len] at hin
      obtain ⟨qa, qc, eq⟩ := own_sl hin
      have c0 : wr.cell? ⟨g, j * 3, none⟩ = some (.int .i64 (K : Int)) := (o1.cellAt (j * 3) (by omega)).trans (lpVs_at _ j 0 _ hmq (by decide))
      have c1 : wr.cell? ⟨g, j * 3 + 1, none⟩ = some (.bool (b3 (K + 1))) := (o1.cellAt (j * 3 + 1) (by omega)).trans (lpVs_at _ j 1 _ hmq (by decide))
      have c2 : wr.cell? ⟨g, j * 3 + 2, none⟩ = some q.2 := (o1.cellAt (j * 3 + 2) (by omega)).trans (lpVs_at _ j 2 (mkLp K q) hmq (by decide))
      have hm9 := heldWordS_any q.2 q.1.ws.length B (K + 2) wr hin hwq (by omega)
      rw [eq] at hm9 c2
      rw [show ((K + 2 : Nat) : Int) = (K : Int) + 1 + 1 by omega, show ((K + 2 + 2 * q.1.ws.length : Nat) : Int) = (k : Int) + (ll (ps.take (j + 1)) : Int) by rw [hK.out]; omega] at hm9
      have hbb : (((K : Int) + 1) % 3 == 0) = b3 (K + 1) := by rw [← b3_int]; congr 2
      have hge : 0 ≤ (k : Int) + (ll (ps.take (j + 1)) : Int) := by omega
      have HZ := Nm.hide (show (j + 1 ≤ ps.length) by omega)
      have i1 : (0 : Int) ≤ (j : Int) := by omega
      have i2 : (j : Int) < (ps.length : Int) := by omega
      have hkk : ((K : Int) == (K : Int)) = true := by simp
      rw [hKi]
      generalize b3 (K + 1) = bb at *
      have hbq : (bb == bb) = true := by simp
      clear hin o1 hst hle eq hq hKi hmq
      go_wp2_with (go_at_call 17; refine hm9.mono ?_; rintro e w2 ⟨rfl, hb2⟩)
      go_roundw
      case rel => exact ⟨j + 1, HZ.out, by go_num, rfl, Nm.below_two hbel hb2⟩
      case measure => simp [intOf]; omega
    · have hjn : j = ps.length := by omega
      subst hjn
      rw [List.take_length]
      go_wp2
      go_ret
      exact ⟨by rw [show ((k + ll ps : Nat) : Int) = (k : Int) + (ll ps : Int) by omega]; rfl, hbel⟩
end Go.Proofs.YtjbdfooppokonaaDoor
