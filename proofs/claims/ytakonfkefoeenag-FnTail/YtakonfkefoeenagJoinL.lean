/- (labelList).join by its contract. -/
import Derived.Test.YtakonfkefoeenagSplit
import Derived.Test.YtakonfkefoeenagLab
import Derived.Laws.AppendOwnNone
namespace Go.Proofs.Ytakonfkefoeenag
open Go.RowKit

theorem srow_news {w : World} {ad : Addr} {n cap : Nat} {xs : List ByteArray} (h : Nm.SRow w (.slice (some ad) n cap) xs) : ∀ j u, (xs.map Value.string)[j]? = some u → w.cell? (ad.add j) = some u := by
  obtain ⟨a', cap', e, h1, h2, h3, h4⟩ := h
  simp only [Value.slice.injEq] at e
  obtain ⟨rfl, _, rfl⟩ := e
  intro j u hj
  have hne : xs ≠ [] := by intro h; rw [h] at hj; simp at hj
  obtain ⟨b, off, e2, hc⟩ := h4 hne
  simp only [Option.some.injEq] at e2
  subst e2
  rw [List.getElem?_map] at hj
  cases hx : xs[j]? with
  | none => rw [hx] at hj; simp at hj
  | some x =>
    rw [hx] at hj
    simp at hj
    rw [Nm.addr_add, ← hj]
    exact hc j x hx

theorem srow_none {w : World} {n cap : Nat} {xs : List ByteArray} (h : Nm.SRow w (.slice none n cap) xs) : xs = [] ∧ n = 0 ∧ cap = 0 := by
  obtain ⟨a', cap', e, h1, h2, h3, h4⟩ := h
  simp only [Value.slice.injEq] at e
  obtain ⟨rfl, rfl, rfl⟩ := e
  have := h3 rfl
  have h0 : xs.length = 0 := by omega
  exact ⟨List.length_eq_zero_iff.1 h0, h0, this⟩

theorem strs_oneCell (xs : List ByteArray) : ∀ u ∈ xs.map Value.string, u.oneCell' = true := by
  intro u hu
  obtain ⟨x, _, rfl⟩ := List.mem_map.1 hu
  rfl

theorem strs_step {W wr w1 : World} {v v' : Value} {B e n m : Nat} {xs ys : List ByteArray} (hB : B ≤ wr.heap.size)
    (hown : wr.ownsRow B e 1 v n (xs.map Value.string)) (hbel : Below B W wr)
    (hown' : w1.ownsRow B e 1 v' (n + m) (xs.map Value.string ++ ys.map Value.string)) (hgrow : wr.grownBy w1 v.ownBlock) :
    w1.ownsRow B e 1 v' (n + m) ((xs ++ ys).map Value.string) ∧ Below B W w1 :=
  ⟨by rw [List.map_append]; exact hown', hbel.grown hgrow hB (fun k hk => (hown.lt k hk).1)⟩

theorem nil_row {w w1 : World} {B e : Nat} {v : Value} (h : w1.ownsRow B e 1 v 0 []) (hb : Below B w w1) : w1.ownsRow B e 1 v 0 (([] : List ByteArray).map Value.string) ∧ Below B w w1 := ⟨h, hb⟩

set_option maxRecDepth 100000 in
set_option maxHeartbeats 800000 in
theorem join_any (v u : Value) (xs ys : List ByteArray) (w : World) (h : Nm.SRow w v xs) (h' : Nm.SRow w u ys) (hlx : xs.length ≤ 1000000) (hly : ys.length ≤ 1000000) :
    Calls Try.prog 41 #[v, u] w fun e w' => ∃ t, e = .returned t ∧ w'.ownsRow w.heap.size 9 1 t (xs ++ ys).length ((xs ++ ys).map Value.string) ∧ Below w.heap.size w w' := by
  obtain ⟨i0, hi, hz0, hz1, hz2⟩ := info_parts Try.infoStr
  have hr := h
  have hr' := h'
  obtain ⟨a, cap, rfl, hcap, hmx, hnl, hc⟩ := h
  obtain ⟨a', cap', rfl, hcap', hmx', hnl', hc'⟩ := h'
  clear hc hc' hnl hnl'
  cases a with
  | some ad =>
    cases a' with
    | some ad' =>
      go_enter Try.func41, Try.ntmps41
      go_wp2_with (first | (at_make; refine wpList_make_own _ rfl _ _ 76 rfl w.heap.size 9 i0 (.string ByteArray.empty) 1 Try.underlying76 hi hz0 hz1 .i64 .i64 _ (xs.length + ys.length) rfl rfl (by omega) (by rw [hz2]; omega) (by unfold maxLen; omega) (Nat.le_refl _) ?_; intro w1 hown0 hgrow0; have hb1 := (Below.refl w.heap.size w).grown hgrow0 (Nat.le_refl _) (fun k hk => by cases hk); have hs1 := hb1.size) | (at_builtin; refine wpList_append_own _ rfl (.tmp 12) (.tmp 13) 76 rfl w.heap.size 9 i0 (.string ByteArray.empty) 1 16 Try.underlying76 hi hz0 hz1 hz2 rfl (by decide) _ _ _ rfl hown0 ad xs.length cap (xs.map Value.string) rfl (by simp) (srow_news (hr.below hb1)) (strs_oneCell _) (by unfold maxLen; omega) (by omega) hs1 ?_; intro v2 w2 hown1 hgrow1 hnl1; clear hnl1; have R1 := strs_step (xs := []) hs1 hown0 hb1 hown1 hgrow1; clear hown1 hgrow1; have hs2 := R1.2.size) | (at_builtin; refine wpList_append_own _ rfl (.tmp 15) (.tmp 16) 76 rfl w.heap.size 9 i0 (.string ByteArray.empty) 1 16 Try.underlying76 hi hz0 hz1 hz2 rfl (by decide) _ _ _ rfl R1.1 ad' ys.length cap' (ys.map Value.string) rfl (by simp) (srow_news (hr'.below R1.2)) (strs_oneCell _) (by unfold maxLen; omega) (by omega) hs2 ?_; intro v3 w3 hown3 hgrow3 hnl3; clear hnl3; have R3 := strs_step hs2 R1.1 R1.2 hown3 hgrow3; clear hown3 hgrow3))
      go_ret
      exact ⟨_, rfl, by simpa using R3.1, R3.2⟩
    | none =>
      obtain ⟨rfl, _, rfl⟩ := srow_none hr'
      go_enter Try.func41, Try.ntmps41
      go_wp2_with (first | (at_make; refine wpList_make_own _ rfl _ _ 76 rfl w.heap.size 9 i0 (.string ByteArray.empty) 1 Try.underlying76 hi hz0 hz1 .i64 .i64 _ (xs.length) rfl rfl (by omega) (by rw [hz2]; omega) (by unfold maxLen; omega) (Nat.le_refl _) ?_; intro w1 hown0 hgrow0; have hb1 := (Below.refl w.heap.size w).grown hgrow0 (Nat.le_refl _) (fun k hk => by cases hk); have hs1 := hb1.size) | (at_builtin; refine wpList_append_own _ rfl (.tmp 12) (.tmp 13) 76 rfl w.heap.size 9 i0 (.string ByteArray.empty) 1 16 Try.underlying76 hi hz0 hz1 hz2 rfl (by decide) _ _ _ rfl hown0 ad xs.length cap (xs.map Value.string) rfl (by simp) (srow_news (hr.below hb1)) (strs_oneCell _) (by unfold maxLen; omega) (by omega) hs1 ?_; intro v2 w2 hown1 hgrow1 hnl1; clear hnl1; have R1 := strs_step (xs := []) hs1 hown0 hb1 hown1 hgrow1; clear hown1 hgrow1; have hs2 := R1.2.size) | (at_builtin; refine wpList_append_own_none rfl (.tmp 15) (.tmp 16) 76 rfl w.heap.size 9 i0 1 Try.underlying76 hi _ _ _ rfl R1.1 rfl ?_; have R3 := R1))
      go_ret
      exact ⟨_, rfl, by simpa using R3.1, R3.2⟩
  | none =>
    obtain ⟨rfl, _, rfl⟩ := srow_none hr
    cases a' with
    | some ad' =>
      go_enter Try.func41, Try.ntmps41
      go_wp2_with (first | (at_make; refine wpList_make_own _ rfl _ _ 76 rfl w.heap.size 9 i0 (.string ByteArray.empty) 1 Try.underlying76 hi hz0 hz1 .i64 .i64 _ (ys.length) rfl rfl (by omega) (by rw [hz2]; omega) (by unfold maxLen; omega) (Nat.le_refl _) ?_; intro w1 hown0 hgrow0; have hb1 := (Below.refl w.heap.size w).grown hgrow0 (Nat.le_refl _) (fun k hk => by cases hk); have hs1 := hb1.size) | (at_builtin; refine wpList_append_own_none rfl (.tmp 12) (.tmp 13) 76 rfl w.heap.size 9 i0 1 Try.underlying76 hi _ _ _ rfl hown0 rfl ?_; have R1 := nil_row hown0 hb1; have hs2 := hs1) | (at_builtin; refine wpList_append_own _ rfl (.tmp 15) (.tmp 16) 76 rfl w.heap.size 9 i0 (.string ByteArray.empty) 1 16 Try.underlying76 hi hz0 hz1 hz2 rfl (by decide) _ _ _ rfl R1.1 ad' ys.length cap' (ys.map Value.string) rfl (by simp) (srow_news (hr'.below R1.2)) (strs_oneCell _) (by unfold maxLen; omega) (by omega) hs2 ?_; intro v3 w3 hown3 hgrow3 hnl3; clear hnl3; have R3 := strs_step hs2 R1.1 R1.2 hown3 hgrow3; clear hown3 hgrow3))
      go_ret
      exact ⟨_, rfl, by simpa using R3.1, R3.2⟩
    | none =>
      obtain ⟨rfl, _, rfl⟩ := srow_none hr'
      go_enter Try.func41, Try.ntmps41
      go_wp2_with (first | (at_make; refine wpList_make_own _ rfl _ _ 76 rfl w.heap.size 9 i0 (.string ByteArray.empty) 1 Try.underlying76 hi hz0 hz1 .i64 .i64 _ (0) rfl rfl (by omega) (by rw [hz2]; omega) (by unfold maxLen; omega) (Nat.le_refl _) ?_; intro w1 hown0 hgrow0; have hb1 := (Below.refl w.heap.size w).grown hgrow0 (Nat.le_refl _) (fun k hk => by cases hk); have hs1 := hb1.size) | (at_builtin; refine wpList_append_own_none rfl (.tmp 12) (.tmp 13) 76 rfl w.heap.size 9 i0 1 Try.underlying76 hi _ _ _ rfl hown0 rfl ?_; have R1 := nil_row hown0 hb1; have hs2 := hs1) | (at_builtin; refine wpList_append_own_none rfl (.tmp 15) (.tmp 16) 76 rfl w.heap.size 9 i0 1 Try.underlying76 hi _ _ _ rfl R1.1 rfl ?_; have R3 := R1))
      go_ret
      exact ⟨_, rfl, by simpa using R3.1, R3.2⟩
end Go.Proofs.Ytakonfkefoeenag
