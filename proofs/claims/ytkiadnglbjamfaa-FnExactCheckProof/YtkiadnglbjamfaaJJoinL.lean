import Derived.Test.YtkiadnglbjamfaaJSplit
import Derived.Test.YtkiadnglbjamfaaJMath
import Derived.Laws.AppendOwnNone
import Derived.Test.YtkiadnglbjamfaaPfZ
import Derived.Test.YtkiadnglbjamfaaPfW
/- (labelList).join by its contract. -/
namespace Go.Proofs.Ytkiadnglbjamfaa
open Go.RowKit

theorem srow_news {w : World} {ad : Addr} {n cap : Nat} {xs : List ByteArray} (h : Nm.SRow w (.slice (some ad) n cap) xs) : ∀ j u, (xs.map Value.string)[j]? = some u → w.cell? (ad.add j) = some u := by
  obtain ⟨a', cap', e, h1, h2, h3, h4⟩ := h
  simp only [Value.slice.injEq] at e
  obtain ⟨rfl, _, rfl⟩ := e
  intro j u hj
  have hne : xs ≠ [] := by intro h; rw [h] at hj; simp at hj
  obtain ⟨b, off, e2, hc⟩ := h4 hne
  simp only [Option.some.injEq] at e2
  subst e2
  rw [List.getElem?_map] at hj
  cases hx : xs[j]? with
  | none => rw [hx] at hj; simp at hj
  | some x =>
    rw [hx] at hj
    simp at hj
    rw [Nm.addr_add, ← hj]
    exact hc j x hx

theorem srow_none {w : World} {n cap : Nat} {xs : List ByteArray} (h : Nm.SRow w (.slice none n cap) xs) : xs = [] ∧ n = 0 ∧ cap = 0 := by
  obtain ⟨a', cap', e, h1, h2, h3, h4⟩ := h
  simp only [Value.slice.injEq] at e
  obtain ⟨rfl, rfl, rfl⟩ := e
  have := h3 rfl
  have h0 : xs.length = 0 := by omega
  exact ⟨List.length_eq_zero_iff.1 h0, h0, this⟩

theorem strs_oneCell (xs : List ByteArray) : ∀ u ∈ xs.map Value.string, u.oneCell' = true := by
  intro u hu
  obtain ⟨x, _, rfl⟩ := List.mem_map.1 hu
  rfl

theorem strs_step {W wr w1 : World} {v v' : Value} {B e n m : Nat} {xs ys : List ByteArray} (hB : B ≤ wr.heap.size)
    (hown : wr.ownsRow B e 1 v n (xs.map Value.string)) (hbel : Below B W wr)
    (hown' : w1.ownsRow B e 1 v' (n + m) (xs.map Value.string ++ ys.map Value.string)) (hgrow : wr.grownBy w1 v.ownBlock) :
    w1.ownsRow B e 1 v' (n + m) ((xs ++ ys).map Value.string) ∧ Below B W w1 :=
  ⟨by rw [List.map_append]; exact hown', hbel.grown hgrow hB (fun k hk => (hown.lt k hk).1)⟩

theorem nil_row {w w1 : World} {B e : Nat} {v : Value} (h : w1.ownsRow B e 1 v 0 []) (hb : Below B w w1) : w1.ownsRow B e 1 v 0 (([] : List ByteArray).map Value.string) ∧ Below B w w1 := ⟨h, hb⟩

set_option maxRecDepth 100000 in
set_option maxHeartbeats 800000 in
theorem join_any (v u : Value) (xs ys : List ByteArray) (w : World) (h : Nm.SRow w v xs) (h' : Nm.SRow w u ys) (hlx : xs.length ≤ 1000000) (hly : ys.length ≤ 1000000) :
    Calls Try.prog 39 #[v, u] w fun e w' => ∃ t, e = .returned t ∧ w'.ownsRow w.heap.size 9 1 t (xs ++ ys).length ((xs ++ ys).map Value.string) ∧ Below w.heap.size w w' := by
  obtain ⟨i0, hi, hz0, hz1, hz2⟩ := info_parts Try.infoStr
  have hr := h
  have hr' := h'
  obtain ⟨a, cap, rfl, hcap, hmx, hnl, hc⟩ := h
  obtain ⟨a', cap', rfl, hcap', hmx', hnl', hc'⟩ := h'
  clear hc hc' hnl hnl'
  cases a with
  | some ad =>
    cases a' with
    | some ad' =>
      go_enter Try.func39, Try.ntmps39
      go_wp2_with (first | (at_make; refine wpList_make_own _ rfl _ _ 48 rfl w.heap.size 9 i0 (.string ByteArray.empty) 1 Try.underlying48 hi hz0 hz1 .i64 .i64 _ (xs.length + ys.length) rfl rfl (by omega) (by rw [hz2]; omega) (by unfold maxLen; omega) (Nat.le_refl _) ?_; intro w1 hown0 hgrow0; have hb1 := (Below.refl w.heap.size w).grown hgrow0 (Nat.le_refl _) (fun k hk => by cases hk); have hs1 := hb1.size) | (at_builtin; refine wpList_append_own _ rfl (.tmp 12) (.tmp 13) 48 rfl w.heap.size 9 i0 (.string ByteArray.empty) 1 16 Try.underlying48 hi hz0 hz1 hz2 rfl (by decide) _ _ _ rfl hown0 ad xs.length cap (xs.map Value.string) rfl (by simp) (srow_news (hr.below hb1)) (strs_oneCell _) (by unfold maxLen; omega) (by omega) hs1 ?_; intro v2 w2 hown1 hgrow1 hnl1; clear hnl1; have R1 := strs_step (xs := []) hs1 hown0 hb1 hown1 hgrow1; clear hown1 hgrow1; have hs2 := R1.2.size) | (at_builtin; refine wpList_append_own _ rfl (.tmp 15) (.tmp 16) 48 rfl w.heap.size 9 i0 (.string ByteArray.empty) 1 16 Try.underlying48 hi hz0 hz1 hz2 rfl (by decide) _ _ _ rfl R1.1 ad' ys.length cap' (ys.map Value.string) rfl (by simp) (srow_news (hr'.below R1.2)) (strs_oneCell _) (by unfold maxLen; omega) (by omega) hs2 ?_; intro v3 w3 hown3 hgrow3 hnl3; clear hnl3; have R3 := strs_step hs2 R1.1 R1.2 hown3 hgrow3; clear hown3 hgrow3))
      go_ret
      exact ⟨_, rfl, by simpa using R3.1, R3.2⟩
    | none =>
      obtain ⟨rfl, _, rfl⟩ := srow_none hr'
      go_enter Try.func39, Try.ntmps39
      go_wp2_with (first | (at_make; refine wpList_make_own _ rfl _ _ 48 rfl w.heap.size 9 i0 (.string ByteArray.empty) 1 Try.underlying48 hi hz0 hz1 .i64 .i64 _ (xs.length) rfl rfl (by omega) (by rw [hz2]; omega) (by unfold maxLen; omega) (Nat.le_refl _) ?_; intro w1 hown0 hgrow0; have hb1 := (Below.refl w.heap.size w).grown hgrow0 (Nat.le_refl _) (fun k hk => by cases hk); have hs1 := hb1.size) | (at_builtin; refine wpList_append_own _ rfl (.tmp 12) (.tmp 13) 48 rfl w.heap.size 9 i0 (.string ByteArray.empty) 1 16 Try.underlying48 hi hz0 hz1 hz2 rfl (by decide) _ _ _ rfl hown0 ad xs.length cap (xs.map Value.string) rfl (by simp) (srow_news (hr.below hb1)) (strs_oneCell _) (by unfold maxLen; omega) (by omega) hs1 ?_; intro v2 w2 hown1 hgrow1 hnl1; clear hnl1; have R1 := strs_step (xs := []) hs1 hown0 hb1 hown1 hgrow1; clear hown1 hgrow1; have hs2 := R1.2.size) | (at_builtin; refine wpList_append_own_none rfl (.tmp 15) (.tmp 16) 48 rfl w.heap.size 9 i0 1 Try.underlying48 hi _ _ _ rfl R1.1 rfl ?_; have R3 := R1))
      go_ret
      exact ⟨_, rfl, by simpa using R3.1, R3.2⟩
  | none =>
    obtain ⟨rfl, _, rfl⟩ := srow_none hr
    cases a' with
    | some ad' =>
      go_enter Try.func39, Try.ntmps39
      go_wp2_with (first | (at_make; refine wpList_make_own _ rfl _ _ 48 rfl w.heap.size 9 i0 (.string ByteArray.empty) 1 Try.underlying48 hi hz0 hz1 .i64 .i64 _ (ys.length) rfl rfl (by omega) (by rw [hz2]; omega) (by unfold maxLen; omega) (Nat.le_refl _) ?_; intro w1 hown0 hgrow0; have hb1 := (Below.refl w.heap.size w).grown hgrow0 (Nat.le_refl _) (fun k hk => by cases hk); have hs1 := hb1.size) | (at_builtin; refine wpList_append_own_none rfl (.tmp 12) (.tmp 13) 48 rfl w.heap.size 9 i0 1 Try.underlying48 hi _ _ _ rfl hown0 rfl ?_; have R1 := nil_row hown0 hb1; have hs2 := hs1) | (at_builtin; refine wpList_append_own _ rfl (.tmp 15) (.tmp 16) 48 rfl w.heap.size 9 i0 (.string ByteArray.empty) 1 16 Try.underlying48 hi hz0 hz1 hz2 rfl (by decide) _ _ _ rfl R1.1 ad' ys.length cap' (ys.map Value.string) rfl (by simp) (srow_news (hr'.below R1.2)) (strs_oneCell _) (by unfold maxLen; omega) (by omega) hs2 ?_; intro v3 w3 hown3 hgrow3 hnl3; clear hnl3; have R3 := strs_step hs2 R1.1 R1.2 hown3 hgrow3; clear hown3 hgrow3))
      go_ret
      exact ⟨_, rfl, by simpa using R3.1, R3.2⟩
    | none =>
      obtain ⟨rfl, _, rfl⟩ := srow_none hr'
      go_enter Try.func39, Try.ntmps39
      go_wp2_with (first | (at_make; refine wpList_make_own _ rfl _ _ 48 rfl w.heap.size 9 i0 (.string ByteArray.empty) 1 Try.underlying48 hi hz0 hz1 .i64 .i64 _ (0) rfl rfl (by omega) (by rw [hz2]; omega) (by unfold maxLen; omega) (Nat.le_refl _) ?_; intro w1 hown0 hgrow0; have hb1 := (Below.refl w.heap.size w).grown hgrow0 (Nat.le_refl _) (fun k hk => by cases hk); have hs1 := hb1.size) | (at_builtin; refine wpList_append_own_none rfl (.tmp 12) (.tmp 13) 48 rfl w.heap.size 9 i0 1 Try.underlying48 hi _ _ _ rfl hown0 rfl ?_; have R1 := nil_row hown0 hb1; have hs2 := hs1) | (at_builtin; refine wpList_append_own_none rfl (.tmp 15) (.tmp 16) 48 rfl w.heap.size 9 i0 1 Try.underlying48 hi _ _ _ rfl R1.1 rfl ?_; have R3 := R1))
      go_ret
      exact ⟨_, rfl, by simpa using R3.1, R3.2⟩
end Go.Proofs.Ytkiadnglbjamfaa
/- (linkList).check by its contract. -/
namespace Go.Proofs.Ytkiadnglbjamfaa
open Go.RowKit
set_option linter.unusedVariables false

theorem near_drop (l : Lk) : ∀ y : List ByteArray, ∃ k, nearB l y = y.drop k := by
  intro y
  induction y with
  | nil => exact ⟨0, rfl⟩
  | cons a t ih =>
    rw [nearB]
    split
    · exact ⟨0, rfl⟩
    · obtain ⟨k, hk⟩ := ih
      exact ⟨k + 1, by rw [hk]; rfl⟩
theorem near_few {l : Lk} {x : List ByteArray} (h : Few x) : Few (nearB l (x.drop 1)) := by
  obtain ⟨k, hk⟩ := near_drop l (x.drop 1)
  rw [hk]
  exact few_drop (few_drop h 1) k
theorem star_few {x : List ByteArray} {l : Lk} (h : Few x) (h1 : 0 < x.length) : Few (starL :: nearB l (x.drop 1)) := by
  obtain ⟨k, hk⟩ := near_drop l (x.drop 1)
  have hf := near_few (l := l) h
  refine ⟨?_, ?_⟩
  · intro y hy
    rcases List.mem_cons.1 hy with rfl | hy
    · decide
    · exact hf.1 y hy
  · rw [List.length_cons, hk, List.length_drop, List.length_drop]
    have := h.2
    omega
theorem srow_made (w : World) (s : ByteArray) : Nm.SRow (w.alloc (.cells #[.string s] 9)) (.slice (some ⟨w.heap.size, 0, none⟩) 1 1) [s] := by
  refine ⟨_, 1, rfl, by simp, by decide, by simp, fun _ => ⟨w.heap.size, 0, rfl, fun i x hx => ?_⟩⟩
  rw [World.cell?_alloc_new]
  cases i with
  | zero => simp at hx; subst hx; simp
  | succ i => simp at hx

set_option maxRecDepth 100000 in
set_option maxHeartbeats 1600000 in
theorem check_any (v u : Value) (ls : List Lk) (vs : List (Value × Value × Value)) (x : List ByteArray) (q : Int) (w : World) (h : LkS w v ls vs) (hlen : ls.length ≤ 20) (hu : Nm.SRow w u x) (hx : Few x) :
    Calls Try.prog 24 #[v, u, .int .i64 q] w fun e w' => e = .returned (.int .i64 (checkC ls x q)) ∧ Below w.heap.size w w' := by
  have hs1 := says_any v u ls vs x q w h hlen hu hx
  have HH := Nm.hide h
  have HU := Nm.hide hu
  obtain ⟨_, va, vcap, rfl, hcap, hmx, hc⟩ := h.row
  obtain ⟨xu, yu, rfl, _⟩ := hu
  clear hc h
  unfold Said at hs1
  go_enter Try.func24, Try.ntmps24
  go_wp2_with fail
  refine hs1.mono ?_
  rintro e w1 ⟨b1, a, b, c, rfl, hs3l, hl⟩
  clear hs1
  by_cases h2 : saysC ls x q = 2
  · clear hs3l
    obtain ⟨l, hp, hlv⟩ := hl h2
    have hp1 := pick_cov_pos hp
    have HC := Nm.hide (show checkC ls x q = saysC ls (starL :: nearB l (x.drop 1)) q by rw [checkC, if_pos h2, hp])
    rw [h2]
    clear h2 hl hp
    have hA1 := (Below.refl w1.heap.size w1).alloc (Nat.le_refl _) (.cells #[a, b, c] 68)
    have k8 := blk_new w1 #[a, b, c] 68
    have B1 := Nm.below_two b1 hA1
    obtain ⟨W1, hW1⟩ : ∃ W, W = w1.alloc (.cells #[a, b, c] 68) := ⟨_, rfl⟩
    have hA2 := (Below.refl W1.heap.size W1).alloc (Nat.le_refl _) (.cells #[.string ⟨#[42]⟩] 9)
    have hro := srow_made W1 ⟨#[42]⟩
    rw [hW1] at hA2 hro
    rw [World.size_alloc] at hro
    have B2 := Nm.below_two B1 hA2
    have hcl := closest_any a b c _ l x _ (hlv.below B2) (HU.out.below B2) hx hp1
    obtain ⟨⟨x1, y1, rfl⟩, ⟨x2, y2, rfl⟩, ⟨x3, y3, rfl⟩⟩ := lk_form hlv
    have k8' := blk_below k8 hA2
    have r8 := fun i => blk_cell k8' i
    have HS := Nm.hide (show Nm.SRow _ _ [starL] from hro)
    clear hW1 hro hA1 hlv k8
    have hfE := near_few (l := l) hx
    have hfS := star_few (l := l) hx hp1
    generalize nearB l (x.drop 1) = E at *
    go_wp2_with fail
    refine hcl.mono ?_
    rintro e w3 ⟨v3, rfl, hs3, b3⟩
    have B3 := Nm.below_two B2 b3
    have hj := join_any _ v3 [starL] E w3 (HS.out.below b3) hs3 (by decide) (by have := hfE.2; omega)
    obtain ⟨xv, yv, rfl, _⟩ := hs3
    go_wp2_with fail
    refine hj.mono ?_
    rintro e w4 ⟨v4, rfl, ho4, b4⟩
    have B4 := Nm.below_two B3 b4
    have hs4 := Nm.SRow.of_owns ho4
    rw [List.singleton_append] at hs4
    have hs2 := says_any _ v4 ls vs (starL :: E) q w4 (HH.out.below B4) hlen hs4 hfS
    unfold Said at hs2
    obtain ⟨xw, yw, rfl, _⟩ := hs4
    clear ho4 hj hcl
    go_wp2_with fail
    refine hs2.mono ?_
    rintro e w5 ⟨b5, a5, b6, c5, rfl, ⟨⟨i1, i2, i3, rfl⟩, ⟨i4, i5, i6, rfl⟩, ⟨i7, i8, i9, rfl⟩⟩, _⟩
    go_wp2
    go_ret
    rw [HC.out]
    exact ⟨rfl, Nm.below_two B4 b5⟩
  · have HC := Nm.hide (show checkC ls x q = saysC ls x q by rw [checkC, if_neg h2])
    have h2' : (saysC ls x q != 2) = true := by simp [h2]
    obtain ⟨⟨i1, i2, i3, rfl⟩, ⟨i4, i5, i6, rfl⟩, ⟨i7, i8, i9, rfl⟩⟩ := hs3l
    clear hl h2
    generalize saysC ls x q = S at *
    go_wp2
    go_ret
    rw [HC.out]
    exact ⟨rfl, b1.alloc b1.size _⟩
end Go.Proofs.Ytkiadnglbjamfaa
