import Derived.Test.YtkiadnglbjamfaaJCRow
import Derived.Test.YtkiadnglbjamfaaSSplit
import Derived.Test.YtkiadnglbjamfaaJConvOne
import Derived.Test.YtkiadnglbjamfaaPfL
import Derived.Test.YtkiadnglbjamfaaJPfD
/- spec.Ancestor by its contract. -/
namespace Go.Proofs.Ytkiadnglbjamfaa
open Go.RowKit

set_option maxRecDepth 100000 in
set_option maxHeartbeats 800000 in
theorem specAncestor_any (s : ByteArray) (n : Int) (w : World) (hs : s.size ≤ maxLen) :
    Calls Try.prog 17 #[.string s, .int .i64 n] w fun e w' => e = .returned (.tuple #[.string (ancS s n).1, .int .i64 (ancS s n).2]) ∧ Below w.heap.size w w' := by
  have hsp := l01Split_any s w hs
  cases hq : Nm.split s with
  | none =>
    have HA : Hid (ancS s n = (ByteArray.empty, 32)) := by show _ = _; simp [ancS, hq]
    rw [hq] at hsp
    clear hq
    go_enter Try.func17, Try.ntmps17
    go_wp2_with fail
    refine hsp.mono ?_
    rintro e w1 ⟨v, rfl, hown, hbel⟩
    go_wp2
    go_ret2
    rw [HA.out]
    exact ⟨rfl, hbel⟩
  | some ls =>
    have hz := Nm.split_size hq
    rw [hq] at hsp
    by_cases hr : 0 ≤ n ∧ n ≤ ls.length
    · have HA : Hid (ancS s n = (⟨(Nm.joinL (ls.drop n.toNat)).toArray⟩, 0)) := by show _ = _; simp [ancS, hq, hr]
      clear hq
      obtain ⟨h0, h1⟩ := hr
      obtain ⟨k, rfl⟩ := Int.eq_ofNat_of_zero_le h0
      go_enter Try.func17, Try.ntmps17
      go_wp2_with fail
      refine hsp.mono ?_
      rintro e w1 ⟨v, rfl, hown, hbel⟩
      have hrow := Nm.SRow.of_owns hown
      obtain ⟨a, cap, rfl, hcap, hmx, hnl, hc⟩ := hrow
      simp only [Option.getD_some] at hown
      have hd1 := fun e : cap = k => (Nm.SRow.of_owns hown).drop_all e
      have hd2 := (Nm.SRow.of_owns hown).drop (k := k) (by omega)
      have hwd := Nm.wsum_drop_le ls k
      have hkd : decide ((k : Int) < 0) = false := by simp
      clear hown hc
      by_cases hck : cap = k
      · have hd := hd1 hck
        clear hd1 hd2
        subst hck
        go_wp2_with fail
        refine (l01Join_any _ (ls.drop cap) _ hd (by omega)).mono ?_
        rintro e w2 ⟨rfl, hbel2⟩
        go_wp2
        go_ret2
        rw [HA.out]
        exact ⟨rfl, Nm.below_two hbel hbel2⟩
      · clear hd1
        go_wp2_with fail
        refine (l01Join_any _ (ls.drop k) _ hd2 (by omega)).mono ?_
        rintro e w2 ⟨rfl, hbel2⟩
        go_wp2
        go_ret2
        rw [HA.out]
        exact ⟨rfl, Nm.below_two hbel hbel2⟩
    · have HA : Hid (ancS s n = (ByteArray.empty, 32)) := by show _ = _; simp only [ancS, hq]; rw [if_neg hr]
      clear hq
      go_enter Try.func17, Try.ntmps17
      go_wp2_with fail
      refine hsp.mono ?_
      rintro e w1 ⟨v, rfl, hown, hbel⟩
      obtain ⟨a, cap, rfl, hcap, hmx, hnl, hc⟩ := Nm.SRow.of_owns hown
      simp only [Option.getD_some] at hown hcap hc
      by_cases h0 : n < 0
      · have hd : decide (n < 0) = true := by simp [h0]
        go_wp2
        go_ret2
        rw [HA.out]
        exact ⟨rfl, hbel⟩
      · have hd : decide (n < 0) = false := by simp; omega
        have hgt : (ls.length : Int) < n := by omega
        go_wp2
        go_ret2
        rw [HA.out]
        exact ⟨rfl, hbel⟩
end Go.Proofs.Ytkiadnglbjamfaa
/- spec.CheckProof: mathematics of its walk; l07Star by its contract. -/
namespace Go.Proofs.Ytkiadnglbjamfaa
open Go.RowKit
set_option linter.unusedVariables false

theorem match_cases (ls : List Lk) (x : List ByteArray) (q : Int) : (matchC ls x q = 0 ∧ pickB ls x atB = none) ∨ (matchC ls x q = 1 ∧ saysC ls x q = 1) ∨ (matchC ls x q = 2 ∧ saysC ls x q = 0) := by
  unfold matchC saysC
  cases pickB ls x atB with
  | none => exact .inl ⟨rfl, rfl⟩
  | some o =>
    simp only
    by_cases h : (hasB o.ty q || hasB o.ty 5) = true
    · rw [if_pos h, if_pos h]; exact .inr (.inr ⟨rfl, rfl⟩)
    · rw [if_neg h, if_neg h]; exact .inr (.inl ⟨rfl, rfl⟩)
theorem says_none {ls : List Lk} {x : List ByteArray} {q : Int} (h : pickB ls x atB = none) (hc : pickB ls x covB = none) : saysC ls x q = 0 := by
  unfold saysC; rw [h, hc]
theorem says_str {ls : List Lk} {x : List ByteArray} {q : Int} {l : Lk} (h : pickB ls x atB = none) (hc : pickB ls x covB = some l) (hs : strB l.nx x = true) : saysC ls x q = 1 := by
  unfold saysC; rw [h, hc]; simp [hs]
theorem says_cov {ls : List Lk} {x : List ByteArray} {q : Int} {l : Lk} (h : pickB ls x atB = none) (hc : pickB ls x covB = some l) (hs : strB l.nx x = false) : saysC ls x q = 2 := by
  unfold saysC; rw [h, hc]; simp [hs]
theorem check_not {ls : List Lk} {x : List ByteArray} {q : Int} {n : Int} (h : saysC ls x q = n) (hn : n ≠ 2) : checkC ls x q = n := by
  rw [checkC, if_neg (by rw [h]; exact hn), h]
theorem check_two {ls : List Lk} {x : List ByteArray} {q : Int} {l : Lk} (h : saysC ls x q = 2) (hc : pickB ls x covB = some l) : checkC ls x q = saysC ls (starL :: nearB l (x.drop 1)) q := by
  rw [checkC, if_pos h, hc]

theorem open_all {ax : List ByteArray} : ∀ (rs : List Rr) (ls : List Lk), (∀ r ∈ rs, r.own.size ≤ maxLen) → openL ax rs = some ls → LkAll rs ls := by
  intro rs
  induction rs with
  | nil => intro ls _ h; simp only [openL, Option.some.injEq] at h; subst h; exact ⟨rfl, fun i r l h => by simp at h⟩
  | cons a rs ih =>
    intro ls hz h
    rw [openL] at h
    cases hg : goodR ax a with
    | none => rw [hg] at h; simp at h
    | some l =>
      rw [hg] at h
      cases ho : openL ax rs with
      | none => rw [ho] at h; simp at h
      | some ls' =>
        rw [ho] at h
        simp only [Option.some.injEq] at h
        subst h
        obtain ⟨h1, h2⟩ := ih ls' (fun r hr => hz r (List.mem_cons_of_mem _ hr)) ho
        refine ⟨by simp [h1], fun i r m hr hm => ?_⟩
        cases i with
        | zero =>
          simp at hr hm
          subst hr hm
          obtain ⟨g1, g2, g3, g4, g5, g6, g7, g8⟩ := goodR_some hg
          have hd : a.da.size ≤ 65535 := by
            unfold cutCode at g3
            split at g3
            · cases g3
            · split at g3
              · cases g3
              · omega
          have hle := Dt.name_le a.da
          exact ⟨g4, g5, g6, hz a (List.mem_cons_self ..), by unfold maxLen; omega, by rw [bitsOf]; simp; omega⟩
        | succ i => exact h2 i r m (by simpa using hr) (by simpa using hm)

theorem wsum_drop : ∀ (x : List ByteArray) (j : Nat), (∀ y ∈ x, 1 ≤ y.size) → 1 ≤ j → x ≠ [] → Nm.wsum (x.drop j) + 2 ≤ Nm.wsum x := by
  intro x
  induction x with
  | nil => intro j _ _ h; exact absurd rfl h
  | cons a t ih =>
    intro j hx hj _
    obtain ⟨j', rfl⟩ : ∃ j', j = j' + 1 := ⟨j - 1, by omega⟩
    have ha := hx a (List.mem_cons_self ..)
    rw [List.drop_succ_cons]
    have h1 : Nm.wsum (t.drop j') ≤ Nm.wsum t := by
      rcases Nat.eq_zero_or_pos j' with rfl | hp
      · simp
      · rcases Nat.eq_zero_or_pos t.length with hz | ht
        · have : t = [] := List.eq_nil_of_length_eq_zero hz
          subst this; simp
        · have := ih j' (fun y hy => hx y (List.mem_cons_of_mem _ hy)) hp (by intro e; subst e; simp at ht)
          omega
    simp only [Nm.wsum]
    omega

/-- The name of a star and of the labels behind the first ones of a name. -/
theorem star_split {b : ByteArray} {x : List ByteArray} {j : Nat} (h : Nm.split b = some x) (hj : 1 ≤ j) (hx : 0 < x.length) : Nm.split (⟨#[1, 42]⟩ ++ ⟨(Nm.joinL (x.drop j)).toArray⟩) = some (starL :: x.drop j) := by
  have h1 := (Nm.split_join h).2
  have h2 := Nm.split_size h
  have hw := wsum_drop x j (fun y hy => (h1 y hy).1) hj (by intro e; subst e; simp at hx)
  have e : (⟨#[1, 42]⟩ ++ ⟨(Nm.joinL (x.drop j)).toArray⟩ : ByteArray) = ⟨(Nm.joinL (starL :: x.drop j)).toArray⟩ := by
    apply Nm.ba_ext
    rw [ByteArray.data_append, Array.toList_append]
    simp [Nm.joinL, Nm.preL, starL]
    rfl
  rw [e]
  refine split_of_join ?_ ?_
  · intro y hy
    rcases List.mem_cons.1 hy with rfl | hy
    · decide
    · exact h1 y (List.mem_of_mem_drop hy)
  · have : Nm.wsum (starL :: x.drop j) = Nm.wsum (x.drop j) + 2 := by simp only [Nm.wsum]; have : starL.size = 1 := rfl; omega
    omega

set_option maxRecDepth 100000 in
set_option maxHeartbeats 800000 in
theorem l07Star_any (s : ByteArray) (w : World) (hs : s.size ≤ 1000) : Calls Try.prog 18 #[.string s] w fun e w' => e = .returned (.string (⟨#[1, 42]⟩ ++ s)) ∧ w' = w := by
  go_enter Try.func18, Try.ntmps18
  go_wp2
  go_ret
  exact ⟨rfl, rfl⟩
theorem anc_in {b : ByteArray} {x : List ByteArray} {j : Nat} (h : Nm.split b = some x) (hj : j ≤ x.length) : ancS b (j : Int) = (⟨(Nm.joinL (x.drop j)).toArray⟩, 0) ∧ Nm.split ⟨(Nm.joinL (x.drop j)).toArray⟩ = some (x.drop j) ∧ (⟨(Nm.joinL (x.drop j)).toArray⟩ : ByteArray).size ≤ 255 := by
  have h1 := (Nm.split_join h).2
  have h2 := Nm.split_size h
  have hw : Nm.wsum (x.drop j) ≤ 254 := by
    rcases Nat.eq_zero_or_pos j with rfl | hp
    · rw [List.drop_zero]; omega
    · rcases Nat.eq_zero_or_pos x.length with hz | hx
      · have : x = [] := List.eq_nil_of_length_eq_zero hz
        subst this; simp [Nm.wsum]
      · have := wsum_drop x j (fun y hy => (h1 y hy).1) hp (by intro e; subst e; simp at hx)
        omega
  have hs := split_of_join (zs := x.drop j) (fun y hy => h1 y (List.mem_of_mem_drop hy)) hw
  refine ⟨?_, hs, (Nm.split_size hs).2⟩
  rw [ancS, h]
  simp only
  rw [if_pos ⟨by omega, by omega⟩, Int.toNat_natCast]
/-- The name of the labels behind the first ones. -/
def ancB (x : List ByteArray) (j : Nat) : ByteArray := ⟨(Nm.joinL (x.drop j)).toArray⟩
def nearJ (l : Lk) (x : List ByteArray) (j : Nat) : List ByteArray := nearB l (x.drop j)
def undJ (o : List ByteArray) (x : List ByteArray) (j : Nat) : Bool := underB o (x.drop j)
def starJ (x : List ByteArray) (j : Nat) : List ByteArray := starL :: x.drop j
theorem anc_j {b : ByteArray} {x : List ByteArray} {j : Nat} (h : Nm.split b = some x) (hj : j ≤ x.length) (W : World) (hb : b.size ≤ maxLen) : Calls Try.prog 17 #[.string b, .int .i64 j] W fun e w' => e = .returned (.tuple #[.string (ancB x j), .int .i64 0]) ∧ Below W.heap.size W w' := by
  have := specAncestor_any b (j : Int) W hb
  rw [(anc_in h hj).1] at this
  exact this
theorem und_j {o b : ByteArray} {ow x : List ByteArray} {j : Nat} (h : Nm.split b = some x) (hj : j ≤ x.length) (ho : Nm.split o = some ow) (zo : o.size ≤ maxLen) (W : World) : Calls Try.prog 11 #[.string o, .string (ancB x j)] W fun e w' => e = .returned (.bool (undJ ow x j)) ∧ Below W.heap.size W w' := by
  have := specIsUnder_any o (ancB x j) W zo (by have := (anc_in h hj).2.2; unfold maxLen; exact Nat.le_trans this (by decide))
  have hs : Nm.split (ancB x j) = some (x.drop j) := (anc_in h hj).2.1
  rw [isUnder_some ho hs] at this
  exact this
theorem star_j {b : ByteArray} {x : List ByteArray} {j : Nat} (h : Nm.split b = some x) (hj : 1 ≤ j) (hx : 0 < x.length) (hjx : j ≤ x.length) (W : World) : Nm.split (⟨#[1, 42]⟩ ++ ancB x j) = some (starJ x j) ∧ (⟨#[1, 42]⟩ ++ ancB x j : ByteArray).size ≤ maxLen ∧ Calls Try.prog 18 #[.string (ancB x j)] W fun e w' => e = .returned (.string (⟨#[1, 42]⟩ ++ ancB x j)) ∧ w' = W := by
  have h1 := star_split h hj hx
  refine ⟨h1, ?_, l07Star_any _ W (by have := (anc_in h hjx).2.2; exact Nat.le_trans this (by decide))⟩
  have := (Nm.split_size h1).2
  unfold maxLen
  exact Nat.le_trans this (by decide)
theorem near_j_stop {l : Lk} {x : List ByteArray} {j : Nat} (h : (undJ l.ow x j || undJ l.nx x j) = true) : starL :: nearJ l x j = starJ x j := by
  rw [nearJ, near_stop h, starJ]
theorem near_j_go {l : Lk} {x : List ByteArray} {j : Nat} (h : (undJ l.ow x j || undJ l.nx x j) = false) : nearJ l x j = nearJ l x (j + 1) ∧ j < x.length := by
  obtain ⟨h1, h2⟩ := near_go h
  rw [List.length_drop] at h2
  refine ⟨?_, by omega⟩
  rw [nearJ, h1, nearJ, List.drop_drop]
end Go.Proofs.Ytkiadnglbjamfaa
/- spec.NameOK by its contract. -/
namespace Go.Proofs.Ytkiadnglbjamfaa
open Go.RowKit

set_option maxRecDepth 100000 in
set_option maxHeartbeats 400000 in
theorem specNameOK_any (s : ByteArray) (w : World) (hs : s.size ≤ maxLen) :
    Calls Try.prog 10 #[.string s] w fun e w' => e = .returned (.bool (Nm.split s).isSome) ∧ Below w.heap.size w w' := by
  go_enter Try.func10, Try.ntmps10
  go_wp2_with (go_at_call 26; refine (l01Split_any s _ hs).mono ?_; rintro e w1 ⟨v, rfl, hown, hbel⟩)
  go_ret
  exact ⟨rfl, by assumption⟩
end Go.Proofs.Ytkiadnglbjamfaa
