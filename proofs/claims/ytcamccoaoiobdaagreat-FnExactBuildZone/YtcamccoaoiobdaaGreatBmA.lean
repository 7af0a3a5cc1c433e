import Derived.Test.YtcamccoaoiobdaaGreatJTbGI
import Derived.Test.YtcamccoaoiobdaaGreatJZnM
import Derived.Test.YtcamccoaoiobdaaGreatJTrW
/- Firsts in lists, places in sorted lists, folded names by their labels: mathematics for a zone of records. -/
namespace Go.Proofs.YtcamccoaoiobdaaGreat
open Go.RowKit
set_option linter.unusedVariables false

/-- The first of which P holds. -/
def First {α : Type} (P : α → Prop) (l : List α) (i : Nat) (x : α) : Prop := l[i]? = some x ∧ P x ∧ ∀ (j : Nat) (y : α), j < i → l[j]? = some y → ¬ P y
theorem First.lt {α : Type} {P : α → Prop} {l : List α} {i : Nat} {x : α} (h : First P l i x) : i < l.length := (List.getElem?_eq_some_iff.1 h.1).1
theorem First.snoc {α : Type} {P : α → Prop} {l : List α} {i : Nat} {x : α} (h : First P l i x) (y : α) : First P (l ++ [y]) i x := by
  have hi := h.lt
  refine ⟨by rw [List.getElem?_append_left hi]; exact h.1, h.2.1, fun j z hj hz => ?_⟩
  rw [List.getElem?_append_left (by omega)] at hz
  exact h.2.2 j z hj hz
theorem First.new {α : Type} {P : α → Prop} {l : List α} {x : α} (hno : ∀ y ∈ l, ¬ P y) (hx : P x) : First P (l ++ [x]) l.length x :=
  ⟨by simp, hx, fun j y hj hy => by rw [List.getElem?_append_left hj] at hy; exact hno y (List.mem_of_getElem? hy)⟩
theorem First.congr {α : Type} {P Q : α → Prop} {l : List α} {i : Nat} {x : α} (h : First P l i x) (e : ∀ y, P y ↔ Q y) : First Q l i x :=
  ⟨h.1, (e x).1 h.2.1, fun j y hj hy hq => h.2.2 j y hj hy ((e y).2 hq)⟩
theorem First.mem {α : Type} {P : α → Prop} {l : List α} {i : Nat} {x : α} (h : First P l i x) : x ∈ l := List.mem_of_getElem? h.1
theorem First.ex {α : Type} {P : α → Prop} : ∀ {l : List α}, (∃ x ∈ l, P x) → ∃ i x, First P l i x := by
  intro l
  induction l with
  | nil => rintro ⟨x, hx, _⟩; cases hx
  | cons y l ih =>
    rintro ⟨x, hx, hp⟩
    by_cases hy : P y
    · exact ⟨0, y, rfl, hy, fun j _ hj => by omega⟩
    · have hx' : x ∈ l := by
        rcases List.mem_cons.1 hx with rfl | h
        · exact absurd hp hy
        · exact h
      obtain ⟨i, z, h1, h2, h3⟩ := ih ⟨x, hx', hp⟩
      refine ⟨i + 1, z, by simpa using h1, h2, fun j u hj hu => ?_⟩
      cases j with
      | zero => simp at hu; subst hu; exact hy
      | succ j => exact h3 j u (by omega) (by simpa using hu)
theorem First.uniq {α : Type} {P : α → Prop} {l : List α} {i j : Nat} {x y : α} (h : First P l i x) (h' : First P l j y) : i = j ∧ x = y := by
  have e : i = j := by
    rcases Nat.lt_trichotomy i j with h1 | h1 | h1
    · exact absurd h.2.1 (h'.2.2 i x h1 h.1)
    · exact h1
    · exact absurd h'.2.1 (h.2.2 j y h1 h'.1)
  subst e
  have := h.1.symm.trans h'.1
  exact ⟨rfl, Option.some.inj this⟩
theorem First.find {α : Type} {P : α → Prop} {l : List α} {i : Nat} {x : α} (h : First P l i x) (p : α → Bool) (e : ∀ y ∈ l, p y = true ↔ P y) : l.find? p = some x := by
  rw [List.find?_eq_some_iff_getElem]
  have hi := h.lt
  refine ⟨(e x h.mem).2 h.2.1, i, hi, (List.getElem?_eq_some_iff.1 h.1).2, fun j hj => ?_⟩
  have hj' : l[j]? = some l[j] := List.getElem?_eq_getElem (by omega)
  have := h.2.2 j _ hj hj'
  cases hp : p l[j] with
  | false => rfl
  | true => exact absurd ((e _ (List.mem_of_getElem? hj')).1 hp) this

/-- A sorted list parted at the place of what is sought. -/
theorem place_split {α : Type} {f : α → Int} {R : α → α → Prop} : ∀ {l : List α}, l.Pairwise R → (∀ a b, R a b → f b ≤ 0 → f a < 0) →
    (isIn f l = false ∧ ∃ A C, l = A ++ C ∧ posOf f l = A.length ∧ (∀ a ∈ A, f a < 0) ∧ ∀ c ∈ C, 0 < f c) ∨
    (isIn f l = true ∧ ∃ A o C, l = A ++ o :: C ∧ posOf f l = A.length ∧ f o = 0 ∧ (∀ a ∈ A, f a < 0) ∧ ∀ c ∈ C, 0 < f c) := by
  intro l
  induction l with
  | nil => intro _ _; exact .inl ⟨rfl, [], [], rfl, rfl, by simp, by simp⟩
  | cons x l ih =>
    intro hp hR
    obtain ⟨hx, hl⟩ := List.pairwise_cons.1 hp
    by_cases h1 : f x < 0
    · have hpo : posOf f (x :: l) = posOf f l + 1 := by simp [posOf, h1]
      have hin : isIn f (x :: l) = isIn f l := by
        rw [isIn, isIn, hpo]
        congr 1
        · simp
      rw [hin, hpo]
      rcases ih hl hR with ⟨hi, A, C, e, hA, ha, hc⟩ | ⟨hi, A, o, C, e, hA, h0, ha, hc⟩
      · refine .inl ⟨hi, x :: A, C, by rw [e]; rfl, by rw [hA]; rfl, fun a hm => ?_, hc⟩
        rcases List.mem_cons.1 hm with rfl | hm
        · exact h1
        · exact ha a hm
      · refine .inr ⟨hi, x :: A, o, C, by rw [e]; rfl, by rw [hA]; rfl, h0, fun a hm => ?_, hc⟩
        rcases List.mem_cons.1 hm with rfl | hm
        · exact h1
        · exact ha a hm
    · have hpo : posOf f (x :: l) = 0 := by simp [posOf, h1]
      have hC : ∀ c ∈ l, 0 < f c := fun c hc => by
        rcases Int.lt_or_le 0 (f c) with h | h
        · exact h
        · exact absurd (hR x c (hx c hc) h) h1
      have hin : isIn f (x :: l) = decide (f x = 0) := by
        rw [isIn, hpo]
        simp [cfOf]
      by_cases h0 : f x = 0
      · exact .inr ⟨by rw [hin, decide_eq_true h0], [], x, l, rfl, hpo, h0, by simp, hC⟩
      · refine .inl ⟨by rw [hin, decide_eq_false h0], [], x :: l, rfl, hpo, by simp, fun c hc => ?_⟩
        rcases List.mem_cons.1 hc with rfl | hc
        · omega
        · exact hC c hc
theorem ins_len {α : Type} (A C : List α) (x : α) : insAt A.length x (A ++ C) = A ++ x :: C := by simp [insAt]
theorem set_len {α : Type} (A C : List α) (o x : α) : (A ++ o :: C).set A.length x = A ++ x :: C := by
  rw [List.set_append_right _ _ (Nat.le_refl _)]
  simp

theorem cmpLs_lt_le {a b c : List ByteArray} (h1 : Nm.cmpLs a b < 0) (h2 : Nm.cmpLs b c ≤ 0) : Nm.cmpLs a c < 0 := by
  have h3 := cmpLs_trans (a := a) (b := b) (c := c) (by omega) h2
  rcases Int.lt_or_eq_of_le h3 with h | h
  · exact h
  · exfalso
    have h4 := cmpLs_anti a c
    have h5 := cmpLs_trans (a := b) (b := c) (c := a) h2 (by rw [h4]; omega)
    have h6 := cmpLs_anti a b
    omega
theorem cmpLs_eq_left {a b c : List ByteArray} (h : Nm.cmpLs a b = 0) : Nm.cmpLs a c = Nm.cmpLs b c := by
  have hr1 := cmpLs_range a c
  have hr2 := cmpLs_range b c
  have h' : Nm.cmpLs b a = 0 := by rw [cmpLs_anti a b]; omega
  have k1 := fun (x : Nm.cmpLs b c ≤ 0) => cmpLs_trans (a := a) (b := b) (c := c) (by omega) x
  have k2 := fun (x : Nm.cmpLs a c ≤ 0) => cmpLs_trans (a := b) (b := a) (c := c) (by omega) x
  have k3 := fun (x : 0 ≤ Nm.cmpLs b c) => cmpLs_trans' (a := a) (b := b) (c := c) (by omega) x
  have k4 := fun (x : 0 ≤ Nm.cmpLs a c) => cmpLs_trans' (a := b) (b := a) (c := c) (by omega) x
  by_cases z1 : Nm.cmpLs b c ≤ 0 <;> by_cases z2 : 0 ≤ Nm.cmpLs b c <;> by_cases z3 : Nm.cmpLs a c ≤ 0 <;> by_cases z4 : 0 ≤ Nm.cmpLs a c <;> first | omega | (have := k1 z1; omega) | (have := k2 z3; omega) | (have := k3 z2; omega) | (have := k4 z4; omega)
theorem cmpLs_eq_right {a b c : List ByteArray} (h : Nm.cmpLs a b = 0) : Nm.cmpLs c a = Nm.cmpLs c b := by
  rw [cmpLs_anti a c, cmpLs_anti b c, cmpLs_eq_left h]
theorem cmpLs_self (a : List ByteArray) : Nm.cmpLs a a = 0 := (cmpLs_zero a a).2 rfl
theorem cmpLs_symm {a b : List ByteArray} (h : Nm.cmpLs a b = 0) : Nm.cmpLs b a = 0 := by rw [cmpLs_anti a b]; omega
theorem oCmp_mono (lab : List ByteArray) (a b : GOw) (h : Nm.cmpLs a.lab b.lab < 0) (hb : oCmp lab b ≤ 0) : oCmp lab a < 0 := cmpLs_lt_le h hb
theorem sCmp_mono (ty : Int) (a b : GSe) (h : a.ty < b.ty) (hb : sCmp ty b ≤ 0) : sCmp ty a < 0 := by
  rw [sCmp, cmpI_neg]
  rw [sCmp] at hb
  rcases Int.lt_trichotomy b.ty ty with h1 | h1 | h1
  · omega
  · omega
  · rw [Nm.cmpI_gt h1] at hb; omega
theorem ordL_lt_le {a b c : List UInt8} (h1 : Nm.ordL a b < 0) (h2 : Nm.ordL b c ≤ 0) : Nm.ordL a c < 0 := by
  have h3 := ordL_trans a b c (by omega) h2
  rcases Int.lt_or_eq_of_le h3 with h | h
  · exact h
  · exfalso
    have h4 := ordL_anti a c
    have h5 := ordL_trans b c a h2 (by rw [h4]; omega)
    have h6 := ordL_anti a b
    omega
theorem dCmp_mono (fd : ByteArray) (a b : ByteArray × ByteArray) (h : Nm.ordL a.1.data.toList b.1.data.toList < 0) (hb : dCmp fd b ≤ 0) : dCmp fd a < 0 := ordL_lt_le h hb
theorem dCmp_zero {fd : ByteArray} {p : ByteArray × ByteArray} : dCmp fd p = 0 ↔ p.1 = fd := by
  rw [dCmp, ordL_zero]
  exact ⟨fun h => Nm.ba_ext h, fun h => by rw [h]⟩
theorem sCmp_zero {ty : Int} {s : GSe} : sCmp ty s = 0 ↔ s.ty = ty := ⟨fun h => cmpI_zero h, fun h => by rw [sCmp, Nm.cmpI_eq h]⟩

/-! Folded names by their labels. -/
theorem low_low (c : UInt8) : Nm.low (Nm.low c) = Nm.low c := by
  by_cases h : 65 ≤ c.toNat ∧ c.toNat ≤ 90
  · have := Nm.low_up h
    exact Nm.low_id (by omega)
  · rw [Nm.low_id h, Nm.low_id h]
theorem small_small (x : ByteArray) : Nm.small (Nm.small x) = Nm.small x := by
  apply Nm.ba_ext
  rw [Nm.small_data, Nm.small_data, Nm.smallL, Nm.smallL, List.map_map]
  apply List.map_congr_left
  intro c _
  exact low_low c
theorem ordS_small (x y : ByteArray) : Nm.ordS (Nm.small x) (Nm.small y) = Nm.ordS x y := by
  rw [Nm.ordS, Nm.ordS, ← Nm.small_data, ← Nm.small_data, small_small, small_small, Nm.small_data, Nm.small_data]
theorem cmpRev_small : ∀ (a b : List ByteArray), Nm.cmpRev (a.map Nm.small) (b.map Nm.small) = Nm.cmpRev a b
  | [], [] => rfl
  | [], y :: b => rfl
  | x :: a, [] => rfl
  | x :: a, y :: b => by
    simp only [List.map_cons, Nm.cmpRev, ordS_small, cmpRev_small a b]
theorem cmpLs_small (a b : List ByteArray) : Nm.cmpLs (a.map Nm.small) (b.map Nm.small) = Nm.cmpLs a b := by
  rw [Nm.cmpLs, ← List.map_reverse, ← List.map_reverse, cmpRev_small, Nm.cmpLs]
theorem underB_small (a b : List ByteArray) : underB (a.map Nm.small) (b.map Nm.small) = underB a b := by
  rw [underB, underB, List.length_map, List.length_map, ← List.map_drop, cmpLs_small]
theorem underB_same {a a' b b' : List ByteArray} (h1 : Nm.cmpLs a a' = 0) (h2 : Nm.cmpLs b b' = 0) : underB a b = underB a' b' := by
  rw [← underB_small a b, ← underB_small a' b', (cmpLs_zero _ _).1 h1, (cmpLs_zero _ _).1 h2]
theorem len_same {a b : List ByteArray} (h : Nm.cmpLs a b = 0) : a.length = b.length := by
  have := congrArg List.length ((cmpLs_zero _ _).1 h)
  simpa using this
theorem split_fold {a : ByteArray} {xs : List ByteArray} (h : Nm.split a = some xs) : Nm.split (Nm.foldS a) = some (xs.map Nm.small) := by
  rw [Nm.foldS_some h, ← Nm.joinL_small h]
  have := Nm.split_size h
  exact split_of_join (small_ok (Nm.split_join h).2) (by rw [Nm.wsum_small]; omega)
theorem fold_lab {a b : ByteArray} {xs ys : List ByteArray} (ha : Nm.split a = some xs) (hb : Nm.split b = some ys) : Nm.foldS a = Nm.foldS b ↔ Nm.cmpLs xs ys = 0 := by
  constructor
  · intro h
    have h1 := split_fold ha
    rw [h, split_fold hb] at h1
    exact (cmpLs_zero _ _).2 (Option.some.inj h1).symm
  · intro h
    rw [Nm.foldS_some ha, Nm.foldS_some hb, ← Nm.joinL_small ha, ← Nm.joinL_small hb, (cmpLs_zero _ _).1 h]
theorem cmpS_fold {a b : ByteArray} {xs ys : List ByteArray} (ha : Nm.split a = some xs) (hb : Nm.split b = some ys) : Nm.cmpS (Nm.foldS a) (Nm.foldS b) = Nm.cmpLs xs ys := by
  rw [Nm.cmpS, split_fold ha, split_fold hb]
  exact cmpLs_small _ _
theorem isUnder_fold {a b : ByteArray} {xs ys : List ByteArray} (ha : Nm.split a = some xs) (hb : Nm.split b = some ys) : isUnderS (Nm.foldS a) (Nm.foldS b) = underB xs ys := by
  rw [isUnder_some (split_fold ha) (split_fold hb)]
  exact underB_small _ _
theorem low_star {c : UInt8} : Nm.low c = 42 ↔ c = 42 := by
  by_cases h : 65 ≤ c.toNat ∧ c.toNat ≤ 90
  · have h1 := Nm.low_up h
    constructor
    · intro e; rw [e] at h1; simp at h1; omega
    · intro e; rw [e] at h; simp at h
  · rw [Nm.low_id h]
theorem wildL_same {a b : List ByteArray} (h : Nm.cmpLs a b = 0) : wildL a = wildL b := by
  have e := (cmpLs_zero _ _).1 h
  cases a with
  | nil =>
    cases b with
    | nil => rfl
    | cons y b => simp at e
  | cons x a =>
    cases b with
    | nil => simp at e
    | cons y b =>
      simp only [List.map_cons, List.cons.injEq] at e
      have e1 := congrArg (fun z : ByteArray => z.data.toList) e.1
      simp only [Nm.small_data, Nm.smallL] at e1
      rw [wildL, wildL, ByteArray.toList_eq, ByteArray.toList_eq, Bool.eq_iff_iff]
      simp only [beq_iff_eq]
      generalize x.data.toList = X at *
      generalize y.data.toList = Y at *
      have key : ∀ Z : List UInt8, Z = [42] ↔ Z.map Nm.low = [42] := by
        intro Z
        cases Z with
        | nil => simp
        | cons z Z => cases Z with
          | nil => simp [low_star]
          | cons z' Z => simp
      rw [key X, key Y, e1]
theorem starB_fold {a : ByteArray} {xs : List ByteArray} (h : Nm.split a = some xs) : starB (Nm.foldS a) = wildL xs := by
  have hj := Nm.split_join h
  rw [Nm.foldS_some h, ← Nm.joinL_small h, starB]
  cases xs with
  | nil => rfl
  | cons x t =>
    have hx := hj.2 x (List.mem_cons_self)
    have e : Nm.joinL ((x :: t).map Nm.small) = UInt8.ofNat x.size :: ((Nm.small x).data.toList ++ Nm.joinL (t.map Nm.small)) := by
      simp [Nm.joinL, Nm.preL, Nm.small_size]
    have hs : 1 < (ByteArray.mk (Nm.joinL ((x :: t).map Nm.small)).toArray).size := by
      show 1 < (Nm.joinL ((x :: t).map Nm.small)).toArray.size
      rw [List.size_toArray, e]
      have : (Nm.small x).data.toList.length = x.size := by rw [Nm.small_data]; simp [Nm.smallL]
      simp only [List.length_cons, List.length_append, this]
      omega
    rw [decide_eq_true hs, Bool.true_and, wildL, Bool.eq_iff_iff, decide_eq_true_eq, beq_iff_eq, ByteArray.toList_eq]
    have hl : x.data.toList.length = x.size := by simp
    rw [e, Nm.small_data, Nm.smallL]
    generalize x.data.toList = X at *
    cases X with
    | nil => simp at hl; omega
    | cons c X =>
      have h63 : x.size ≤ 63 := hx.2
      generalize x.size = n at *
      constructor
      · intro h2
        have h3 := congrArg (fun z : ByteArray => z.data.toList) h2
        simp at h3
        obtain ⟨h4, h5⟩ := h3
        have hn : n = 1 := by
          have := congrArg UInt8.toNat h4
          simp at this
          omega
        subst hn
        simp at hl
        subst hl
        rw [low_star.1 h5]
      · intro h2
        simp at h2
        obtain ⟨rfl, rfl⟩ := h2
        simp at hl
        subst hl
        have h42 : Nm.low 42 = 42 := low_star.2 rfl
        apply Nm.ba_ext
        simp [h42]
end Go.Proofs.YtcamccoaoiobdaaGreat
