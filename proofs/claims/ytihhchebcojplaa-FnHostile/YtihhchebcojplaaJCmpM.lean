import Derived.Test.YtihhchebcojplaaJMath
/- The order of texts and of names, as plain mathematics. -/
namespace Go.Proofs.Ytihhchebcojplaa.Nm
open Go.RowKit

def cmpI (a b : Int) : Int := if a < b then -1 else if b < a then 1 else 0
def ordL (a b : List UInt8) : Int := if Op.bytesLess a b = true then -1 else if a = b then 0 else 1

theorem cmpI_lt {a b : Int} (h : a < b) : cmpI a b = -1 := if_pos h
theorem cmpI_gt {a b : Int} (h : b < a) : cmpI a b = 1 := by rw [cmpI, if_neg (by omega), if_pos h]
theorem cmpI_eq {a b : Int} (h : a = b) : cmpI a b = 0 := by rw [cmpI, if_neg (by omega), if_neg (by omega)]
theorem cmpI_ne {a b : Int} (h : a ≠ b) : cmpI a b ≠ 0 := by
  by_cases h1 : a < b
  · rw [cmpI_lt h1]; decide
  · rw [cmpI_gt (by omega)]; decide

theorem ordL_nil : ordL [] [] = 0 := rfl
theorem ordL_left (y : UInt8) (b : List UInt8) : ordL [] (y :: b) = -1 := rfl
theorem ordL_right (x : UInt8) (a : List UInt8) : ordL (x :: a) [] = 1 := rfl
theorem ordL_same (x : UInt8) (a b : List UInt8) : ordL (x :: a) (x :: b) = ordL a b := by
  simp [ordL, Op.bytesLess]
theorem ordL_ne {x y : UInt8} (a b : List UInt8) (h : x ≠ y) : ordL (x :: a) (y :: b) = cmpI x.toNat y.toNat := by
  have hn : x.toNat ≠ y.toNat := fun e => h (UInt8.toNat_inj.1 e)
  by_cases hl : x < y
  · have hl' : (x.toNat : Int) < (y.toNat : Int) := by have := UInt8.lt_iff_toNat_lt.1 hl; omega
    rw [cmpI_lt hl']
    simp [ordL, Op.bytesLess, hl]
  · have hl' : (y.toNat : Int) < (x.toNat : Int) := by
      have : ¬ x.toNat < y.toNat := fun e => hl (UInt8.lt_iff_toNat_lt.2 e)
      omega
    rw [cmpI_gt hl']
    simp [ordL, Op.bytesLess, hl, h]

theorem ord_at : ∀ (k : Nat) (a b : List UInt8) (x y : UInt8), a.take k = b.take k → a[k]? = some x → b[k]? = some y → x ≠ y → ordL a b = cmpI x.toNat y.toNat := by
  intro k
  induction k with
  | zero =>
    intro a b x y _ hx hy hne
    cases a with
    | nil => simp at hx
    | cons c a =>
      cases b with
      | nil => simp at hy
      | cons d b =>
        simp at hx hy
        subst hx hy
        exact ordL_ne a b hne
  | succ k ih =>
    intro a b x y ht hx hy hne
    cases a with
    | nil => simp at hx
    | cons c a =>
      cases b with
      | nil => simp at hy
      | cons d b =>
        simp at ht hx hy
        obtain ⟨rfl, ht⟩ := ht
        rw [ordL_same]
        exact ih a b x y ht hx hy hne

theorem ord_end : ∀ (k : Nat) (a b : List UInt8), a.take k = b.take k → k ≤ a.length → k ≤ b.length → (k = a.length ∨ k = b.length) → ordL a b = cmpI a.length b.length := by
  intro k
  induction k with
  | zero =>
    intro a b _ _ _ h
    cases a with
    | nil =>
      cases b with
      | nil => rfl
      | cons d b => rw [ordL_left, cmpI_lt (by simp)]
    | cons c a =>
      cases b with
      | nil => rw [ordL_right, cmpI_gt (by simp)]
      | cons d b => simp at h
  | succ k ih =>
    intro a b ht h1 h2 h
    cases a with
    | nil => simp at h1
    | cons c a =>
      cases b with
      | nil => simp at h2
      | cons d b =>
        simp at ht h1 h2 h
        obtain ⟨rfl, ht⟩ := ht
        rw [ordL_same, ih a b ht h1 h2 h]
        simp only [List.length_cons, cmpI]
        congr 1
        · simp
        · congr 1
          simp

theorem take_snoc_eq {a b : List UInt8} {k : Nat} {x y : UInt8} (h : a.take k = b.take k) (hx : a[k]? = some x) (hy : b[k]? = some y) (e : x = y) : a.take (k + 1) = b.take (k + 1) := by
  rw [take_step hx, take_step hy, h, e]

theorem small_get {x : ByteArray} {j : Nat} (h : j < x.size) : (smallL x.data.toList)[j]? = some (low x[j]) := by
  simp only [smallL, List.getElem?_map, get_data h, Option.map_some]

theorem smallL_length (x : ByteArray) : (smallL x.data.toList).length = x.size := by simp [smallL]

def ordS (x y : ByteArray) : Int := ordL (smallL x.data.toList) (smallL y.data.toList)

def cmpRev : List ByteArray → List ByteArray → Int
  | [], [] => 0
  | [], _ :: _ => -1
  | _ :: _, [] => 1
  | x :: a, y :: b => if ordS x y = 0 then cmpRev a b else ordS x y

def cmpLs (xs ys : List ByteArray) : Int := cmpRev xs.reverse ys.reverse

theorem cmp_stop {a b : List ByteArray} {k : Nat} {x y : ByteArray} (hx : a[k]? = some x) (hy : b[k]? = some y) (h : ordS x y ≠ 0) : cmpRev (a.drop k) (b.drop k) = ordS x y := by
  obtain ⟨h1, rfl⟩ := List.getElem?_eq_some_iff.1 hx
  obtain ⟨h2, rfl⟩ := List.getElem?_eq_some_iff.1 hy
  rw [List.drop_eq_getElem_cons h1, List.drop_eq_getElem_cons h2, cmpRev, if_neg h]

theorem cmp_go {a b : List ByteArray} {k : Nat} {x y : ByteArray} (hx : a[k]? = some x) (hy : b[k]? = some y) (h : ordS x y = 0) : cmpRev (a.drop k) (b.drop k) = cmpRev (a.drop (k + 1)) (b.drop (k + 1)) := by
  obtain ⟨h1, rfl⟩ := List.getElem?_eq_some_iff.1 hx
  obtain ⟨h2, rfl⟩ := List.getElem?_eq_some_iff.1 hy
  rw [List.drop_eq_getElem_cons h1, List.drop_eq_getElem_cons h2, cmpRev, if_pos h]

theorem cmp_end {a b : List ByteArray} {k : Nat} (h1 : k ≤ a.length) (h2 : k ≤ b.length) (h : k = a.length ∨ k = b.length) : cmpRev (a.drop k) (b.drop k) = cmpI a.length b.length := by
  rcases h with h | h
  · rw [List.drop_of_length_le (by omega)]
    by_cases e : k = b.length
    · rw [List.drop_of_length_le (by omega), cmpI_eq (by omega)]; rfl
    · rw [List.drop_eq_getElem_cons (by omega : k < b.length), cmpI_lt (by omega)]; rfl
  · rw [List.drop_of_length_le (l := b) (by omega)]
    by_cases e : k = a.length
    · rw [List.drop_of_length_le (by omega), cmpI_eq (by omega)]; rfl
    · rw [List.drop_eq_getElem_cons (by omega : k < a.length), cmpI_gt (by omega)]; rfl

theorem rev_get {ls : List ByteArray} {k : Nat} (h : k < ls.length) {x : ByteArray} (hx : ls[ls.length - (k + 1)]? = some x) : ls.reverse[k]? = some x := by
  rw [List.getElem?_reverse h, ← hx]
  congr 1
  omega

def cmpS (a b : ByteArray) : Int :=
  match split a, split b with
  | some xs, some ys => cmpLs xs ys
  | _, _ => 0

end Go.Proofs.Ytihhchebcojplaa.Nm
/- When two names are the same, as plain mathematics. -/
namespace Go.Proofs.Ytihhchebcojplaa
open Go.RowKit

theorem bless_self : ∀ l : List UInt8, Op.bytesLess l l = false := by
  intro l
  induction l with
  | nil => rfl
  | cons x l ih => simp [Op.bytesLess, ih]

theorem ordL_zero (a b : List UInt8) : Nm.ordL a b = 0 ↔ a = b := by
  constructor
  · intro h
    by_cases h1 : Op.bytesLess a b = true
    · rw [Nm.ordL, if_pos h1] at h; omega
    · rw [Nm.ordL, if_neg h1] at h
      by_cases h2 : a = b
      · exact h2
      · rw [if_neg h2] at h; omega
  · intro h
    subst h
    rw [Nm.ordL, if_neg (by simp [bless_self]), if_pos rfl]

def sameS (a b : ByteArray) : Bool := (Nm.split a).isSome && (Nm.split b).isSome && decide (Nm.ordS a b = 0)

theorem same_left {a b : ByteArray} (h : Nm.split a = none) : sameS a b = false := by simp [sameS, h]
theorem same_right {a b : ByteArray} (h : Nm.split b = none) : sameS a b = false := by simp [sameS, h]
theorem same_some {a b : ByteArray} {xs ys : List ByteArray} (ha : Nm.split a = some xs) (hb : Nm.split b = some ys) : sameS a b = decide (Nm.ordS a b = 0) := by simp [sameS, ha, hb]

theorem small_pos {a : ByteArray} {xs : List ByteArray} (h : Nm.split a = some xs) : (Nm.small a).toList.isEmpty = false := by
  apply Nm.tl_not_empty
  rw [Nm.small_size]
  have := Nm.split_size h
  omega

theorem small_eq (a b : ByteArray) : ((Nm.small a).toList == (Nm.small b).toList) = decide (Nm.ordS a b = 0) := by
  rw [Bool.eq_iff_iff]
  simp only [beq_iff_eq, decide_eq_true_eq, Nm.ordS, ordL_zero]
  rw [ByteArray.toList_eq, ByteArray.toList_eq, Nm.small_data, Nm.small_data]

end Go.Proofs.Ytihhchebcojplaa
