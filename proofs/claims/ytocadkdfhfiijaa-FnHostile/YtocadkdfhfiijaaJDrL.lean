import Derived.Test.YtocadkdfhfiijaaJRrM
import Derived.Test.YtocadkdfhfiijaaJDrH
import Derived.Test.YtocadkdfhfiijaaJMath
import Derived.Deep.LoopGhost
/- spec.l01Label by its contract: a label. -/
namespace Go.Proofs.Ytocadkdfhfiijaa
open Go.RowKit

set_option maxRecDepth 100000 in
set_option maxHeartbeats 1600000 in
theorem l01LabelV_any (g : Nat) (a : Option Addr) (n cap : Nat) (w : World) (h : Src w g a n cap) :
    Calls Try.prog 51 #[.pointer (some ⟨g, 0, none⟩)] w fun e w' => ∃ s : ByteArray, e = .returned (.string s) ∧ (1 ≤ s.size ∧ s.size ≤ 4) ∧ Src w' g a n cap ∧ w.grownBy w' (some g) := by
  have hcv := fun (x : Int) (W : World) => conv_one x W
  have hs1 : ∀ c : UInt8, (ByteArray.mk #[c]).size = 1 := fun _ => rfl
  have hs2 : (ByteArray.mk #[110, 115]).size = 2 := rfl
  go_enter Try.func51, Try.ntmps51
  go_wp2_with fail
  refine (l01Next_any g a n cap 12 _ h (by decide)).mono ?_
  rintro e w1 ⟨r, rfl, hr0, hr1, hsrc, hgr⟩
  have hr2 := hr1 (by decide)
  clear hr1 h
  rcases (by omega : r = 0 ∨ r = 1 ∨ r = 2 ∨ r = 3 ∨ r = 4 ∨ r = 5 ∨ 6 ≤ r) with rfl | rfl | rfl | rfl | rfl | rfl | h6
  · go_wp2
    go_ret
    exact ⟨_, rfl, ⟨by decide, by decide⟩, hsrc, hgr⟩
  · go_wp2_with (first | (go_at_call 12; refine (l01Next_any g a n cap 4 _ hsrc (by decide)).mono ?_; rintro e w2 ⟨q, rfl, hq0, hq1, hsrc2, hgr2⟩; have hq2 := hq1 (by decide); clear hq1) | (go_at_call 53; refine (l01Bytes_any g a n cap (1 + q) _ hsrc2 (by omega) (by omega)).mono ?_; rintro e w3 ⟨s3, rfl, hs3, hsrc3, hgr3⟩))
    go_ret
    exact ⟨_, rfl, ⟨by omega, by omega⟩, hsrc3, grown_step (grown_step hgr hgr2) hgr3⟩
  · go_wp2
    go_ret
    exact ⟨_, rfl, ⟨by decide, by decide⟩, hsrc, hgr⟩
  · go_wp2
    go_ret
    exact ⟨_, rfl, ⟨by decide, by decide⟩, hsrc, hgr⟩
  · go_wp2
    go_ret
    exact ⟨_, rfl, ⟨by decide, by decide⟩, hsrc, hgr⟩
  · go_wp2_with (go_at_call 12; refine (l01Next_any g a n cap 3 _ hsrc (by decide)).mono ?_; rintro e w2 ⟨q, rfl, hq0, hq1, hsrc2, hgr2⟩; have hq2 := hq1 (by decide); clear hq1)
    go_ret
    exact ⟨_, rfl, ⟨by rw [ByteArray.size_append, hs2, hs1]; decide, by rw [ByteArray.size_append, hs2, hs1]; decide⟩, src_below hsrc2 ((Below.refl _ _).alloc (Nat.le_refl _) _), grown_alloc (grown_step hgr hgr2) _⟩
  · go_wp2_with (go_at_call 12; refine (l01Next_any g a n cap 4 _ hsrc (by decide)).mono ?_; rintro e w2 ⟨q, rfl, hq0, hq1, hsrc2, hgr2⟩; have hq2 := hq1 (by decide); clear hq1)
    go_ret
    exact ⟨_, rfl, ⟨by rw [hs1]; decide, by rw [hs1]; decide⟩, src_below hsrc2 ((Below.refl _ _).alloc (Nat.le_refl _) _), grown_alloc (grown_step hgr hgr2) _⟩
end Go.Proofs.Ytocadkdfhfiijaa
/- The order of texts and of names, as plain mathematics. -/
namespace Go.Proofs.Ytocadkdfhfiijaa.Nm
open Go.RowKit

def cmpI (a b : Int) : Int := if a < b then -1 else if b < a then 1 else 0
def ordL (a b : List UInt8) : Int := if Op.bytesLess a b = true then -1 else if a = b then 0 else 1

theorem cmpI_lt {a b : Int} (h : a < b) : cmpI a b = -1 := if_pos h
theorem cmpI_gt {a b : Int} (h : b < a) : cmpI a b = 1 := by rw [cmpI, if_neg (by omega), if_pos h]
theorem cmpI_eq {a b : Int} (h : a = b) : cmpI a b = 0 := by rw [cmpI, if_neg (by omega), if_neg (by omega)]
theorem cmpI_ne {a b : Int} (h : a ≠ b) : cmpI a b ≠ 0 := by
  by_cases h1 : a < b
  · rw [cmpI_lt h1]; decide
  · rw [cmpI_gt (by omega)]; decide

theorem ordL_nil : ordL [] [] = 0 := rfl
theorem ordL_left (y : UInt8) (b : List UInt8) : ordL [] (y :: b) = -1 := rfl
theorem ordL_right (x : UInt8) (a : List UInt8) : ordL (x :: a) [] = 1 := rfl
theorem ordL_same (x : UInt8) (a b : List UInt8) : ordL (x :: a) (x :: b) = ordL a b := by
  simp [ordL, Op.bytesLess]
theorem ordL_ne {x y : UInt8} (a b : List UInt8) (h : x ≠ y) : ordL (x :: a) (y :: b) = cmpI x.toNat y.toNat := by
  have hn : x.toNat ≠ y.toNat := fun e => h (UInt8.toNat_inj.1 e)
  by_cases hl : x < y
  · have hl' : (x.toNat : Int) < (y.toNat : Int) := by have := UInt8.lt_iff_toNat_lt.1 hl; omega
    rw [cmpI_lt hl']
    simp [ordL, Op.bytesLess, hl]
  · have hl' : (y.toNat : Int) < (x.toNat : Int) := by
      have : ¬ x.toNat < y.toNat := fun e => hl (UInt8.lt_iff_toNat_lt.2 e)
      omega
    rw [cmpI_gt hl']
    simp [ordL, Op.bytesLess, hl, h]

theorem ord_at : ∀ (k : Nat) (a b : List UInt8) (x y : UInt8), a.take k = b.take k → a[k]? = some x → b[k]? = some y → x ≠ y → ordL a b = cmpI x.toNat y.toNat := by
  intro k
  induction k with
  | zero =>
    intro a b x y _ hx hy hne
    cases a with
    | nil => simp at hx
    | cons c a =>
      cases b with
      | nil => simp at hy
      | cons d b =>
        simp at hx hy
        subst hx hy
        exact ordL_ne a b hne
  | succ k ih =>
    intro a b x y ht hx hy hne
    cases a with
    | nil => simp at hx
    | cons c a =>
      cases b with
      | nil => simp at hy
      | cons d b =>
        simp at ht hx hy
        obtain ⟨rfl, ht⟩ := ht
        rw [ordL_same]
        exact ih a b x y ht hx hy hne

theorem ord_end : ∀ (k : Nat) (a b : List UInt8), a.take k = b.take k → k ≤ a.length → k ≤ b.length → (k = a.length ∨ k = b.length) → ordL a b = cmpI a.length b.length := by
  intro k
  induction k with
  | zero =>
    intro a b _ _ _ h
    cases a with
    | nil =>
      cases b with
      | nil => rfl
      | cons d b => rw [ordL_left, cmpI_lt (by simp)]
    | cons c a =>
      cases b with
      | nil => rw [ordL_right, cmpI_gt (by simp)]
      | cons d b => simp at h
  | succ k ih =>
    intro a b ht h1 h2 h
    cases a with
    | nil => simp at h1
    | cons c a =>
      cases b with
      | nil => simp at h2
      | cons d b =>
        simp at ht h1 h2 h
        obtain ⟨rfl, ht⟩ := ht
        rw [ordL_same, ih a b ht h1 h2 h]
        simp only [List.length_cons, cmpI]
        congr 1
        · simp
        · congr 1
          simp

theorem take_snoc_eq {a b : List UInt8} {k : Nat} {x y : UInt8} (h : a.take k = b.take k) (hx : a[k]? = some x) (hy : b[k]? = some y) (e : x = y) : a.take (k + 1) = b.take (k + 1) := by
  rw [take_step hx, take_step hy, h, e]

theorem small_get {x : ByteArray} {j : Nat} (h : j < x.size) : (smallL x.data.toList)[j]? = some (low x[j]) := by
  simp only [smallL, List.getElem?_map, get_data h, Option.map_some]

theorem smallL_length (x : ByteArray) : (smallL x.data.toList).length = x.size := by simp [smallL]

def ordS (x y : ByteArray) : Int := ordL (smallL x.data.toList) (smallL y.data.toList)

def cmpRev : List ByteArray → List ByteArray → Int
  | [], [] => 0
  | [], _ :: _ => -1
  | _ :: _, [] => 1
  | x :: a, y :: b => if ordS x y = 0 then cmpRev a b else ordS x y

def cmpLs (xs ys : List ByteArray) : Int := cmpRev xs.reverse ys.reverse

theorem cmp_stop {a b : List ByteArray} {k : Nat} {x y : ByteArray} (hx : a[k]? = some x) (hy : b[k]? = some y) (h : ordS x y ≠ 0) : cmpRev (a.drop k) (b.drop k) = ordS x y := by
  obtain ⟨h1, rfl⟩ := List.getElem?_eq_some_iff.1 hx
  obtain ⟨h2, rfl⟩ := List.getElem?_eq_some_iff.1 hy
  rw [List.drop_eq_getElem_cons h1, List.drop_eq_getElem_cons h2, cmpRev, if_neg h]

theorem cmp_go {a b : List ByteArray} {k : Nat} {x y : ByteArray} (hx : a[k]? = some x) (hy : b[k]? = some y) (h : ordS x y = 0) : cmpRev (a.drop k) (b.drop k) = cmpRev (a.drop (k + 1)) (b.drop (k + 1)) := by
  obtain ⟨h1, rfl⟩ := List.getElem?_eq_some_iff.1 hx
  obtain ⟨h2, rfl⟩ := List.getElem?_eq_some_iff.1 hy
  rw [List.drop_eq_getElem_cons h1, List.drop_eq_getElem_cons h2, cmpRev, if_pos h]

theorem cmp_end {a b : List ByteArray} {k : Nat} (h1 : k ≤ a.length) (h2 : k ≤ b.length) (h : k = a.length ∨ k = b.length) : cmpRev (a.drop k) (b.drop k) = cmpI a.length b.length := by
  rcases h with h | h
  · rw [List.drop_of_length_le (by omega)]
    by_cases e : k = b.length
    · rw [List.drop_of_length_le (by omega), cmpI_eq (by omega)]; rfl
    · rw [List.drop_eq_getElem_cons (by omega : k < b.length), cmpI_lt (by omega)]; rfl
  · rw [List.drop_of_length_le (l := b) (by omega)]
    by_cases e : k = a.length
    · rw [List.drop_of_length_le (by omega), cmpI_eq (by omega)]; rfl
    · rw [List.drop_eq_getElem_cons (by omega : k < a.length), cmpI_gt (by omega)]; rfl

theorem rev_get {ls : List ByteArray} {k : Nat} (h : k < ls.length) {x : ByteArray} (hx : ls[ls.length - (k + 1)]? = some x) : ls.reverse[k]? = some x := by
  rw [List.getElem?_reverse h, ← hx]
  congr 1
  omega

def cmpS (a b : ByteArray) : Int :=
  match split a, split b with
  | some xs, some ys => cmpLs xs ys
  | _, _ => 0

end Go.Proofs.Ytocadkdfhfiijaa.Nm
/- When two names are the same, as plain mathematics. -/
namespace Go.Proofs.Ytocadkdfhfiijaa
open Go.RowKit

theorem bless_self : ∀ l : List UInt8, Op.bytesLess l l = false := by
  intro l
  induction l with
  | nil => rfl
  | cons x l ih => simp [Op.bytesLess, ih]

theorem ordL_zero (a b : List UInt8) : Nm.ordL a b = 0 ↔ a = b := by
  constructor
  · intro h
    by_cases h1 : Op.bytesLess a b = true
    · rw [Nm.ordL, if_pos h1] at h; omega
    · rw [Nm.ordL, if_neg h1] at h
      by_cases h2 : a = b
      · exact h2
      · rw [if_neg h2] at h; omega
  · intro h
    subst h
    rw [Nm.ordL, if_neg (by simp [bless_self]), if_pos rfl]

def sameS (a b : ByteArray) : Bool := (Nm.split a).isSome && (Nm.split b).isSome && decide (Nm.ordS a b = 0)

theorem same_left {a b : ByteArray} (h : Nm.split a = none) : sameS a b = false := by simp [sameS, h]
theorem same_right {a b : ByteArray} (h : Nm.split b = none) : sameS a b = false := by simp [sameS, h]
theorem same_some {a b : ByteArray} {xs ys : List ByteArray} (ha : Nm.split a = some xs) (hb : Nm.split b = some ys) : sameS a b = decide (Nm.ordS a b = 0) := by simp [sameS, ha, hb]

theorem small_pos {a : ByteArray} {xs : List ByteArray} (h : Nm.split a = some xs) : (Nm.small a).toList.isEmpty = false := by
  apply Nm.tl_not_empty
  rw [Nm.small_size]
  have := Nm.split_size h
  omega

theorem small_eq (a b : ByteArray) : ((Nm.small a).toList == (Nm.small b).toList) = decide (Nm.ordS a b = 0) := by
  rw [Bool.eq_iff_iff]
  simp only [beq_iff_eq, decide_eq_true_eq, Nm.ordS, ordL_zero]
  rw [ByteArray.toList_eq, ByteArray.toList_eq, Nm.small_data, Nm.small_data]

end Go.Proofs.Ytocadkdfhfiijaa
/- What stands below what, as plain mathematics. -/
namespace Go.Proofs.Ytocadkdfhfiijaa
open Go.RowKit

theorem splitF_of : ∀ (zs : List ByteArray) (f : Nat) (r : ByteArray), r.data.toList = Nm.joinL zs → (∀ x ∈ zs, 1 ≤ x.size ∧ x.size ≤ 63) → r.size < f → Nm.splitF f r = some zs := by
  intro zs
  induction zs with
  | nil =>
    intro f r hd _ hf
    have hsz : r.size = 1 := by have := congrArg List.length hd; simpa [Nm.joinL, Nm.preL] using this
    have hp : 0 < r.size := by omega
    have h0 : r[0].toNat = 0 := by
      have e := Nm.get_data hp
      rw [hd] at e
      have : r[0] = 0 := by simpa [Nm.joinL, Nm.preL] using e.symm
      rw [this]; rfl
    obtain ⟨g, rfl⟩ : ∃ g, f = g + 1 := ⟨f - 1, by omega⟩
    exact Nm.splitF_end g r hp h0 hsz
  | cons x t ih =>
    intro f r hd hx hf
    have hx0 := hx x List.mem_cons_self
    have hlen : r.size = (1 + x.size) + Nm.wsum t + 1 := by
      have := congrArg List.length hd
      rw [Nm.joinL_length] at this
      simp only [Nm.wsum] at this
      simpa using this
    have hp : 0 < r.size := by omega
    have e0 : r[0] = UInt8.ofNat x.size := by
      have e := Nm.get_data hp
      rw [hd] at e
      simpa [Nm.joinL, Nm.preL] using e.symm
    have hn : r[0].toNat = x.size := by rw [e0]; simp; omega
    have hd2 : r.data.toList = UInt8.ofNat x.size :: (x.data.toList ++ Nm.joinL t) := by rw [hd]; simp [Nm.joinL, Nm.preL]
    have xl : x.data.toList.length = x.size := by simp
    have c1 : r.extract 1 (x.size + 1) = x := by
      apply Nm.ba_ext
      have e1 : (r.extract 1 (x.size + 1)).data.toList = (r.data.toList.drop 1).take x.size := by simp
      rw [e1, hd2, List.drop_succ_cons, List.drop_zero, ← xl, List.take_left]
    have c2 : (r.extract (x.size + 1) r.size).data.toList = Nm.joinL t := by
      have e2 : (r.extract (x.size + 1) r.size).data.toList = (r.data.toList.drop 1).drop x.size := by
        simp only [ByteArray.data_extract, Array.toList_extract, List.drop_drop]
        rw [List.extract_eq_take_drop, List.take_of_length_le (by simp)]
        congr 1
        omega
      rw [e2, hd2, List.drop_succ_cons, List.drop_zero, ← xl, List.drop_left]
    obtain ⟨g, rfl⟩ : ∃ g, f = g + 1 := ⟨f - 1, by omega⟩
    rw [Nm.splitF_step g r hp (by omega) (by omega) (by omega), hn, c1, ih g _ c2 (fun y hy => hx y (List.mem_cons_of_mem _ hy)) (by simp; omega)]
    rfl

theorem split_of_join {zs : List ByteArray} (h : ∀ x ∈ zs, 1 ≤ x.size ∧ x.size ≤ 63) (hw : Nm.wsum zs ≤ 254) : Nm.split ⟨(Nm.joinL zs).toArray⟩ = some zs := by
  have hsz : (ByteArray.mk (Nm.joinL zs).toArray).size = Nm.wsum zs + 1 := by
    show (Nm.joinL zs).toArray.size = _
    rw [List.size_toArray, Nm.joinL_length]
  rw [Nm.split_short _ (by omega)]
  exact splitF_of zs 256 _ (by simp) h (by omega)

theorem ordS_zero (x y : ByteArray) : Nm.ordS x y = 0 ↔ Nm.small x = Nm.small y := by
  rw [Nm.ordS, ordL_zero]
  constructor
  · intro h
    apply Nm.ba_ext
    rw [Nm.small_data, Nm.small_data, h]
  · intro h
    rw [← Nm.small_data, ← Nm.small_data, h]

theorem cmpRev_zero : ∀ (a b : List ByteArray), Nm.cmpRev a b = 0 ↔ a.map Nm.small = b.map Nm.small := by
  intro a
  induction a with
  | nil =>
    intro b
    cases b with
    | nil => simp [Nm.cmpRev]
    | cons y b => simp [Nm.cmpRev]
  | cons x a ih =>
    intro b
    cases b with
    | nil => simp [Nm.cmpRev]
    | cons y b =>
      rw [Nm.cmpRev]
      by_cases h : Nm.ordS x y = 0
      · rw [if_pos h, ih b]
        simp [(ordS_zero x y).1 h]
      · rw [if_neg h]
        have hne : Nm.small x ≠ Nm.small y := fun e => h ((ordS_zero x y).2 e)
        simp [h, hne]

theorem cmpLs_zero (a b : List ByteArray) : Nm.cmpLs a b = 0 ↔ a.map Nm.small = b.map Nm.small := by
  rw [Nm.cmpLs, cmpRev_zero, List.map_reverse, List.map_reverse]
  constructor
  · intro h; exact List.reverse_inj.1 h
  · intro h; rw [h]

theorem smallL_joinL {zs : List ByteArray} (h : ∀ x ∈ zs, 1 ≤ x.size ∧ x.size ≤ 63) : Nm.smallL (Nm.joinL zs) = Nm.joinL (zs.map Nm.small) := by
  simp only [Nm.joinL]
  rw [Nm.preL_small zs (fun x hx => (h x hx).2)]
  simp [Nm.smallL, Nm.low]

theorem join_inj {a b : List ByteArray} (ha : ∀ x ∈ a, 1 ≤ x.size ∧ x.size ≤ 63) (hb : ∀ x ∈ b, 1 ≤ x.size ∧ x.size ≤ 63) (wa : Nm.wsum a ≤ 254) (wb : Nm.wsum b ≤ 254) (h : Nm.joinL a = Nm.joinL b) : a = b := by
  have h1 := split_of_join ha wa
  have h2 := split_of_join hb wb
  rw [h] at h1
  rw [h1] at h2
  exact Option.some.inj h2

theorem small_ok {zs : List ByteArray} (h : ∀ x ∈ zs, 1 ≤ x.size ∧ x.size ≤ 63) : ∀ x ∈ zs.map Nm.small, 1 ≤ x.size ∧ x.size ≤ 63 := by
  intro x hx
  obtain ⟨y, hy, rfl⟩ := List.mem_map.1 hx
  rw [Nm.small_size]
  exact h y hy

/-- Whether the labels 'xs' end with the labels 'ys', letters folded. -/
def underB (xs ys : List ByteArray) : Bool := decide (ys.length ≤ xs.length) && decide (Nm.cmpLs (xs.drop (xs.length - ys.length)) ys = 0)

/-- Names are the same just if their labels are. -/
theorem ord_join {zs ys : List ByteArray} {b : ByteArray} (hz : ∀ x ∈ zs, 1 ≤ x.size ∧ x.size ≤ 63) (wz : Nm.wsum zs ≤ 254) (hb : Nm.split b = some ys) :
    Nm.ordS ⟨(Nm.joinL zs).toArray⟩ b = 0 ↔ Nm.cmpLs zs ys = 0 := by
  obtain ⟨hj, hy⟩ := Nm.split_join hb
  obtain ⟨wy, wy2⟩ := Nm.split_size hb
  rw [Nm.ordS, ordL_zero, cmpLs_zero]
  simp only
  rw [← hj, smallL_joinL hz, smallL_joinL hy]
  constructor
  · intro h
    exact join_inj (small_ok hz) (small_ok hy) (by rw [Nm.wsum_small]; omega) (by rw [Nm.wsum_small]; omega) h
  · intro h; rw [h]

def isUnderS (a b : ByteArray) : Bool :=
  match Nm.split a, Nm.split b with
  | some xs, some ys => underB xs ys
  | _, _ => false

theorem isUnder_left {a b : ByteArray} (h : Nm.split a = none) : isUnderS a b = false := by simp [isUnderS, h]
theorem isUnder_right {a b : ByteArray} (h : Nm.split b = none) : isUnderS a b = false := by
  cases ha : Nm.split a <;> simp [isUnderS, h, ha]
theorem isUnder_some {a b : ByteArray} {xs ys : List ByteArray} (ha : Nm.split a = some xs) (hb : Nm.split b = some ys) : isUnderS a b = underB xs ys := by simp [isUnderS, ha, hb]

theorem drop_ok {xs : List ByteArray} (h : ∀ x ∈ xs, 1 ≤ x.size ∧ x.size ≤ 63) (k : Nat) : ∀ x ∈ xs.drop k, 1 ≤ x.size ∧ x.size ≤ 63 :=
  fun x hx => h x (List.mem_of_mem_drop hx)

/-- What the model asks: whether the name of the last labels is the other. -/
theorem under_same {xs ys : List ByteArray} {a b : ByteArray} (ha : Nm.split a = some xs) (hb : Nm.split b = some ys) (hl : ys.length ≤ xs.length) :
    sameS ⟨(Nm.joinL (xs.drop (xs.length - ys.length))).toArray⟩ b = underB xs ys := by
  have hx := (Nm.split_join ha).2
  have hw := Nm.split_size ha
  have hd := Nm.wsum_drop_le xs (xs.length - ys.length)
  have hs := split_of_join (drop_ok hx (xs.length - ys.length)) (by omega)
  rw [same_some hs hb, underB]
  simp only [hl, decide_true, Bool.true_and]
  rw [Bool.eq_iff_iff]
  simp only [decide_eq_true_eq]
  exact ord_join (drop_ok hx _) (by omega) hb

end Go.Proofs.Ytocadkdfhfiijaa
/- spec.l01Name by its contract: a name. -/
namespace Go.Proofs.Ytocadkdfhfiijaa
open Go.RowKit

def VL (ls : List ByteArray) : Prop := ∀ x ∈ ls, 1 ≤ x.size ∧ x.size ≤ 63
theorem VL.snoc {ls : List ByteArray} {x : ByteArray} (h : VL ls) (hx : 1 ≤ x.size ∧ x.size ≤ 63) : VL (ls ++ [x]) := by
  intro y hy
  rcases List.mem_append.1 hy with hy | hy
  · exact h y hy
  · simp at hy; subst hy; exact hx
theorem VL.name {ls : List ByteArray} (h : VL ls) (hw : Nm.wsum ls ≤ 254) : (Nm.split ⟨(Nm.joinL ls).toArray⟩).isSome = true := by rw [split_of_join h hw]; rfl

set_option maxRecDepth 100000 in
set_option maxHeartbeats 1600000 in
theorem l01NameV_any (g : Nat) (a : Option Addr) (n cap : Nat) (w : World) (h : Src w g a n cap) :
    Calls Try.prog 26 #[.pointer (some ⟨g, 0, none⟩)] w fun e w' => ∃ s : ByteArray, e = .returned (.string s) ∧ (Nm.split s).isSome = true ∧ Src w' g a n cap ∧ w.grownBy w' (some g) := by
  obtain ⟨i0, hi, hz0, hz1, hz2⟩ := info_parts Try.infoStr
  obtain ⟨hcode, hglt⟩ := src_code h
  go_enter Try.func26, Try.ntmps26
  go_wp2_with fail
  refine (l01Next_any g a n cap 5 _ (src_below h ((Below.refl _ _).alloc (Nat.le_refl _) _)) (by decide)).mono ?_
  rintro e w1 ⟨m, rfl, hm0, hm1, hsrc1, hgr1⟩
  have hm2 := hm1 (by decide)
  obtain ⟨m, rfl⟩ := Int.eq_ofNat_of_zero_le hm0
  have hrow1 : w1.ownsRow w.heap.size 9 1 (.slice (some ⟨w.heap.size, 0, none⟩) 0 0) 0 [] :=
    (World.ownsRow_made w #[] 0 (Nat.le_refl _) (by decide) rfl).kept hgr1 (.inr (by simp only [Value.ownBlock, ne_eq, Option.some.injEq]; omega))
  have hg1 : w.grownBy w1 (some g) := grown_step (grown_alloc (World.grownBy.refl _ _) _) hgr1
  clear hm1 hgr1 h
  go_wp2_with fail
  go_loopw [3, 5] (fun v i wr => ∃ (k : Nat) (ls : List ByteArray), k ≤ m ∧ i = .int .i64 k ∧ wr.ownsRow w.heap.size 9 1 v ls.length (ls.map Value.string) ∧ Nm.wsum ls ≤ 5 * k ∧ VL ls ∧ ls.length = k ∧ Src wr g a n cap ∧ w.grownBy wr (some g))
    (fun _ i _ => m - (intOf i).toNat)
  case atStart => exact ⟨0, [], Nat.zero_le _, rfl, hrow1, by simp [Nm.wsum], (by intro x hx; cases hx), rfl, hsrc1, hg1⟩
  case round =>
    obtain ⟨k, ls, hk, rfl, hown, hws, hvl, hlk, hsrc, hgr⟩ := hrel
    have hsz := hgr.size
    clear hrow1 hsrc1 hg1
    have HLK := Nm.hide hlk
    clear hlk
    by_cases hlt : k < m
    · go_wp2_with (first | (go_at_call 51; refine (l01LabelV_any g a n cap _ hsrc).mono ?_; rintro e w3 ⟨x, rfl, hx, hsrc3, hgr3⟩; have hown3 := hown.kept hgr3 (row_src hown hsrc (by decide)); have hg3 := grown_step hgr hgr3; have hsz3 := hg3.size) | (at_builtin; refine wpList_append_own _ rfl (.tmp 15) (.tmp 18) 103 rfl w.heap.size 9 i0 (.string ByteArray.empty) 1 16 Try.underlying103 hi hz0 hz1 hz2 rfl (by decide) _ _ _ rfl (hown3.alloc _) ⟨w3.heap.size, 0, none⟩ 1 1 [.string x] rfl rfl (cell_one_new _ _ _) (Nm.one_cell _ rfl) (by have := HLK.out; unfold maxLen; omega) (by have := HLK.out; omega) (by simp; omega) ?_; intro vb wb hown4 hgrow4 hnl4; clear hnl4; have R := str_step hown3 hsrc3 hg3 hglt hcode hown4 hgrow4; clear hown4 hgrow4))
      go_roundw
      case rel => exact ⟨k + 1, _, by omega, by go_num, R.1, by rw [wsum_snoc]; omega, hvl.snoc ⟨hx.1, by omega⟩, by have := HLK.out; simp; omega, R.2.1, R.2.2⟩
      case measure => simp [intOf]; omega
    · have hke : k = m := by omega
      subst hke
      go_wp2_with fail
      refine (l01Next_any g a n cap 3 _ hsrc (by decide)).mono ?_
      rintro e w2 ⟨q, rfl, hq0, hq1, hsrc2, hgr2⟩
      have hown2 := hown.kept hgr2 (row_src hown hsrc (by decide))
      have hg2 := grown_step hgr hgr2
      have hsz2 := hg2.size
      have hbl : Nm.wsum ls ≤ 200 := by omega
      clear hq1 hown hsrc hgr hgr2 hlt
      by_cases hq : 0 < q
      · go_wp2_with (at_builtin; refine wpList_append_own _ rfl (.tmp 23) (.tmp 24) 103 rfl w.heap.size 9 i0 (.string ByteArray.empty) 1 16 Try.underlying103 hi hz0 hz1 hz2 rfl (by decide) _ _ _ rfl (hown2.alloc _) ⟨w2.heap.size, 0, none⟩ 1 1 [.string ⟨#[101, 120, 97, 109, 112, 108, 101]⟩] rfl rfl (cell_one_new _ _ _) (Nm.one_cell _ rfl) (by have := HLK.out; unfold maxLen; omega) (by have := HLK.out; omega) (by simp; omega) ?_; intro vb wb hown4 hgrow4 hnl4; clear hnl4; have R := str_step hown2 hsrc2 hg2 hglt hcode hown4 hgrow4; clear hown4 hgrow4)
        have hw9 : Nm.wsum (ls ++ [⟨#[101, 120, 97, 109, 112, 108, 101]⟩]) ≤ 254 := by
          rw [wsum_snoc]
          have : (ByteArray.mk #[101, 120, 97, 109, 112, 108, 101]).size = 7 := rfl
          omega
        have hv9 : VL (ls ++ [⟨#[101, 120, 97, 109, 112, 108, 101]⟩]) := hvl.snoc (by decide)
        obtain ⟨hownC, hsC, hgC⟩ := R
        generalize ls ++ [⟨#[101, 120, 97, 109, 112, 108, 101]⟩] = ls2 at hownC hw9 hv9
        clear hown2 hsrc2 hg2
        refine (l01Next_any g a n cap 20 _ hsC (by decide)).mono ?_
        rintro e wn ⟨p, rfl, hp0, hp1, hsN, hgN⟩
        have hownN := hownC.kept hgN (row_src hownC hsC (by decide))
        have hgNN := grown_step hgC hgN
        have hszN := hgNN.size
        clear hp1 hownC hsC hgC hgN
        by_cases hp : p = 0
        · subst hp
          clear hownN
          go_wp2_with fail
          go_loopg [3] 300 (fun gh v wr => ∃ ls3 : List ByteArray, wr.ownsRow w.heap.size 9 1 v ls3.length (ls3.map Value.string) ∧ Nm.wsum ls3 + gh = 300 ∧ Nm.wsum ls3 ≤ 252 ∧ VL ls3 ∧ Src wr g a n cap ∧ w.grownBy wr (some g))
          case atStart => exact ⟨[], World.ownsRow_made wn #[] 0 hszN (by decide) rfl, by simp [Nm.wsum], by simp [Nm.wsum], (by intro x hx; cases hx), src_below hsN ((Below.refl _ _).alloc (Nat.le_refl _) _), grown_alloc hgNN _⟩
          case round =>
            obtain ⟨ls3, hown3, hgh, hw3, hv3, hs3, hg3⟩ := hrel
            have HJ3 : Hid ((Nm.split ⟨(Nm.joinL ls3).toArray⟩).isSome = true) := hv3.name (by omega)
            have hl3 := Nm.length_le_wsum ls3
            clear hsN hgNN hszN
            go_wp2_with fail
            refine (l01Join_any _ ls3 _ (Nm.SRow.of_owns hown3) (by omega)).mono ?_
            rintro e wj ⟨rfl, hbj⟩
            have hownj := own_below hown3 hbj
            have hsj := src_below hs3 hbj
            have hgj := grown_below hg3 hbj
            have hszj := hgj.size
            have hjs := mkj_size ls3
            have hjn := fun W hq => l01Join_any u3 ls3 W hq (by omega)
            generalize ByteArray.mk (Nm.joinL ls3).toArray = J at *
            clear hown3 hs3 hg3 hbj
            by_cases hlt : Nm.wsum ls3 + 1 < 190
            · have hJ : (J.size : Int) < 190 := by omega
              clear hjs hjn
              go_wp2_with (first | (go_at_call 12; refine (l01Next_any g a n cap 63 _ hsj (by decide)).mono ?_; rintro e w5 ⟨r, rfl, hr0, hr1, hs5, hg5⟩; have hr2 := hr1 (by decide); have hown5 := hownj.kept hg5 (row_src hownj hsj (by decide)); have hgg5 := grown_step hgj hg5; clear hr1) | (go_at_call 53; refine (l01Bytes_any g a n cap _ _ hs5 (by omega) (by omega)).mono ?_; rintro e w6 ⟨x, rfl, hx, hs6, hg6⟩; have hown6 := hown5.kept hg6 (row_src hown5 hs5 (by decide)); have hgg6 := grown_step hgg5 hg6; have hsz6 := hgg6.size) | (at_builtin; refine wpList_append_own _ rfl (.tmp 34) (.tmp 40) 103 rfl w.heap.size 9 i0 (.string ByteArray.empty) 1 16 Try.underlying103 hi hz0 hz1 hz2 rfl (by decide) _ _ _ rfl (hown6.alloc _) ⟨w6.heap.size, 0, none⟩ 1 1 [.string x] rfl rfl (cell_one_new _ _ _) (Nm.one_cell _ rfl) (by unfold maxLen; omega) (by omega) (by simp; omega) ?_; intro vb wb hown7 hgrow7 hnl7; clear hnl7; have R7 := str_step hown6 hs6 hgg6 hglt hcode hown7 hgrow7; clear hown7 hgrow7))
              have hsn := wsum_snoc ls3 x
              go_roundg (300 - Nm.wsum (ls3 ++ [x]))
              case measure => omega
              case rel => exact ⟨_, R7.1, by omega, by omega, hv3.snoc ⟨by omega, by omega⟩, R7.2.1, R7.2.2⟩
            · have hJ : (190 : Int) ≤ (J.size : Int) := by omega
              have hJ2 : (J.size : Int) ≤ 253 := by omega
              go_wp2_with fail
              refine (hjn _ (Nm.SRow.of_owns hownj)).mono ?_
              rintro e wk ⟨rfl, hbk⟩
              have hownk := own_below hownj hbk
              have hsk := src_below hsj hbk
              have hgk := grown_below hgj hbk
              have hszk := hgk.size
              clear hownj hsj hgj hbk
              by_cases hroom : J.size ≤ 253 ∧ 191 ≤ J.size
              · have r1 : (0 : Int) < 254 - (J.size : Int) := by omega
                have r2 : 254 - (J.size : Int) ≤ 63 := by omega
                have r1' : (0 : Int) < 255 - (J.size : Int) - 1 := by omega
                have r2' : 255 - (J.size : Int) - 1 ≤ 63 := by omega
                go_wp2_with (first | (go_at_call 53; refine (l01Bytes_any g a n cap _ _ hsk (by omega) (by omega)).mono ?_; rintro e w6 ⟨x, rfl, hx, hs6, hg6⟩; have hown6 := hownk.kept hg6 (row_src hownk hsk (by decide)); have hgg6 := grown_step hgk hg6; have hsz6 := hgg6.size) | (at_builtin; refine wpList_append_own _ rfl (.tmp 53) (.tmp 57) 103 rfl w.heap.size 9 i0 (.string ByteArray.empty) 1 16 Try.underlying103 hi hz0 hz1 hz2 rfl (by decide) _ _ _ rfl (hown6.alloc _) ⟨w6.heap.size, 0, none⟩ 1 1 [.string x] rfl rfl (cell_one_new _ _ _) (Nm.one_cell _ rfl) (by unfold maxLen; omega) (by omega) (by simp; omega) ?_; intro vb wb hown7 hgrow7 hnl7; clear hnl7; have R7 := str_step hown6 hs6 hgg6 hglt hcode hown7 hgrow7; clear hown7 hgrow7))
                obtain ⟨hown8, hs8, hg8⟩ := R7
                have hsn := wsum_snoc ls3 x
                have hj8 := mkj_size (ls3 ++ [x])
                have HJ8 : Hid ((Nm.split ⟨(Nm.joinL (ls3 ++ [x])).toArray⟩).isSome = true) := (hv3.snoc ⟨by omega, by omega⟩).name (by omega)
                refine (l01Join_any _ (ls3 ++ [x]) _ (Nm.SRow.of_owns hown8) (by omega)).mono ?_
                rintro e w9 ⟨rfl, hb9⟩
                have hown9 := own_below hown8 hb9
                have hs9 := src_below hs8 hb9
                have hg9 := grown_below hg8 hb9
                have hjn9 := fun V W hq => l01Join_any V (ls3 ++ [x]) W hq (by omega)
                generalize ByteArray.mk (Nm.joinL (ls3 ++ [x])).toArray = J8 at *
                have hJ8 : (J8.size : Int) ≤ 255 := by omega
                clear hj8 hjs
                go_wp2_with fail
                refine (hjn9 _ _ (Nm.SRow.of_owns hown9)).mono ?_
                rintro e w10 ⟨rfl, hb10⟩
                go_wp2
                go_ret
                exact ⟨_, rfl, HJ8.out, src_below hs9 hb10, grown_below hg9 hb10⟩
              · have r1 : (63 : Int) < 255 - (J.size : Int) - 1 := by omega
                have r0 : (0 : Int) < 255 - (J.size : Int) - 1 := by omega
                have r2 : decide (255 - (J.size : Int) - 1 ≤ 63) = false := by simp; omega
                go_wp2_with fail
                refine (hjn _ (Nm.SRow.of_owns hownk)).mono ?_
                rintro e w9 ⟨rfl, hb9⟩
                have hown9 := own_below hownk hb9
                have hs9 := src_below hsk hb9
                have hg9 := grown_below hgk hb9
                have hJ8 : (J.size : Int) ≤ 255 := by omega
                have HJ8 := HJ3
                clear hjs
                go_wp2_with fail
                refine (hjn _ (Nm.SRow.of_owns hown9)).mono ?_
                rintro e w10 ⟨rfl, hb10⟩
                go_wp2
                go_ret
                exact ⟨_, rfl, HJ8.out, src_below hs9 hb10, grown_below hg9 hb10⟩
        · have hp' : (p == 0) = false := by rw [beq_eq_false_iff_ne]; exact hp
          go_wp2_with fail
          refine (l01Join_any _ ls2 _ (Nm.SRow.of_owns hownN) (by omega)).mono ?_
          rintro e wz ⟨rfl, hbz⟩
          have hjz := mkj_size ls2
          have HJ8 : Hid ((Nm.split ⟨(Nm.joinL ls2).toArray⟩).isSome = true) := hv9.name hw9
          generalize ByteArray.mk (Nm.joinL ls2).toArray = J at *
          clear hjz
          go_wp2
          go_ret
          exact ⟨_, rfl, HJ8.out, src_below hsN hbz, grown_below hgNN hbz⟩
      · have hq' : q ≤ 0 := by omega
        have hw9 : Nm.wsum ls ≤ 400 := by omega
        have hownC := hown2
        have hsC := hsrc2
        have hgC := hg2
        clear hown2 hsrc2 hg2
        go_wp2_with fail
        refine (l01Next_any g a n cap 20 _ hsC (by decide)).mono ?_
        rintro e wn ⟨p, rfl, hp0, hp1, hsN, hgN⟩
        have hownN := hownC.kept hgN (row_src hownC hsC (by decide))
        have hgNN := grown_step hgC hgN
        have hszN := hgNN.size
        clear hp1 hownC hsC hgC hgN
        by_cases hp : p = 0
        · subst hp
          clear hownN
          go_wp2_with fail
          go_loopg [3] 300 (fun gh v wr => ∃ ls3 : List ByteArray, wr.ownsRow w.heap.size 9 1 v ls3.length (ls3.map Value.string) ∧ Nm.wsum ls3 + gh = 300 ∧ Nm.wsum ls3 ≤ 252 ∧ VL ls3 ∧ Src wr g a n cap ∧ w.grownBy wr (some g))
          case atStart => exact ⟨[], World.ownsRow_made wn #[] 0 hszN (by decide) rfl, by simp [Nm.wsum], by simp [Nm.wsum], (by intro x hx; cases hx), src_below hsN ((Below.refl _ _).alloc (Nat.le_refl _) _), grown_alloc hgNN _⟩
          case round =>
            obtain ⟨ls3, hown3, hgh, hw3, hv3, hs3, hg3⟩ := hrel
            have HJ3 : Hid ((Nm.split ⟨(Nm.joinL ls3).toArray⟩).isSome = true) := hv3.name (by omega)
            have hl3 := Nm.length_le_wsum ls3
            clear hsN hgNN hszN
            go_wp2_with fail
            refine (l01Join_any _ ls3 _ (Nm.SRow.of_owns hown3) (by omega)).mono ?_
            rintro e wj ⟨rfl, hbj⟩
            have hownj := own_below hown3 hbj
            have hsj := src_below hs3 hbj
            have hgj := grown_below hg3 hbj
            have hszj := hgj.size
            have hjs := mkj_size ls3
            have hjn := fun W hq => l01Join_any u3 ls3 W hq (by omega)
            generalize ByteArray.mk (Nm.joinL ls3).toArray = J at *
            clear hown3 hs3 hg3 hbj
            by_cases hlt : Nm.wsum ls3 + 1 < 190
            · have hJ : (J.size : Int) < 190 := by omega
              clear hjs hjn
              go_wp2_with (first | (go_at_call 12; refine (l01Next_any g a n cap 63 _ hsj (by decide)).mono ?_; rintro e w5 ⟨r, rfl, hr0, hr1, hs5, hg5⟩; have hr2 := hr1 (by decide); have hown5 := hownj.kept hg5 (row_src hownj hsj (by decide)); have hgg5 := grown_step hgj hg5; clear hr1) | (go_at_call 53; refine (l01Bytes_any g a n cap _ _ hs5 (by omega) (by omega)).mono ?_; rintro e w6 ⟨x, rfl, hx, hs6, hg6⟩; have hown6 := hown5.kept hg6 (row_src hown5 hs5 (by decide)); have hgg6 := grown_step hgg5 hg6; have hsz6 := hgg6.size) | (at_builtin; refine wpList_append_own _ rfl (.tmp 34) (.tmp 40) 103 rfl w.heap.size 9 i0 (.string ByteArray.empty) 1 16 Try.underlying103 hi hz0 hz1 hz2 rfl (by decide) _ _ _ rfl (hown6.alloc _) ⟨w6.heap.size, 0, none⟩ 1 1 [.string x] rfl rfl (cell_one_new _ _ _) (Nm.one_cell _ rfl) (by unfold maxLen; omega) (by omega) (by simp; omega) ?_; intro vb wb hown7 hgrow7 hnl7; clear hnl7; have R7 := str_step hown6 hs6 hgg6 hglt hcode hown7 hgrow7; clear hown7 hgrow7))
              have hsn := wsum_snoc ls3 x
              go_roundg (300 - Nm.wsum (ls3 ++ [x]))
              case measure => omega
              case rel => exact ⟨_, R7.1, by omega, by omega, hv3.snoc ⟨by omega, by omega⟩, R7.2.1, R7.2.2⟩
            · have hJ : (190 : Int) ≤ (J.size : Int) := by omega
              have hJ2 : (J.size : Int) ≤ 253 := by omega
              go_wp2_with fail
              refine (hjn _ (Nm.SRow.of_owns hownj)).mono ?_
              rintro e wk ⟨rfl, hbk⟩
              have hownk := own_below hownj hbk
              have hsk := src_below hsj hbk
              have hgk := grown_below hgj hbk
              have hszk := hgk.size
              clear hownj hsj hgj hbk
              by_cases hroom : J.size ≤ 253 ∧ 191 ≤ J.size
              · have r1 : (0 : Int) < 254 - (J.size : Int) := by omega
                have r2 : 254 - (J.size : Int) ≤ 63 := by omega
                have r1' : (0 : Int) < 255 - (J.size : Int) - 1 := by omega
                have r2' : 255 - (J.size : Int) - 1 ≤ 63 := by omega
                go_wp2_with (first | (go_at_call 53; refine (l01Bytes_any g a n cap _ _ hsk (by omega) (by omega)).mono ?_; rintro e w6 ⟨x, rfl, hx, hs6, hg6⟩; have hown6 := hownk.kept hg6 (row_src hownk hsk (by decide)); have hgg6 := grown_step hgk hg6; have hsz6 := hgg6.size) | (at_builtin; refine wpList_append_own _ rfl (.tmp 53) (.tmp 57) 103 rfl w.heap.size 9 i0 (.string ByteArray.empty) 1 16 Try.underlying103 hi hz0 hz1 hz2 rfl (by decide) _ _ _ rfl (hown6.alloc _) ⟨w6.heap.size, 0, none⟩ 1 1 [.string x] rfl rfl (cell_one_new _ _ _) (Nm.one_cell _ rfl) (by unfold maxLen; omega) (by omega) (by simp; omega) ?_; intro vb wb hown7 hgrow7 hnl7; clear hnl7; have R7 := str_step hown6 hs6 hgg6 hglt hcode hown7 hgrow7; clear hown7 hgrow7))
                obtain ⟨hown8, hs8, hg8⟩ := R7
                have hsn := wsum_snoc ls3 x
                have hj8 := mkj_size (ls3 ++ [x])
                have HJ8 : Hid ((Nm.split ⟨(Nm.joinL (ls3 ++ [x])).toArray⟩).isSome = true) := (hv3.snoc ⟨by omega, by omega⟩).name (by omega)
                refine (l01Join_any _ (ls3 ++ [x]) _ (Nm.SRow.of_owns hown8) (by omega)).mono ?_
                rintro e w9 ⟨rfl, hb9⟩
                have hown9 := own_below hown8 hb9
                have hs9 := src_below hs8 hb9
                have hg9 := grown_below hg8 hb9
                have hjn9 := fun V W hq => l01Join_any V (ls3 ++ [x]) W hq (by omega)
                generalize ByteArray.mk (Nm.joinL (ls3 ++ [x])).toArray = J8 at *
                have hJ8 : (J8.size : Int) ≤ 255 := by omega
                clear hj8 hjs
                go_wp2_with fail
                refine (hjn9 _ _ (Nm.SRow.of_owns hown9)).mono ?_
                rintro e w10 ⟨rfl, hb10⟩
                go_wp2
                go_ret
                exact ⟨_, rfl, HJ8.out, src_below hs9 hb10, grown_below hg9 hb10⟩
              · have r1 : (63 : Int) < 255 - (J.size : Int) - 1 := by omega
                have r0 : (0 : Int) < 255 - (J.size : Int) - 1 := by omega
                have r2 : decide (255 - (J.size : Int) - 1 ≤ 63) = false := by simp; omega
                go_wp2_with fail
                refine (hjn _ (Nm.SRow.of_owns hownk)).mono ?_
                rintro e w9 ⟨rfl, hb9⟩
                have hown9 := own_below hownk hb9
                have hs9 := src_below hsk hb9
                have hg9 := grown_below hgk hb9
                have hJ8 : (J.size : Int) ≤ 255 := by omega
                have HJ8 := HJ3
                clear hjs
                go_wp2_with fail
                refine (hjn _ (Nm.SRow.of_owns hown9)).mono ?_
                rintro e w10 ⟨rfl, hb10⟩
                go_wp2
                go_ret
                exact ⟨_, rfl, HJ8.out, src_below hs9 hb10, grown_below hg9 hb10⟩
        · have hp' : (p == 0) = false := by rw [beq_eq_false_iff_ne]; exact hp
          go_wp2_with fail
          refine (l01Join_any _ ls _ (Nm.SRow.of_owns hownN) (by omega)).mono ?_
          rintro e wz ⟨rfl, hbz⟩
          have hjz := mkj_size ls
          have HJ8 : Hid ((Nm.split ⟨(Nm.joinL ls).toArray⟩).isSome = true) := hvl.name (by omega)
          generalize ByteArray.mk (Nm.joinL ls).toArray = J at *
          clear hjz
          go_wp2
          go_ret
          exact ⟨_, rfl, HJ8.out, src_below hsN hbz, grown_below hgNN hbz⟩
end Go.Proofs.Ytocadkdfhfiijaa
