import Derived.Test.YtoiajlgmnkoekaaSameM
/- What stands below what, as plain mathematics. -/
namespace Go.Proofs.Ytoiajlgmnkoekaa
open Go.RowKit

theorem splitF_of : ∀ (zs : List ByteArray) (f : Nat) (r : ByteArray), r.data.toList = Nm.joinL zs → (∀ x ∈ zs, 1 ≤ x.size ∧ x.size ≤ 63) → r.size < f → Nm.splitF f r = some zs := by
  intro zs
  induction zs with
  | nil =>
    intro f r hd _ hf
    have hsz : r.size = 1 := by have := congrArg List.length hd; simpa [Nm.joinL, Nm.preL] using this
    have hp : 0 < r.size := by omega
    have h0 : r[0].toNat = 0 := by
      have e := Nm.get_data hp
      rw [hd] at e
      have : r[0] = 0 := by simpa [Nm.joinL, Nm.preL] using e.symm
      rw [this]; rfl
    obtain ⟨g, rfl⟩ : ∃ g, f = g + 1 := ⟨f - 1, by omega⟩
    exact Nm.splitF_end g r hp h0 hsz
  | cons x t ih =>
    intro f r hd hx hf
    have hx0 := hx x List.mem_cons_self
    have hlen : r.size = (1 + x.size) + Nm.wsum t + 1 := by
      have := congrArg List.length hd
      rw [Nm.joinL_length] at this
      simp only [Nm.wsum] at this
      simpa using this
    have hp : 0 < r.size := by omega
    have e0 : r[0] = UInt8.ofNat x.size := by
      have e := Nm.get_data hp
      rw [hd] at e
      simpa [Nm.joinL, Nm.preL] using e.symm
    have hn : r[0].toNat = x.size := by rw [e0]; simp; omega
    have hd2 : r.data.toList = UInt8.ofNat x.size :: (x.data.toList ++ Nm.joinL t) := by rw [hd]; simp [Nm.joinL, Nm.preL]
    have xl : x.data.toList.length = x.size := by simp
    have c1 : r.extract 1 (x.size + 1) = x := by
      apply Nm.ba_ext
      have e1 : (r.extract 1 (x.size + 1)).data.toList = (r.data.toList.drop 1).take x.size := by simp
      rw [e1, hd2, List.drop_succ_cons, List.drop_zero, ← xl, List.take_left]
    have c2 : (r.extract (x.size + 1) r.size).data.toList = Nm.joinL t := by
      have e2 : (r.extract (x.size + 1) r.size).data.toList = (r.data.toList.drop 1).drop x.size := by
        simp only [ByteArray.data_extract, Array.toList_extract, List.drop_drop]
        rw [List.extract_eq_take_drop, List.take_of_length_le (by simp)]
        congr 1
        omega
      rw [e2, hd2, List.drop_succ_cons, List.drop_zero, ← xl, List.drop_left]
    obtain ⟨g, rfl⟩ : ∃ g, f = g + 1 := ⟨f - 1, by omega⟩
    rw [Nm.splitF_step g r hp (by omega) (by omega) (by omega), hn, c1, ih g _ c2 (fun y hy => hx y (List.mem_cons_of_mem _ hy)) (by simp; omega)]
    rfl

theorem split_of_join {zs : List ByteArray} (h : ∀ x ∈ zs, 1 ≤ x.size ∧ x.size ≤ 63) (hw : Nm.wsum zs ≤ 254) : Nm.split ⟨(Nm.joinL zs).toArray⟩ = some zs := by
  have hsz : (ByteArray.mk (Nm.joinL zs).toArray).size = Nm.wsum zs + 1 := by
    show (Nm.joinL zs).toArray.size = _
    rw [List.size_toArray, Nm.joinL_length]
  rw [Nm.split_short _ (by omega)]
  exact splitF_of zs 256 _ (by simp) h (by omega)

theorem ordS_zero (x y : ByteArray) : Nm.ordS x y = 0 ↔ Nm.small x = Nm.small y := by
  rw [Nm.ordS, ordL_zero]
  constructor
  · intro h
    apply Nm.ba_ext
    rw [Nm.small_data, Nm.small_data, h]
  · intro h
    rw [← Nm.small_data, ← Nm.small_data, h]

theorem cmpRev_zero : ∀ (a b : List ByteArray), Nm.cmpRev a b = 0 ↔ a.map Nm.small = b.map Nm.small := by
  intro a
  induction a with
  | nil =>
    intro b
    cases b with
    | nil => simp [Nm.cmpRev]
    | cons y b => simp [Nm.cmpRev]
  | cons x a ih =>
    intro b
    cases b with
    | nil => simp [Nm.cmpRev]
    | cons y b =>
      rw [Nm.cmpRev]
      by_cases h : Nm.ordS x y = 0
      · rw [if_pos h, ih b]
        simp [(ordS_zero x y).1 h]
      · rw [if_neg h]
        have hne : Nm.small x ≠ Nm.small y := fun e => h ((ordS_zero x y).2 e)
        simp [h, hne]

theorem cmpLs_zero (a b : List ByteArray) : Nm.cmpLs a b = 0 ↔ a.map Nm.small = b.map Nm.small := by
  rw [Nm.cmpLs, cmpRev_zero, List.map_reverse, List.map_reverse]
  constructor
  · intro h; exact List.reverse_inj.1 h
  · intro h; rw [h]

theorem smallL_joinL {zs : List ByteArray} (h : ∀ x ∈ zs, 1 ≤ x.size ∧ x.size ≤ 63) : Nm.smallL (Nm.joinL zs) = Nm.joinL (zs.map Nm.small) := by
  simp only [Nm.joinL]
  rw [Nm.preL_small zs (fun x hx => (h x hx).2)]
  simp [Nm.smallL, Nm.low]

theorem join_inj {a b : List ByteArray} (ha : ∀ x ∈ a, 1 ≤ x.size ∧ x.size ≤ 63) (hb : ∀ x ∈ b, 1 ≤ x.size ∧ x.size ≤ 63) (wa : Nm.wsum a ≤ 254) (wb : Nm.wsum b ≤ 254) (h : Nm.joinL a = Nm.joinL b) : a = b := by
  have h1 := split_of_join ha wa
  have h2 := split_of_join hb wb
  rw [h] at h1
  rw [h1] at h2
  exact Option.some.inj h2

theorem small_ok {zs : List ByteArray} (h : ∀ x ∈ zs, 1 ≤ x.size ∧ x.size ≤ 63) : ∀ x ∈ zs.map Nm.small, 1 ≤ x.size ∧ x.size ≤ 63 := by
  intro x hx
  obtain ⟨y, hy, rfl⟩ := List.mem_map.1 hx
  rw [Nm.small_size]
  exact h y hy

/-- Whether the labels 'xs' end with the labels 'ys', letters folded. -/
def underB (xs ys : List ByteArray) : Bool := decide (ys.length ≤ xs.length) && decide (Nm.cmpLs (xs.drop (xs.length - ys.length)) ys = 0)

/-- Names are the same just if their labels are. -/
theorem ord_join {zs ys : List ByteArray} {b : ByteArray} (hz : ∀ x ∈ zs, 1 ≤ x.size ∧ x.size ≤ 63) (wz : Nm.wsum zs ≤ 254) (hb : Nm.split b = some ys) :
    Nm.ordS ⟨(Nm.joinL zs).toArray⟩ b = 0 ↔ Nm.cmpLs zs ys = 0 := by
  obtain ⟨hj, hy⟩ := Nm.split_join hb
  obtain ⟨wy, wy2⟩ := Nm.split_size hb
  rw [Nm.ordS, ordL_zero, cmpLs_zero]
  simp only
  rw [← hj, smallL_joinL hz, smallL_joinL hy]
  constructor
  · intro h
    exact join_inj (small_ok hz) (small_ok hy) (by rw [Nm.wsum_small]; omega) (by rw [Nm.wsum_small]; omega) h
  · intro h; rw [h]

def isUnderS (a b : ByteArray) : Bool :=
  match Nm.split a, Nm.split b with
  | some xs, some ys => underB xs ys
  | _, _ => false

theorem isUnder_left {a b : ByteArray} (h : Nm.split a = none) : isUnderS a b = false := by simp [isUnderS, h]
theorem isUnder_right {a b : ByteArray} (h : Nm.split b = none) : isUnderS a b = false := by
  cases ha : Nm.split a <;> simp [isUnderS, h, ha]
theorem isUnder_some {a b : ByteArray} {xs ys : List ByteArray} (ha : Nm.split a = some xs) (hb : Nm.split b = some ys) : isUnderS a b = underB xs ys := by simp [isUnderS, ha, hb]

theorem drop_ok {xs : List ByteArray} (h : ∀ x ∈ xs, 1 ≤ x.size ∧ x.size ≤ 63) (k : Nat) : ∀ x ∈ xs.drop k, 1 ≤ x.size ∧ x.size ≤ 63 :=
  fun x hx => h x (List.mem_of_mem_drop hx)

/-- What the model asks: whether the name of the last labels is the other. -/
theorem under_same {xs ys : List ByteArray} {a b : ByteArray} (ha : Nm.split a = some xs) (hb : Nm.split b = some ys) (hl : ys.length ≤ xs.length) :
    sameS ⟨(Nm.joinL (xs.drop (xs.length - ys.length))).toArray⟩ b = underB xs ys := by
  have hx := (Nm.split_join ha).2
  have hw := Nm.split_size ha
  have hd := Nm.wsum_drop_le xs (xs.length - ys.length)
  have hs := split_of_join (drop_ok hx (xs.length - ys.length)) (by omega)
  rw [same_some hs hb, underB]
  simp only [hl, decide_true, Bool.true_and]
  rw [Bool.eq_iff_iff]
  simp only [decide_eq_true_eq]
  exact ord_join (drop_ok hx _) (by omega) hb

end Go.Proofs.Ytoiajlgmnkoekaa
