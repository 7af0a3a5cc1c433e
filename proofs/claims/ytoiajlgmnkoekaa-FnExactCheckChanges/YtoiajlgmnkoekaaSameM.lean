import Derived.Test.YtoiajlgmnkoekaaCmpM
/- When two names are the same, as plain mathematics. -/
namespace Go.Proofs.Ytoiajlgmnkoekaa
open Go.RowKit

theorem bless_self : ∀ l : List UInt8, Op.bytesLess l l = false := by
  intro l
  induction l with
  | nil => rfl
  | cons x l ih => simp [Op.bytesLess, ih]

theorem ordL_zero (a b : List UInt8) : Nm.ordL a b = 0 ↔ a = b := by
  constructor
  · intro h
    by_cases h1 : Op.bytesLess a b = true
    · rw [Nm.ordL, if_pos h1] at h; omega
    · rw [Nm.ordL, if_neg h1] at h
      by_cases h2 : a = b
      · exact h2
      · rw [if_neg h2] at h; omega
  · intro h
    subst h
    rw [Nm.ordL, if_neg (by simp [bless_self]), if_pos rfl]

def sameS (a b : ByteArray) : Bool := (Nm.split a).isSome && (Nm.split b).isSome && decide (Nm.ordS a b = 0)

theorem same_left {a b : ByteArray} (h : Nm.split a = none) : sameS a b = false := by simp [sameS, h]
theorem same_right {a b : ByteArray} (h : Nm.split b = none) : sameS a b = false := by simp [sameS, h]
theorem same_some {a b : ByteArray} {xs ys : List ByteArray} (ha : Nm.split a = some xs) (hb : Nm.split b = some ys) : sameS a b = decide (Nm.ordS a b = 0) := by simp [sameS, ha, hb]

theorem small_pos {a : ByteArray} {xs : List ByteArray} (h : Nm.split a = some xs) : (Nm.small a).toList.isEmpty = false := by
  apply Nm.tl_not_empty
  rw [Nm.small_size]
  have := Nm.split_size h
  omega

theorem small_eq (a b : ByteArray) : ((Nm.small a).toList == (Nm.small b).toList) = decide (Nm.ordS a b = 0) := by
  rw [Bool.eq_iff_iff]
  simp only [beq_iff_eq, decide_eq_true_eq, Nm.ordS, ordL_zero]
  rw [ByteArray.toList_eq, ByteArray.toList_eq, Nm.small_data, Nm.small_data]

end Go.Proofs.Ytoiajlgmnkoekaa
