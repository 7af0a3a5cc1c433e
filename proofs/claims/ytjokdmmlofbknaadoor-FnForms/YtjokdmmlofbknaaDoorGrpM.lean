import Derived.Test.YtjokdmmlofbknaaDoorJV4T
/- The groups of an address: mathematics. -/
namespace Go.Proofs.YtjokdmmlofbknaaDoor
open Go.RowKit

/-- Group i of an address. -/
def grp (s : ByteArray) (i : Nat) : Nat := numL (s.extract (2 * i) (2 * i + 2)).data.toList
theorem grp_lt (s : ByteArray) (i : Nat) : grp s i < 65536 := by
  have h1 := numL_lt (s.extract (2 * i) (2 * i + 2)).data.toList
  have h2 : (s.extract (2 * i) (2 * i + 2)).data.toList.length ≤ 2 := by simp; omega
  have h3 : 256 ^ (s.extract (2 * i) (2 * i + 2)).data.toList.length ≤ 256 ^ 2 := Nat.pow_le_pow_right (by decide) h2
  have h4 : (256 : Nat) ^ 2 = 65536 := by decide
  unfold grp
  omega

/-- k groups from a on, a colon between each two. -/
def rowS (s : ByteArray) (a : Nat) : Nat → ByteArray
  | 0 => ⟨#[]⟩
  | k + 1 => (if 0 < k then rowS s a k ++ ⟨#[58]⟩ else rowS s a k) ++ hexS (grp s (a + k))
theorem rowS_size (s : ByteArray) (a : Nat) : ∀ k, (rowS s a k).size ≤ 5 * k := by
  intro k
  induction k with
  | zero => exact Nat.le_refl _
  | succ k ih =>
    have h := hexS_size (grp_lt s (a + k))
    rw [rowS]
    split
    · rw [ByteArray.size_append, ByteArray.size_append]
      have : (⟨#[58]⟩ : ByteArray).size = 1 := rfl
      omega
    · rw [ByteArray.size_append]; omega

end Go.Proofs.YtjokdmmlofbknaaDoor
