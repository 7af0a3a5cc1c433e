/- Escapes: what is shared. -/
import Derived.Test.YtakonfkefoeenafReadM
namespace Go.Proofs.Ytakonfkefoeenaf
open Go.RowKit

def escB : Option (UInt8 × Nat) → Int
  | none => 0
  | some (b, _) => b.toNat
def escN : Option (UInt8 × Nat) → Int
  | none => 0
  | some (_, n) => n
def escM : Option (UInt8 × Nat) → Int
  | none => 0
  | some (_, n) => ((n + 1 : Nat) : Int)
def escO : Option (UInt8 × Nat) → Bool
  | none => false
  | some _ => true

theorem dig_bounds {c : UInt8} (h : Nm.digB c = true) : 48 ≤ c.toNat ∧ c.toNat ≤ 57 := by
  simp [Nm.digB] at h
  omega

theorem drop_three {t : ByteArray} {k : Nat} (h : k + 3 ≤ t.size) : t.data.toList.drop k = t[k] :: t[k + 1] :: t[k + 2] :: t.data.toList.drop (k + 3) := by
  rw [Nm.drop_at (by omega : k < t.size), Nm.drop_at (by omega : k + 1 < t.size), Nm.drop_at (by omega : k + 1 + 1 < t.size)]

end Go.Proofs.Ytakonfkefoeenaf
