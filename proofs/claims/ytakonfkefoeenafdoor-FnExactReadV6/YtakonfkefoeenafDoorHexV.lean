/- The value of a digit of base 16: mathematics. -/
import Derived.Test.YtakonfkefoeenafDoorReadM
namespace Go.Proofs.YtakonfkefoeenafDoor
open Go.RowKit

/-- A hexadecimal digit's value, or minus one. -/
def hexV (c : UInt8) : Int :=
  if Nm.digB c = true then (c.toNat : Int) - 48 else if 97 ≤ c.toNat ∧ c.toNat ≤ 102 then (c.toNat : Int) - 97 + 10
  else if 65 ≤ c.toNat ∧ c.toNat ≤ 70 then (c.toNat : Int) - 65 + 10 else -1

end Go.Proofs.YtakonfkefoeenafDoor
