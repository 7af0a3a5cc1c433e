/- The table that strconv reads; decimal digits, the library's way and mine. -/
import Derived.Test.YtakonfkefoeenaaDoorTxtM
import Derived.Test.YtakonfkefoeenaaDoorRows
import Derived.Lib.AppendIntMem
import Derived.Lib.ItoaMem
import Derived.WalkSpells
import Derived.WalkLawsBesides
namespace Go.Proofs.YtakonfkefoeenaaDoor
open Go.RowKit

theorem dec_lib : ∀ n : Nat, Lib.decDigits n = decL n := by
  intro n
  induction n using Nat.strongRecOn with
  | _ n ih =>
    rw [Lib.decDigits]
    by_cases h : n < 10
    · rw [dif_pos h, decL_small h]
    · rw [dif_neg h, decL_step h, ih (n / 10) (by omega)]

/-- The table that strconv reads. -/
abbrev PowTab (w : World) : Prop := Lib.TabIs Tryd.prog w "internal/strconv.uint64pow10" .u64 Lib.pow10Tab

theorem PowTab.below {w w' : World} (h : PowTab w) (hb : Below w.heap.size w w') : PowTab w' := (Lib.tabBelow_of_tabIs h) w' hb
end Go.Proofs.YtakonfkefoeenaaDoor
