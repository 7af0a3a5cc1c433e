/- strconv.FormatInt at base 10 by its contract. -/
import Derived.Test.YtakonfkefoeenabDoorPowT
import Derived.Test.YtakonfkefoeenabDoorShelfI
import Derived.Test.YtakonfkefoeenabDoorRows
import Derived.Lib.AppendIntMem
import Derived.Lib.ItoaMem
import Derived.WalkSpells
import Derived.WalkLawsBesides
namespace Go.Proofs.YtakonfkefoeenabDoor
open Go.RowKit

set_option maxRecDepth 100000 in
set_option maxHeartbeats 400000 in
theorem formatInt10_any (n : Nat) (w : World) (hn : n < 9223372036854775808) (htab : PowTab w) :
    Calls Tryd.prog 8 #[.int .i64 (n : Int), .int .i64 10] w fun e w' => e = .returned (.string (decS n)) ∧ Below w.heap.size w w' := by
  have hc := Tryd.internal_strconv_FormatInt_10 (n : Int) (by omega) (by omega) w htab
  have he : (⟨(Lib.itoa (n : Int)).toArray⟩ : ByteArray) = decS n := by rw [Lib.itoa_nonneg, dec_lib]; rfl
  rw [he] at hc
  clear he
  generalize decS n = D at *
  go_enter Tryd.func8, Tryd.ntmps8
  go_wp2_with (go_at_call 9; refine hc.mono ?_; rintro e w1 ⟨rfl, k, os, hw⟩; have hb : Below w.heap.size w w1 := (by rw [hw]; exact Lib.below_grow _ w (Nat.le_refl _) k os); clear hw)
  go_ret
  exact ⟨rfl, hb⟩
end Go.Proofs.YtakonfkefoeenabDoor
