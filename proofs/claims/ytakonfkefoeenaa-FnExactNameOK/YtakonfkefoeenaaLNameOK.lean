/- The law of NameOK: its walk. -/
import Derived.Test.YtakonfkefoeenaaNameOK
namespace Go.Proofs.Ytakonfkefoeenaa
open Go.RowKit

theorem below_two {w w1 w2 : World} (h1 : Below w.heap.size w w1) (h2 : Below w1.heap.size w1 w2) : Below w.heap.size w w2 :=
  h1.trans (h2.mono h1.size)

set_option maxRecDepth 100000 in
set_option maxHeartbeats 400000 in
theorem fnExactNameOK_walk (a0 : ByteArray) (w0 : a0.size ≤ maxLen) (w : World) :
    Calls Try.prog 3 #[.string a0] w fun e w' => e = .returned (.bool true) ∧ Below w.heap.size w w' := by
  by_cases hl : 1048576 < a0.size
  · have hl' : (1048576 : Int) < (a0.size : Int) := by omega
    go_enter Try.func3, Try.ntmps3
    go_wp2
    go_ret
    exact ⟨rfl, Below.refl _ _⟩
  · have hl' : (a0.size : Int) ≤ 1048576 := by omega
    have hb : ∀ b : Bool, (b != b) = false := by intro b; cases b <;> rfl
    go_enter Try.func3, Try.ntmps3
    go_wp2_with fail
    refine (specNameOK_any a0 _ w0).mono ?_
    rintro e w1 ⟨rfl, hb1⟩
    go_wp2_with fail
    refine (implNameOK_any a0 _ w0).mono ?_
    rintro e w2 ⟨rfl, hb2⟩
    go_wp2
    go_ret
    exact ⟨rfl, below_two hb1 hb2⟩
end Go.Proofs.Ytakonfkefoeenaa
