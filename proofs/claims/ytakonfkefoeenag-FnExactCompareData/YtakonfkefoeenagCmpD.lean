/- strings.Compare by its contract. -/
import Derived.Test.YtakonfkefoeenagCmpM
import Derived.Test.YtakonfkefoeenagRows
import Derived.WalkSpells
import Derived.WalkLawsBesides
import Derived.Lib.Bytealg
import Derived.Laws.Externs
namespace Go.Proofs.Ytakonfkefoeenag
open Go.RowKit

theorem ord_cmp : ∀ (a b : List UInt8), Go.Lib.compareBytes a b = Nm.ordL a b := by
  intro a
  induction a with
  | nil =>
    intro b
    cases b with
    | nil => rfl
    | cons y b => rfl
  | cons x a ih =>
    intro b
    cases b with
    | nil => rfl
    | cons y b =>
      rw [Go.Lib.compareBytes]
      by_cases h : x = y
      · subst h
        rw [if_neg (by simp), if_neg (by simp), Nm.ordL_same, ih]
      · rw [Nm.ordL_ne a b h]
        have hn : x.toNat ≠ y.toNat := fun e => h (UInt8.toNat_inj.1 e)
        by_cases hl : x < y
        · have hl' : (x.toNat : Int) < (y.toNat : Int) := by have := UInt8.lt_iff_toNat_lt.1 hl; omega
          rw [if_pos hl, Nm.cmpI_lt hl']
        · have hl' : (y.toNat : Int) < (x.toNat : Int) := by
            have : ¬ x.toNat < y.toNat := fun e => hl (UInt8.lt_iff_toNat_lt.2 e)
            omega
          have hl2 : y < x := UInt8.lt_iff_toNat_lt.2 (by omega)
          rw [if_neg hl, if_pos hl2, Nm.cmpI_gt hl']

theorem cmpstring_run (a b : ByteArray) (w : World) : (callFunc 97 #[.string a, .string b]).run Try.prog w = .ok (.value (.int .i64 (Nm.ordL a.data.toList b.data.toList))) w := by
  have h := run_callFunc_extern (P := Try.prog) (f := 97) (fn := Try.f97) (e := Extern.BytealgCompare.compare) Try.func97 (by kernel_rfl) (by kernel_rfl) (by kernel_rfl) (by kernel_rfl) #[.string a, .string b] w
  rw [h, Go.Lib.run_compareString, ord_cmp]
  rfl

set_option maxRecDepth 100000 in
set_option maxHeartbeats 400000 in
theorem compare_any' (a b : ByteArray) (w : World) :
    Calls Try.prog 47 #[.string a, .string b] w fun e w' => e = .returned (.int .i64 (Nm.ordL a.data.toList b.data.toList)) ∧ w' = w := by
  have hx := cmpstring_run a b
  generalize Nm.ordL a.data.toList b.data.toList = r at *
  go_enter Try.func47, Try.ntmps47
  go_wp2_with (go_at_call 83; go_in)
  go_ret
  exact ⟨rfl, rfl⟩
end Go.Proofs.Ytakonfkefoeenag
