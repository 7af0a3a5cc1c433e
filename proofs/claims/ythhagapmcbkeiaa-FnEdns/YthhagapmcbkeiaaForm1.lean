import Derived.Test.YthhagapmcbkeiaaJTake2
/- impl.formOf, impl.isName by their contracts. -/
namespace Go.Proofs.Ythhagapmcbkeiaa
open Go.RowKit

/-- A piece as the program has it. -/
def pcV : Dt.Pc → Value
  | none => .iface 135 (.agg #[])
  | some none => .iface 137 (.agg #[])
  | some (some none) => .iface 139 (.agg #[])
  | some (some (some none)) => .iface 136 (.agg #[])
  | some (some (some (some none))) => .iface 138 (.agg #[])
  | some (some (some (some (some none)))) => .iface 139 (.agg #[])
  | some (some (some (some (some (some none))))) => .iface 140 (.agg #[])
  | some (some (some (some (some (some (some none)))))) => .iface 139 (.agg #[])
  | some (some (some (some (some (some (some (some n))))))) => .iface 133 (.int .i64 (n : Int))

def formV (t : Int) (w : World) : World := w.alloc (.cells ((Dt.implP t).map pcV).toArray 131)

set_option maxRecDepth 100000 in
set_option maxHeartbeats 4000000 in
theorem formOf_any (t : Int) (w : World) :
    Calls Try.prog 64 #[.int .i64 t] w fun e w' => e = .returned (.slice (some ⟨w.heap.size, 0, none⟩) (Dt.implP t).length (Dt.implP t).length) ∧ w' = formV t w := by
  by_cases h : t = 1 ∨ t = 2 ∨ t = 5 ∨ t = 6 ∨ t = 12 ∨ t = 13 ∨ t = 15 ∨ t = 16 ∨ t = 28 ∨ t = 33 ∨ t = 35 ∨ t = 39 ∨ t = 47 ∨ t = 257
  · rcases h with rfl | rfl | rfl | rfl | rfl | rfl | rfl | rfl | rfl | rfl | rfl | rfl | rfl | rfl
    all_goals
      go_enter Try.func64, Try.ntmps64
      go_wp2
      go_ret
      exact ⟨rfl, rfl⟩
  · have HA : Hid (Dt.implP t = [.rs]) := by
      show _ = _
      unfold Dt.implP
      simp only [show ¬ t = 1 by omega, show ¬ (t = 2 ∨ t = 5 ∨ t = 12 ∨ t = 39) by omega, show ¬ t = 6 by omega, show ¬ t = 13 by omega, show ¬ t = 15 by omega, show ¬ t = 16 by omega, show ¬ t = 28 by omega, show ¬ t = 33 by omega, show ¬ t = 35 by omega, show ¬ t = 47 by omega, show ¬ t = 257 by omega, if_false]
    have b1 : (t == 1) = false := by rw [beq_eq_false_iff_ne]; omega
    have b2 : (t == 2) = false := by rw [beq_eq_false_iff_ne]; omega
    have b3 : (t == 5) = false := by rw [beq_eq_false_iff_ne]; omega
    have b4 : (t == 6) = false := by rw [beq_eq_false_iff_ne]; omega
    have b5 : (t == 12) = false := by rw [beq_eq_false_iff_ne]; omega
    have b6 : (t == 13) = false := by rw [beq_eq_false_iff_ne]; omega
    have b7 : (t == 15) = false := by rw [beq_eq_false_iff_ne]; omega
    have b8 : (t == 16) = false := by rw [beq_eq_false_iff_ne]; omega
    have b9 : (t == 28) = false := by rw [beq_eq_false_iff_ne]; omega
    have b10 : (t == 33) = false := by rw [beq_eq_false_iff_ne]; omega
    have b11 : (t == 35) = false := by rw [beq_eq_false_iff_ne]; omega
    have b12 : (t == 39) = false := by rw [beq_eq_false_iff_ne]; omega
    have b13 : (t == 47) = false := by rw [beq_eq_false_iff_ne]; omega
    have b14 : (t == 257) = false := by rw [beq_eq_false_iff_ne]; omega
    clear h
    go_enter Try.func64, Try.ntmps64
    go_wp2
    go_ret
    rw [formV, HA.out]
    exact ⟨rfl, rfl⟩

/-- The pieces that the program's forms have. -/
def okPc : Dt.Pc → Prop
  | some (some none) => False
  | some (some (some (some (some none)))) => False
  | _ => True

set_option maxRecDepth 100000 in
set_option maxHeartbeats 400000 in
theorem isName_any (p : Dt.Pc) (w : World) (hp : okPc p) :
    Calls Try.prog 65 #[pcV p] w fun e w' => e = .returned (.bool p.isN) ∧ w' = w := by
  cases p using Dt.Pc.elim with
  | txs => exact absurd hp (by simp [okPc])
  | tagr => exact absurd hp (by simp [okPc])
  | nm =>
    rw [pcV, Dt.Pc.isN]
    have hm : ∀ w : World, (Instr.typeAssert (.iface 135 (.agg #[])) 131 135 true).run Try.prog w = .ok (.tuple #[.agg #[], .bool true]) w := fun _ => by kernel_rfl
    go_enter Try.func65, Try.ntmps65
    go_wp2
    go_ret
    exact ⟨rfl, rfl⟩
  | bs n =>
    simp only [pcV, Dt.Pc.isN]
    have hm : ∀ w : World, (Instr.typeAssert (.iface 133 (.int .i64 (n : Int))) 131 135 true).run Try.prog w = .ok (.tuple #[.agg #[], .bool false]) w := fun _ => by kernel_rfl
    go_enter Try.func65, Try.ntmps65
    go_wp2
    go_ret
    exact ⟨rfl, rfl⟩
  | tx =>
    simp only [pcV, Dt.Pc.isN]
    have hm : ∀ w : World, (Instr.typeAssert (.iface 137 (.agg #[])) 131 135 true).run Try.prog w = .ok (.tuple #[.agg #[], .bool false]) w := fun _ => by kernel_rfl
    go_enter Try.func65, Try.ntmps65
    go_wp2
    go_ret
    exact ⟨rfl, rfl⟩
  | txe =>
    simp only [pcV, Dt.Pc.isN]
    have hm : ∀ w : World, (Instr.typeAssert (.iface 136 (.agg #[])) 131 135 true).run Try.prog w = .ok (.tuple #[.agg #[], .bool false]) w := fun _ => by kernel_rfl
    go_enter Try.func65, Try.ntmps65
    go_wp2
    go_ret
    exact ⟨rfl, rfl⟩
  | tag =>
    simp only [pcV, Dt.Pc.isN]
    have hm : ∀ w : World, (Instr.typeAssert (.iface 138 (.agg #[])) 131 135 true).run Try.prog w = .ok (.tuple #[.agg #[], .bool false]) w := fun _ => by kernel_rfl
    go_enter Try.func65, Try.ntmps65
    go_wp2
    go_ret
    exact ⟨rfl, rfl⟩
  | mp =>
    simp only [pcV, Dt.Pc.isN]
    have hm : ∀ w : World, (Instr.typeAssert (.iface 140 (.agg #[])) 131 135 true).run Try.prog w = .ok (.tuple #[.agg #[], .bool false]) w := fun _ => by kernel_rfl
    go_enter Try.func65, Try.ntmps65
    go_wp2
    go_ret
    exact ⟨rfl, rfl⟩
  | rs =>
    simp only [pcV, Dt.Pc.isN]
    have hm : ∀ w : World, (Instr.typeAssert (.iface 139 (.agg #[])) 131 135 true).run Try.prog w = .ok (.tuple #[.agg #[], .bool false]) w := fun _ => by kernel_rfl
    go_enter Try.func65, Try.ntmps65
    go_wp2
    go_ret
    exact ⟨rfl, rfl⟩
end Go.Proofs.Ythhagapmcbkeiaa
