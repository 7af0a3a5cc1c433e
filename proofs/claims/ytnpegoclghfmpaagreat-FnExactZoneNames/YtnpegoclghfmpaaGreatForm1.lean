import Derived.Test.YtnpegoclghfmpaaGreatJNameSz
/- impl.formOf, impl.isName by their contracts. -/
namespace Go.Proofs.YtnpegoclghfmpaaGreat
open Go.RowKit

/-- A piece as the program has it. -/
def pcV : Dt.Pc → Value
  | none => .iface 244 (.agg #[])
  | some none => .iface 246 (.agg #[])
  | some (some none) => .iface 248 (.agg #[])
  | some (some (some none)) => .iface 245 (.agg #[])
  | some (some (some (some none))) => .iface 247 (.agg #[])
  | some (some (some (some (some none)))) => .iface 248 (.agg #[])
  | some (some (some (some (some (some none))))) => .iface 249 (.agg #[])
  | some (some (some (some (some (some (some none)))))) => .iface 248 (.agg #[])
  | some (some (some (some (some (some (some (some n))))))) => .iface 242 (.int .i64 (n : Int))

def formV (t : Int) (w : World) : World := w.alloc (.cells ((Dt.implP t).map pcV).toArray 230)

set_option maxRecDepth 100000 in
set_option maxHeartbeats 4000000 in
theorem formOf_any (t : Int) (w : World) :
    Calls Tryz.prog 177 #[.int .i64 t] w fun e w' => e = .returned (.slice (some ⟨w.heap.size, 0, none⟩) (Dt.implP t).length (Dt.implP t).length) ∧ w' = formV t w := by
  by_cases h : t = 1 ∨ t = 2 ∨ t = 5 ∨ t = 6 ∨ t = 12 ∨ t = 13 ∨ t = 15 ∨ t = 16 ∨ t = 28 ∨ t = 33 ∨ t = 35 ∨ t = 39 ∨ t = 47 ∨ t = 257
  · rcases h with rfl | rfl | rfl | rfl | rfl | rfl | rfl | rfl | rfl | rfl | rfl | rfl | rfl | rfl
    all_goals
      go_enter Tryz.func177, Tryz.ntmps177
      go_wp2
      go_ret
      exact ⟨rfl, rfl⟩
  · have HA : Hid (Dt.implP t = [.rs]) := by
      show _ = _
      unfold Dt.implP
      simp only [show ¬ t = 1 by omega, show ¬ (t = 2 ∨ t = 5 ∨ t = 12 ∨ t = 39) by omega, show ¬ t = 6 by omega, show ¬ t = 13 by omega, show ¬ t = 15 by omega, show ¬ t = 16 by omega, show ¬ t = 28 by omega, show ¬ t = 33 by omega, show ¬ t = 35 by omega, show ¬ t = 47 by omega, show ¬ t = 257 by omega, if_false]
    have b1 : (t == 1) = false := by rw [beq_eq_false_iff_ne]; omega
    have b2 : (t == 2) = false := by rw [beq_eq_false_iff_ne]; omega
    have b3 : (t == 5) = false := by rw [beq_eq_false_iff_ne]; omega
    have b4 : (t == 6) = false := by rw [beq_eq_false_iff_ne]; omega
    have b5 : (t == 12) = false := by rw [beq_eq_false_iff_ne]; omega
    have b6 : (t == 13) = false := by rw [beq_eq_false_iff_ne]; omega
    have b7 : (t == 15) = false := by rw [beq_eq_false_iff_ne]; omega
    have b8 : (t == 16) = false := by rw [beq_eq_false_iff_ne]; omega
    have b9 : (t == 28) = false := by rw [beq_eq_false_iff_ne]; omega
    have b10 : (t == 33) = false := by rw [beq_eq_false_iff_ne]; omega
    have b11 : (t == 35) = false := by rw [beq_eq_false_iff_ne]; omega
    have b12 : (t == 39) = false := by rw [beq_eq_false_iff_ne]; omega
    have b13 : (t == 47) = false := by rw [beq_eq_false_iff_ne]; omega
    have b14 : (t == 257) = false := by rw [beq_eq_false_iff_ne]; omega
    clear h
    go_enter Tryz.func177, Tryz.ntmps177
    go_wp2
    go_ret
    rw [formV, HA.out]
    exact ⟨rfl, rfl⟩

/-- The pieces that the program's forms have. -/
def okPc : Dt.Pc → Prop
  | some (some none) => False
  | some (some (some (some (some none)))) => False
  | _ => True

set_option maxRecDepth 100000 in
set_option maxHeartbeats 400000 in
theorem isName_any (p : Dt.Pc) (w : World) (hp : okPc p) :
    Calls Tryz.prog 178 #[pcV p] w fun e w' => e = .returned (.bool p.isN) ∧ w' = w := by
  cases p using Dt.Pc.elim with
  | txs => exact absurd hp (by simp [okPc])
  | tagr => exact absurd hp (by simp [okPc])
  | nm =>
    rw [pcV, Dt.Pc.isN]
    have hm : ∀ w : World, (Instr.typeAssert (.iface 244 (.agg #[])) 230 244 true).run Tryz.prog w = .ok (.tuple #[.agg #[], .bool true]) w := fun _ => by kernel_rfl
    go_enter Tryz.func178, Tryz.ntmps178
    go_wp2
    go_ret
    exact ⟨rfl, rfl⟩
  | bs n =>
    simp only [pcV, Dt.Pc.isN]
    have hm : ∀ w : World, (Instr.typeAssert (.iface 242 (.int .i64 (n : Int))) 230 244 true).run Tryz.prog w = .ok (.tuple #[.agg #[], .bool false]) w := fun _ => by kernel_rfl
    go_enter Tryz.func178, Tryz.ntmps178
    go_wp2
    go_ret
    exact ⟨rfl, rfl⟩
  | tx =>
    simp only [pcV, Dt.Pc.isN]
    have hm : ∀ w : World, (Instr.typeAssert (.iface 246 (.agg #[])) 230 244 true).run Tryz.prog w = .ok (.tuple #[.agg #[], .bool false]) w := fun _ => by kernel_rfl
    go_enter Tryz.func178, Tryz.ntmps178
    go_wp2
    go_ret
    exact ⟨rfl, rfl⟩
  | txe =>
    simp only [pcV, Dt.Pc.isN]
    have hm : ∀ w : World, (Instr.typeAssert (.iface 245 (.agg #[])) 230 244 true).run Tryz.prog w = .ok (.tuple #[.agg #[], .bool false]) w := fun _ => by kernel_rfl
    go_enter Tryz.func178, Tryz.ntmps178
    go_wp2
    go_ret
    exact ⟨rfl, rfl⟩
  | tag =>
    simp only [pcV, Dt.Pc.isN]
    have hm : ∀ w : World, (Instr.typeAssert (.iface 247 (.agg #[])) 230 244 true).run Tryz.prog w = .ok (.tuple #[.agg #[], .bool false]) w := fun _ => by kernel_rfl
    go_enter Tryz.func178, Tryz.ntmps178
    go_wp2
    go_ret
    exact ⟨rfl, rfl⟩
  | mp =>
    simp only [pcV, Dt.Pc.isN]
    have hm : ∀ w : World, (Instr.typeAssert (.iface 249 (.agg #[])) 230 244 true).run Tryz.prog w = .ok (.tuple #[.agg #[], .bool false]) w := fun _ => by kernel_rfl
    go_enter Tryz.func178, Tryz.ntmps178
    go_wp2
    go_ret
    exact ⟨rfl, rfl⟩
  | rs =>
    simp only [pcV, Dt.Pc.isN]
    have hm : ∀ w : World, (Instr.typeAssert (.iface 248 (.agg #[])) 230 244 true).run Tryz.prog w = .ok (.tuple #[.agg #[], .bool false]) w := fun _ => by kernel_rfl
    go_enter Tryz.func178, Tryz.ntmps178
    go_wp2
    go_ret
    exact ⟨rfl, rfl⟩
end Go.Proofs.YtnpegoclghfmpaaGreat
