import Derived.Test.YtdcbhohlglncnaaGreatJNameSz
/- impl.formOf, impl.isName by their contracts. -/
namespace Go.Proofs.YtdcbhohlglncnaaGreat
open Go.RowKit
/-- A piece as the program has it. -/
def pcV : Dt.Pc → Value
 | none => .iface 298 (.agg #[])
 | some none => .iface 300 (.agg #[])
 | some (some none) => .iface 302 (.agg #[])
 | some (some (some none)) => .iface 299 (.agg #[])
 | some (some (some (some none))) => .iface 301 (.agg #[])
 | some (some (some (some (some none)))) => .iface 302 (.agg #[])
 | some (some (some (some (some (some none))))) => .iface 303 (.agg #[])
 | some (some (some (some (some (some (some none)))))) => .iface 302 (.agg #[])
 | some (some (some (some (some (some (some (some n))))))) => .iface 296 (.int .i64 (n : Int))
def formV (t : Int) (w : World) : World := w.alloc (.cells ((Dt.implP t).map pcV).toArray 284)
set_option maxRecDepth 100000 in
set_option maxHeartbeats 4000000 in
theorem formOf_any (t : Int) (w : World) :
 Calls Tryz.prog 212 #[.int .i64 t] w fun e w' => e = .returned (.slice (some ⟨w.heap.size, 0, none⟩) (Dt.implP t).length (Dt.implP t).length) ∧ w' = formV t w := by
 by_cases h : t = 1 ∨ t = 2 ∨ t = 5 ∨ t = 6 ∨ t = 12 ∨ t = 13 ∨ t = 15 ∨ t = 16 ∨ t = 28 ∨ t = 33 ∨ t = 35 ∨ t = 39 ∨ t = 47 ∨ t = 257
 · rcases h with rfl | rfl | rfl | rfl | rfl | rfl | rfl | rfl | rfl | rfl | rfl | rfl | rfl | rfl
   all_goals
    go_enter Tryz.func212, Tryz.ntmps212
    go_wp2
    go_ret
    exact ⟨rfl, rfl⟩
 · have HA : Hid (Dt.implP t = [.rs]) := by
    show _ = _
    unfold Dt.implP
    simp only [show ¬ t = 1 by omega, show ¬ (t = 2 ∨ t = 5 ∨ t = 12 ∨ t = 39) by omega, show ¬ t = 6 by omega, show ¬ t = 13 by omega, show ¬ t = 15 by omega, show ¬ t = 16 by omega, show ¬ t = 28 by omega, show ¬ t = 33 by omega, show ¬ t = 35 by omega, show ¬ t = 47 by omega, show ¬ t = 257 by omega, if_false]
   have b1 : (t == 1) = false := by rw [beq_eq_false_iff_ne]; omega
   have b2 : (t == 2) = false := by rw [beq_eq_false_iff_ne]; omega
   have b3 : (t == 5) = false := by rw [beq_eq_false_iff_ne]; omega
   have b4 : (t == 6) = false := by rw [beq_eq_false_iff_ne]; omega
   have b5 : (t == 12) = false := by rw [beq_eq_false_iff_ne]; omega
   have b6 : (t == 13) = false := by rw [beq_eq_false_iff_ne]; omega
   have b7 : (t == 15) = false := by rw [beq_eq_false_iff_ne]; omega
   have b8 : (t == 16) = false := by rw [beq_eq_false_iff_ne]; omega
   have b9 : (t == 28) = false := by rw [beq_eq_false_iff_ne]; omega
   have b10 : (t == 33) = false := by rw [beq_eq_false_iff_ne]; omega
   have b11 : (t == 35) = false := by rw [beq_eq_false_iff_ne]; omega
   have b12 : (t == 39) = false := by rw [beq_eq_false_iff_ne]; omega
   have b13 : (t == 47) = false := by rw [beq_eq_false_iff_ne]; omega
   have b14 : (t == 257) = false := by rw [beq_eq_false_iff_ne]; omega
   clear h
   go_enter Tryz.func212, Tryz.ntmps212
   go_wp2
   go_ret
   rw [formV, HA.out]
   exact ⟨rfl, rfl⟩
/-- The pieces that the program's forms have. -/
def okPc : Dt.Pc → Prop
 | some (some none) => False
 | some (some (some (some (some none)))) => False
 | _ => True
set_option maxRecDepth 100000 in
set_option maxHeartbeats 400000 in
theorem isName_any (p : Dt.Pc) (w : World) (hp : okPc p) :
 Calls Tryz.prog 213 #[pcV p] w fun e w' => e = .returned (.bool p.isN) ∧ w' = w := by
 cases p using Dt.Pc.elim with
 | txs => exact absurd hp (by simp [okPc])
 | tagr => exact absurd hp (by simp [okPc])
 | nm =>
   rw [pcV, Dt.Pc.isN]
   have hm : ∀ w : World, (Instr.typeAssert (.iface 298 (.agg #[])) 284 298 true).run Tryz.prog w = .ok (.tuple #[.agg #[], .bool true]) w := fun _ => by kernel_rfl
   go_enter Tryz.func213, Tryz.ntmps213
   go_wp2
   go_ret
   exact ⟨rfl, rfl⟩
 | bs n =>
   simp only [pcV, Dt.Pc.isN]
   have hm : ∀ w : World, (Instr.typeAssert (.iface 296 (.int .i64 (n : Int))) 284 298 true).run Tryz.prog w = .ok (.tuple #[.agg #[], .bool false]) w := fun _ => by kernel_rfl
   go_enter Tryz.func213, Tryz.ntmps213
   go_wp2
   go_ret
   exact ⟨rfl, rfl⟩
 | tx =>
   simp only [pcV, Dt.Pc.isN]
   have hm : ∀ w : World, (Instr.typeAssert (.iface 300 (.agg #[])) 284 298 true).run Tryz.prog w = .ok (.tuple #[.agg #[], .bool false]) w := fun _ => by kernel_rfl
   go_enter Tryz.func213, Tryz.ntmps213
   go_wp2
   go_ret
   exact ⟨rfl, rfl⟩
 | txe =>
   simp only [pcV, Dt.Pc.isN]
   have hm : ∀ w : World, (Instr.typeAssert (.iface 299 (.agg #[])) 284 298 true).run Tryz.prog w = .ok (.tuple #[.agg #[], .bool false]) w := fun _ => by kernel_rfl
   go_enter Tryz.func213, Tryz.ntmps213
   go_wp2
   go_ret
   exact ⟨rfl, rfl⟩
 | tag =>
   simp only [pcV, Dt.Pc.isN]
   have hm : ∀ w : World, (Instr.typeAssert (.iface 301 (.agg #[])) 284 298 true).run Tryz.prog w = .ok (.tuple #[.agg #[], .bool false]) w := fun _ => by kernel_rfl
   go_enter Tryz.func213, Tryz.ntmps213
   go_wp2
   go_ret
   exact ⟨rfl, rfl⟩
 | mp =>
   simp only [pcV, Dt.Pc.isN]
   have hm : ∀ w : World, (Instr.typeAssert (.iface 303 (.agg #[])) 284 298 true).run Tryz.prog w = .ok (.tuple #[.agg #[], .bool false]) w := fun _ => by kernel_rfl
   go_enter Tryz.func213, Tryz.ntmps213
   go_wp2
   go_ret
   exact ⟨rfl, rfl⟩
 | rs =>
   simp only [pcV, Dt.Pc.isN]
   have hm : ∀ w : World, (Instr.typeAssert (.iface 302 (.agg #[])) 284 298 true).run Tryz.prog w = .ok (.tuple #[.agg #[], .bool false]) w := fun _ => by kernel_rfl
   go_enter Tryz.func213, Tryz.ntmps213
   go_wp2
   go_ret
   exact ⟨rfl, rfl⟩
end Go.Proofs.YtdcbhohlglncnaaGreat
