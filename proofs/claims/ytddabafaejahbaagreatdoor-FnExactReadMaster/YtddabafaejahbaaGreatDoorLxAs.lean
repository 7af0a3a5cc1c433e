import Derived.Test.YtddabafaejahbaaGreatDoorJShelfM
import Derived.Test.YtddabafaejahbaaGreatDoorJTxt8
import Derived.WalkKit
import Derived.LaidEql
import Derived.Stop.Asserts
import Derived.RowKitTokens
/- errors.As at the program's errors: facts of the library's entries at these types. -/
namespace Go.Proofs.YtddabafaejahbaaGreatDoor
open Go.RowKit Go.Extern.Stop Go.Stop Go.Extern
set_option linter.unusedVariables false
theorem rlm (z : Sem Value) (f : TypeId → Addr → Nat → Nat → Sem Value) (v : Value) :
 ReflectliteValue.method z f #[v] = (do match ← ReflectliteValue.parts v with | none => z | some (t, a, fl) => f t a fl (fl % 32)) := rfl
theorem rls (v x : Value) : ReflectliteValue.set #[v, x] = (do
 let (some (dst, a, fl), some (src, b, _)) := (← ReflectliteValue.parts v, ← ReflectliteValue.parts x)
  | unsupported (.noEntry "extern/(internal/reflectlite.Value).Set.zeroValue")
 if fl / ReflectliteValue.flagAddr % 2 == 0 then unsupported (.noEntry "extern/(internal/reflectlite.Value).Set.unaddressable")
 let val ← loadVar src b
 if ← Rtype.directlyAssignable dst src then storeVar dst a val
 else if ← Rtype.implements dst src then
  if (← Rtype.kind src) == 20 then
   match val with
   | .nilIface => unsupported (.noEntry "extern/reflectlite: a nil value of one interface type handed on as a value of another")
   | _ => storeVar dst a val
  else storeVar dst a (.iface src val)
 else panicString ("reflectlite.Set: value of type " ++ (← Rtype.spelt src) ++ " is not assignable to type " ++ (← Rtype.spelt dst))
 pure (.tuple #[])) := rfl
theorem Tryz.mKind (h : Value) (w : World) : (Go.method 422 237 (.agg #[h]) "Kind").run Tryz.prog w = .ok (257, h) w := by kernel_rfl
theorem Tryz.mElem (h : Value) (w : World) : (Go.method 422 237 (.agg #[h]) "Elem").run Tryz.prog w = .ok (271, .agg #[h]) w := by kernel_rfl
theorem Tryz.mImpl (h : Value) (w : World) : (Go.method 422 237 (.agg #[h]) "Implements").run Tryz.prog w = .ok (272, .agg #[h]) w := by kernel_rfl
theorem Tryz.mAssi (h : Value) (w : World) : (Go.method 422 237 (.agg #[h]) "AssignableTo").run Tryz.prog w = .ok (269, .agg #[h]) w := by kernel_rfl
theorem Tryz.valueOfPC (t : Addr) (w : World) : (ReflectliteValue.unpack (.iface 135 (.pointer (some t)))).run Tryz.prog w
 = .ok (.agg #[.pointer (some ⟨8, 135, none⟩), .pointer (some ⟨w.heap.size, 0, none⟩), .int .u64 150]) (w.alloc (.cells #[.pointer (some t)] 135)) := by kernel_rfl
theorem Tryz.typePC (a : Addr) (w : World) : (ReflectliteValue.methodAny (ReflectliteValue.valueError "reflectlite.Value.Type" 0) (fun t _ _ _ => ReflectliteType.toType t) #[.agg #[.pointer (some ⟨8, 135, none⟩), .pointer (some a), .int .u64 150]]).run Tryz.prog w
 = .ok (.iface 237 (.agg #[.pointer (some ⟨8, 135, none⟩)])) w := by kernel_rfl
theorem Tryz.kindPC (w : World) : ((ReflectliteType.abiMethod fun t => (fun a : Nat => Value.int IntKind.u8 (a : Int)) <$> Rtype.kind t) #[.pointer (some ⟨8, 135, none⟩)]).run Tryz.prog w = .ok (.int .u8 22) w := by kernel_rfl
theorem Tryz.kindC (w : World) : ((ReflectliteType.abiMethod fun t => (fun a : Nat => Value.int IntKind.u8 (a : Int)) <$> Rtype.kind t) #[.pointer (some ⟨8, 128, none⟩)]).run Tryz.prog w = .ok (.int .u8 6) w := by kernel_rfl
theorem Tryz.partsPC (a : Addr) (w : World) : (ReflectliteValue.parts (.agg #[.pointer (some ⟨8, 135, none⟩), .pointer (some a), .int .u64 150])).run Tryz.prog w = .ok (some (135, a, 150)) w := by kernel_rfl
theorem Tryz.isNilPC (a p : Addr) (W : World) (ha : W.cell? a = some (.pointer (some p))) :
 (ReflectliteValue.method (ReflectliteValue.valueError "reflectlite.Value.IsNil" 0) ReflectliteValue.isNil #[.agg #[.pointer (some ⟨8, 135, none⟩), .pointer (some a), .int .u64 150]]).run Tryz.prog W = .ok (.bool false) W := by
 rw [rlm]; simp only [Sem.run_bind, Tryz.partsPC, Result.andThen]; simp [ReflectliteValue.isNil, loadVar, isAgg, underlying, Tryz.underlying135, ha, Result.andThen]
theorem Tryz.elemPC (w : World) : (ReflectliteType.method ReflectliteType.elem #[.agg #[.pointer (some ⟨8, 135, none⟩)]]).run Tryz.prog w = .ok (.iface 237 (.agg #[.pointer (some ⟨8, 128, none⟩)])) w := by kernel_rfl
theorem Tryz.implC (w : World) : (ReflectliteType.relation "Implements" ReflectliteType.implements_ #[.agg #[.pointer (some ⟨8, 128, none⟩)], .iface 237 (.agg #[.pointer (some ⟨8, 74, none⟩)])]).run Tryz.prog w = .ok (.bool true) w := by kernel_rfl
theorem Tryz.typeOfC (v : Value) (w : World) : (ReflectliteType.typeOf #[.iface 128 v]).run Tryz.prog w = .ok (.iface 237 (.agg #[.pointer (some ⟨8, 128, none⟩)])) w := by kernel_rfl
theorem Tryz.valueOfC (c : Int) (w : World) : (ReflectliteValue.unpack (.iface 128 (.int .i64 c))).run Tryz.prog w
 = .ok (.agg #[.pointer (some ⟨8, 128, none⟩), .pointer (some ⟨w.heap.size, 0, none⟩), .int .u64 134]) (w.alloc (.cells #[.int .i64 c] 128)) := by kernel_rfl
theorem Tryz.elemOfPC (w : World) : (Rtype.elem? 135).run Tryz.prog w = .ok (some 128) w := by kernel_rfl
theorem Tryz.mkC (p : Addr) (w : World) : (ReflectliteValue.mk 128 p ReflectliteValue.flagAddr).run Tryz.prog w = .ok (.agg #[.pointer (some ⟨8, 128, none⟩), .pointer (some p), .int .u64 390]) w := by kernel_rfl
theorem Tryz.elemVC (a p : Addr) (W : World) (ha : W.cell? a = some (.pointer (some p))) :
 (ReflectliteValue.method (ReflectliteValue.valueError "reflectlite.Value.Elem" 0) ReflectliteValue.elem #[.agg #[.pointer (some ⟨8, 135, none⟩), .pointer (some a), .int .u64 150]]).run Tryz.prog W
  = .ok (.agg #[.pointer (some ⟨8, 128, none⟩), .pointer (some p), .int .u64 390]) W := by
 rw [rlm]; simp only [Sem.run_bind, Tryz.partsPC, Result.andThen]; simp [ReflectliteValue.elem, loadVar, isAgg, underlying, Tryz.underlying135, ha, Result.andThen, Tryz.elemOfPC, Tryz.mkC]
theorem Tryz.partsAC (a : Addr) (w : World) : (ReflectliteValue.parts (.agg #[.pointer (some ⟨8, 128, none⟩), .pointer (some a), .int .u64 390])).run Tryz.prog w = .ok (some (128, a, 390)) w := by kernel_rfl
theorem Tryz.partsC (a : Addr) (w : World) : (ReflectliteValue.parts (.agg #[.pointer (some ⟨8, 128, none⟩), .pointer (some a), .int .u64 134])).run Tryz.prog w = .ok (some (128, a, 134)) w := by kernel_rfl
theorem Tryz.directC (w : World) : (Rtype.directlyAssignable 128 128).run Tryz.prog w = .ok true w := by kernel_rfl
theorem Tryz.valueOfPL (t : Addr) (w : World) : (ReflectliteValue.unpack (.iface 136 (.pointer (some t)))).run Tryz.prog w
 = .ok (.agg #[.pointer (some ⟨8, 136, none⟩), .pointer (some ⟨w.heap.size, 0, none⟩), .int .u64 150]) (w.alloc (.cells #[.pointer (some t)] 136)) := by kernel_rfl
theorem Tryz.typePL (a : Addr) (w : World) : (ReflectliteValue.methodAny (ReflectliteValue.valueError "reflectlite.Value.Type" 0) (fun t _ _ _ => ReflectliteType.toType t) #[.agg #[.pointer (some ⟨8, 136, none⟩), .pointer (some a), .int .u64 150]]).run Tryz.prog w
 = .ok (.iface 237 (.agg #[.pointer (some ⟨8, 136, none⟩)])) w := by kernel_rfl
theorem Tryz.kindPL (w : World) : ((ReflectliteType.abiMethod fun t => (fun a : Nat => Value.int IntKind.u8 (a : Int)) <$> Rtype.kind t) #[.pointer (some ⟨8, 136, none⟩)]).run Tryz.prog w = .ok (.int .u8 22) w := by kernel_rfl
theorem Tryz.kindL (w : World) : ((ReflectliteType.abiMethod fun t => (fun a : Nat => Value.int IntKind.u8 (a : Int)) <$> Rtype.kind t) #[.pointer (some ⟨8, 133, none⟩)]).run Tryz.prog w = .ok (.int .u8 25) w := by kernel_rfl
theorem Tryz.partsPL (a : Addr) (w : World) : (ReflectliteValue.parts (.agg #[.pointer (some ⟨8, 136, none⟩), .pointer (some a), .int .u64 150])).run Tryz.prog w = .ok (some (136, a, 150)) w := by kernel_rfl
theorem Tryz.isNilPL (a p : Addr) (W : World) (ha : W.cell? a = some (.pointer (some p))) :
 (ReflectliteValue.method (ReflectliteValue.valueError "reflectlite.Value.IsNil" 0) ReflectliteValue.isNil #[.agg #[.pointer (some ⟨8, 136, none⟩), .pointer (some a), .int .u64 150]]).run Tryz.prog W = .ok (.bool false) W := by
 rw [rlm]; simp only [Sem.run_bind, Tryz.partsPL, Result.andThen]; simp [ReflectliteValue.isNil, loadVar, isAgg, underlying, Tryz.underlying136, ha, Result.andThen]
theorem Tryz.elemPL (w : World) : (ReflectliteType.method ReflectliteType.elem #[.agg #[.pointer (some ⟨8, 136, none⟩)]]).run Tryz.prog w = .ok (.iface 237 (.agg #[.pointer (some ⟨8, 133, none⟩)])) w := by kernel_rfl
theorem Tryz.implL (w : World) : (ReflectliteType.relation "Implements" ReflectliteType.implements_ #[.agg #[.pointer (some ⟨8, 133, none⟩)], .iface 237 (.agg #[.pointer (some ⟨8, 74, none⟩)])]).run Tryz.prog w = .ok (.bool true) w := by kernel_rfl
theorem Tryz.typeOfL (v : Value) (w : World) : (ReflectliteType.typeOf #[.iface 133 v]).run Tryz.prog w = .ok (.iface 237 (.agg #[.pointer (some ⟨8, 133, none⟩)])) w := by kernel_rfl
theorem Tryz.valueOfL (q : Int) (e : Value) (w : World) : (ReflectliteValue.unpack (.iface 133 (.agg #[.int .i64 q, e]))).run Tryz.prog w
 = .ok (.agg #[.pointer (some ⟨8, 133, none⟩), .pointer (some ⟨w.heap.size, 0, none⟩), .int .u64 153]) (w.alloc (.cells #[.int .i64 q, e] 133)) := by kernel_rfl
theorem Tryz.elemOfPL (w : World) : (Rtype.elem? 136).run Tryz.prog w = .ok (some 133) w := by kernel_rfl
theorem Tryz.mkL (p : Addr) (w : World) : (ReflectliteValue.mk 133 p ReflectliteValue.flagAddr).run Tryz.prog w = .ok (.agg #[.pointer (some ⟨8, 133, none⟩), .pointer (some p), .int .u64 409]) w := by kernel_rfl
theorem Tryz.elemVL (a p : Addr) (W : World) (ha : W.cell? a = some (.pointer (some p))) :
 (ReflectliteValue.method (ReflectliteValue.valueError "reflectlite.Value.Elem" 0) ReflectliteValue.elem #[.agg #[.pointer (some ⟨8, 136, none⟩), .pointer (some a), .int .u64 150]]).run Tryz.prog W
  = .ok (.agg #[.pointer (some ⟨8, 133, none⟩), .pointer (some p), .int .u64 409]) W := by
 rw [rlm]; simp only [Sem.run_bind, Tryz.partsPL, Result.andThen]; simp [ReflectliteValue.elem, loadVar, isAgg, underlying, Tryz.underlying136, ha, Result.andThen, Tryz.elemOfPL, Tryz.mkL]
theorem Tryz.partsAL (a : Addr) (w : World) : (ReflectliteValue.parts (.agg #[.pointer (some ⟨8, 133, none⟩), .pointer (some a), .int .u64 409])).run Tryz.prog w = .ok (some (133, a, 409)) w := by kernel_rfl
theorem Tryz.partsL (a : Addr) (w : World) : (ReflectliteValue.parts (.agg #[.pointer (some ⟨8, 133, none⟩), .pointer (some a), .int .u64 153])).run Tryz.prog w = .ok (some (133, a, 153)) w := by kernel_rfl
theorem Tryz.directL (w : World) : (Rtype.directlyAssignable 133 133).run Tryz.prog w = .ok true w := by kernel_rfl
theorem Tryz.assiCC (w : World) : (ReflectliteType.relation "AssignableTo" ReflectliteType.assignableTo #[.agg #[.pointer (some ⟨8, 128, none⟩)], .iface 237 (.agg #[.pointer (some ⟨8, 128, none⟩)])]).run Tryz.prog w = .ok (.bool true) w := by kernel_rfl
theorem Tryz.assiLL (w : World) : (ReflectliteType.relation "AssignableTo" ReflectliteType.assignableTo #[.agg #[.pointer (some ⟨8, 133, none⟩)], .iface 237 (.agg #[.pointer (some ⟨8, 133, none⟩)])]).run Tryz.prog w = .ok (.bool true) w := by kernel_rfl
theorem Tryz.assiCL (w : World) : (ReflectliteType.relation "AssignableTo" ReflectliteType.assignableTo #[.agg #[.pointer (some ⟨8, 128, none⟩)], .iface 237 (.agg #[.pointer (some ⟨8, 133, none⟩)])]).run Tryz.prog w = .ok (.bool false) w := by kernel_rfl
theorem Tryz.assiLC (w : World) : (ReflectliteType.relation "AssignableTo" ReflectliteType.assignableTo #[.agg #[.pointer (some ⟨8, 133, none⟩)], .iface 237 (.agg #[.pointer (some ⟨8, 128, none⟩)])]).run Tryz.prog w = .ok (.bool false) w := by kernel_rfl
theorem Tryz.noAsC (v : Value) (x : TypeId) (w : World) : (Instr.typeAssert (.iface 128 v) x 242 true).run Tryz.prog w = .ok (.tuple #[.nilIface, .bool false]) w := run_typeAssert_lacksB Tryz.underlying242 (by kernel_rfl) (by kernel_rfl) v x w
theorem Tryz.noAsL (v : Value) (x : TypeId) (w : World) : (Instr.typeAssert (.iface 133 v) x 242 true).run Tryz.prog w = .ok (.tuple #[.nilIface, .bool false]) w := run_typeAssert_lacksB Tryz.underlying242 (by kernel_rfl) (by kernel_rfl) v x w
theorem Tryz.noUnC (v : Value) (x : TypeId) (w : World) : (Instr.typeAssert (.iface 128 v) x 245 true).run Tryz.prog w = .ok (.tuple #[.nilIface, .bool false]) w := run_typeAssert_lacksB Tryz.underlying245 (by kernel_rfl) (by kernel_rfl) v x w
theorem Tryz.noUsC (v : Value) (x : TypeId) (w : World) : (Instr.typeAssert (.iface 128 v) x 246 true).run Tryz.prog w = .ok (.tuple #[.nilIface, .bool false]) w := run_typeAssert_lacksB Tryz.underlying246 (by kernel_rfl) (by kernel_rfl) v x w
theorem Tryz.unL (v : Value) (x : TypeId) (w : World) : (Instr.typeAssert (.iface 133 v) x 245 true).run Tryz.prog w = .ok (.tuple #[.iface 133 v, .bool true]) w := run_typeAssert_hasB Tryz.underlying245 (by kernel_rfl) v x w
theorem Tryz.mUn (v : Value) (w : World) : (Go.method 422 133 v "Unwrap").run Tryz.prog w = .ok (264, v) w := by kernel_rfl
theorem Tryz.setC (ta b : Addr) (c : Int) (old : Value) (W : World) (hb : W.cell? b = some (.int .i64 c)) (ht : W.cell? ta = some old) (hf : W.frozen? ta = false) :
 (ReflectliteValue.set #[.agg #[.pointer (some ⟨8, 128, none⟩), .pointer (some ta), .int .u64 390], .agg #[.pointer (some ⟨8, 128, none⟩), .pointer (some b), .int .u64 134]]).run Tryz.prog W
  = .ok (.tuple #[]) (W.setCell ta (.int .i64 c)) := by
 have hsz : ∀ w, (sizeOf 128).run Tryz.prog w = .ok 1 w := fun w => by kernel_rfl
 rw [rls]; simp only [Sem.run_bind, Tryz.partsAC, Tryz.partsC, Result.andThen]; simp [ReflectliteValue.flagAddr, loadVar, isAgg, underlying, Tryz.underlying128, hb, Result.andThen, Tryz.directC, storeVar, Value.cells, storeCells, Addr.add, hsz]
 rw [run_store Tryz.prog W ta _ _ (by rfl)]; simp [ht, hf]
theorem Tryz.setL (g b : Nat) (q : Int) (e x y : Value) (W : World) (he : e.oneCell' = true) (hb0 : W.cell? ⟨b, 0, none⟩ = some (.int .i64 q)) (hb1 : W.cell? ⟨b, 1, none⟩ = some e) (hg : Blk W g #[x, y] 133) :
 (ReflectliteValue.set #[.agg #[.pointer (some ⟨8, 133, none⟩), .pointer (some ⟨g, 0, none⟩), .int .u64 409], .agg #[.pointer (some ⟨8, 133, none⟩), .pointer (some ⟨b, 0, none⟩), .int .u64 153]]).run Tryz.prog W
  = .ok (.tuple #[]) ((W.setCell ⟨g, 0, none⟩ (.int .i64 q)).setCell ⟨g, 1, none⟩ e) := by
 have hsz : ∀ w, (sizeOf 133).run Tryz.prog w = .ok 2 w := fun w => by kernel_rfl
 have r0 := blk_cell hg 0; have f0 := blk_frozen hg 0; have k1 := blk_set hg 0 (.int .i64 q); have r1 := blk_cell k1 1; have f1 := blk_frozen k1 1; rw [rls]; simp only [Sem.run_bind, Tryz.partsAL, Tryz.partsL, Result.andThen]; have hlc : (loadCellsFrom ⟨b, 0, none⟩ 0 2 #[]).run Tryz.prog W = .ok #[.int .i64 q, e] W := by simp [loadCellsFrom, hb0, hb1, Addr.add]
 simp [ReflectliteValue.flagAddr, loadVar, loadCells, isAgg, underlying, Tryz.underlying133, hlc, Result.andThen, Tryz.directL, storeVar, Value.cells, storeCells, Addr.add, hsz]
 rw [run_store Tryz.prog W ⟨g, 0, none⟩ _ _ (by rfl)]; simp [r0, f0]
 rw [run_store Tryz.prog _ ⟨g, 1, none⟩ _ _ he]; simp [r1, f1]
end Go.Proofs.YtddabafaejahbaaGreatDoor
