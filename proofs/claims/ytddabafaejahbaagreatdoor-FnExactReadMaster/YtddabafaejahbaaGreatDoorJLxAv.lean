import Derived.Test.YtddabafaejahbaaGreatDoorLxAt
import Derived.Test.YtddabafaejahbaaGreatDoorLxL
import Derived.Test.YtddabafaejahbaaGreatDoorLxAu
/- errors.As at the program's errors. -/
namespace Go.Proofs.YtddabafaejahbaaGreatDoor
open Go.RowKit Go.Extern.Stop Go.Stop Go.Extern
set_option linter.unusedVariables false
set_option maxRecDepth 100000 in
set_option maxHeartbeats 4000000 in
theorem as_lc (q c c0 : Int) (g : Nat) (w : World) (he : ErrT w) (hk : Blk w g #[.int .i64 c0] 128) :
 Calls Tryz.prog 78 #[.iface 133 (.agg #[.int .i64 q, .iface 128 (.int .i64 c)]), .iface 135 (.pointer (some ⟨g, 0, none⟩))] w fun ev w' => ev = .returned (.bool true) ∧ Blk w' g #[.int .i64 c] 128 ∧ w.grownBy w' (some g) := by
 have x1 := @run_callFunc_extern Tryz.prog 145 _ (fun args => ReflectliteValue.unpack (args.getD 0 (.tuple #[]))) Tryz.func145 (by kernel_rfl) (by kernel_rfl) (by kernel_rfl) (by kernel_rfl); have x2 := @run_callFunc_extern Tryz.prog 146 _ (ReflectliteValue.methodAny (ReflectliteValue.valueError "reflectlite.Value.Type" 0) (fun t _ _ _ => ReflectliteType.toType t)) Tryz.func146 (by kernel_rfl) (by kernel_rfl) (by kernel_rfl) (by kernel_rfl); have x3 := @run_callFunc_extern Tryz.prog 147 _ (ReflectliteValue.method (ReflectliteValue.valueError "reflectlite.Value.IsNil" 0) ReflectliteValue.isNil) Tryz.func147 (by kernel_rfl) (by kernel_rfl) (by kernel_rfl) (by kernel_rfl); have x4 := @run_callFunc_extern Tryz.prog 257 _ (ReflectliteType.abiMethod fun t => do pure (.int .u8 (← Rtype.kind t))) Tryz.func257 (by kernel_rfl) (by kernel_rfl) (by kernel_rfl) (by kernel_rfl); have x5 := @run_callFunc_extern Tryz.prog 271 _ (ReflectliteType.method ReflectliteType.elem) Tryz.func271 (by kernel_rfl) (by kernel_rfl) (by kernel_rfl) (by kernel_rfl); have x6 := @run_callFunc_extern Tryz.prog 272 _ (ReflectliteType.relation "Implements" ReflectliteType.implements_) Tryz.func272 (by kernel_rfl) (by kernel_rfl) (by kernel_rfl) (by kernel_rfl); have x7 := @run_callFunc_extern Tryz.prog 192 _ ReflectliteType.typeOf Tryz.func192 (by kernel_rfl) (by kernel_rfl) (by kernel_rfl) (by kernel_rfl); have x8 := @run_callFunc_extern Tryz.prog 269 _ (ReflectliteType.relation "AssignableTo" ReflectliteType.assignableTo) Tryz.func269 (by kernel_rfl) (by kernel_rfl) (by kernel_rfl) (by kernel_rfl); have x9 := @run_callFunc_extern Tryz.prog 193 _ (ReflectliteValue.method (ReflectliteValue.valueError "reflectlite.Value.Elem" 0) ReflectliteValue.elem) Tryz.func193 (by kernel_rfl) (by kernel_rfl) (by kernel_rfl) (by kernel_rfl); have x0 := @run_callFunc_extern Tryz.prog 194 _ ReflectliteValue.set Tryz.func194 (by kernel_rfl) (by kernel_rfl) (by kernel_rfl) (by kernel_rfl); have m1 := Tryz.mKind; have m2 := Tryz.mElem; have m3 := Tryz.mImpl; have m4 := Tryz.mAssi; have t1 := Tryz.valueOfPC; have t2 := Tryz.typePC; have t3 := Tryz.kindPC; have t4 := Tryz.kindC; have t5 := Tryz.elemPC; have t6 := Tryz.implC; have h1 : (w.alloc (.cells #[.pointer (some ⟨g, 0, none⟩)] 135)).cell? ⟨w.heap.size, 0, none⟩ = some (.pointer (some ⟨g, 0, none⟩)) := by simp
 have h2 : ((w.alloc (.cells #[.pointer (some ⟨g, 0, none⟩)] 135)).alloc (.cells #[.pointer (some ⟨8, 135, none⟩), .pointer (some ⟨w.heap.size, 0, none⟩), .int .u64 150] 181)).cell? ⟨w.heap.size, 0, none⟩ = some (.pointer (some ⟨g, 0, none⟩)) := by
  rw [World.cell?_alloc_lt _ _ ⟨w.heap.size, 0, none⟩ (by simp)]; exact h1
 have h3 : (((w.alloc (.cells #[.pointer (some ⟨g, 0, none⟩)] 135)).alloc (.cells #[.pointer (some ⟨8, 135, none⟩), .pointer (some ⟨w.heap.size, 0, none⟩), .int .u64 150] 181)).alloc (.cells #[.pointer (some ⟨8, 135, none⟩), .pointer (some ⟨w.heap.size, 0, none⟩), .int .u64 150] 181)).cell? ⟨w.heap.size, 0, none⟩ = some (.pointer (some ⟨g, 0, none⟩)) := by
  rw [World.cell?_alloc_lt _ _ ⟨w.heap.size, 0, none⟩ (by simp; omega)]; exact h2
 have n1 := Tryz.isNilPC ⟨w.heap.size, 0, none⟩ ⟨g, 0, none⟩ _ h2; have hE : ((w.alloc (.cells #[.pointer (some ⟨g, 0, none⟩)] 135)).alloc (.cells #[.pointer (some ⟨8, 135, none⟩), .pointer (some ⟨w.heap.size, 0, none⟩), .int .u64 150] 181)).cell? ⟨0, 0, none⟩ = some (.iface 237 (.agg #[.pointer (some ⟨8, 74, none⟩)])) := (he.alloc _).alloc _; have k3 := blk_alloc (blk_alloc (blk_alloc hk (.cells #[.pointer (some ⟨g, 0, none⟩)] 135)) (.cells #[.pointer (some ⟨8, 135, none⟩), .pointer (some ⟨w.heap.size, 0, none⟩), .int .u64 150] 181)) (.cells #[.pointer (some ⟨8, 135, none⟩), .pointer (some ⟨w.heap.size, 0, none⟩), .int .u64 150] 181); have y1 := Tryz.typeOfL; have y2 := Tryz.assiLC; have y3 := Tryz.noAsL; have y4 := Tryz.unL; have y5 := Tryz.mUn; have z1 := Tryz.typeOfC; have z2 := Tryz.assiCC; have z3 := Tryz.valueOfC
 have h4 : ((((w.alloc (.cells #[.pointer (some ⟨g, 0, none⟩)] 135)).alloc (.cells #[.pointer (some ⟨8, 135, none⟩), .pointer (some ⟨w.heap.size, 0, none⟩), .int .u64 150] 181)).alloc (.cells #[.pointer (some ⟨8, 135, none⟩), .pointer (some ⟨w.heap.size, 0, none⟩), .int .u64 150] 181)).alloc (.cells #[.int .i64 q, .iface 128 (.int .i64 c)] 133)).cell? ⟨w.heap.size, 0, none⟩ = some (.pointer (some ⟨g, 0, none⟩)) := by
  rw [World.cell?_alloc_lt _ _ ⟨w.heap.size, 0, none⟩ (by simp; omega)]; exact h3
 have z4 := Tryz.elemVC ⟨w.heap.size, 0, none⟩ ⟨g, 0, none⟩ _ h4; have k4 := blk_alloc k3 (.cells #[.int .i64 q, .iface 128 (.int .i64 c)] 133); have k5 := blk_alloc k4 (.cells #[.int .i64 c] 128); have z5 := Tryz.setC ⟨g, 0, none⟩ ⟨((((w.alloc (.cells #[.pointer (some ⟨g, 0, none⟩)] 135)).alloc (.cells #[.pointer (some ⟨8, 135, none⟩), .pointer (some ⟨w.heap.size, 0, none⟩), .int .u64 150] 181)).alloc (.cells #[.pointer (some ⟨8, 135, none⟩), .pointer (some ⟨w.heap.size, 0, none⟩), .int .u64 150] 181)).alloc (.cells #[.int .i64 q, .iface 128 (.int .i64 c)] 133)).heap.size, 0, none⟩ c (.int .i64 c0) (((((w.alloc (.cells #[.pointer (some ⟨g, 0, none⟩)] 135)).alloc (.cells #[.pointer (some ⟨8, 135, none⟩), .pointer (some ⟨w.heap.size, 0, none⟩), .int .u64 150] 181)).alloc (.cells #[.pointer (some ⟨8, 135, none⟩), .pointer (some ⟨w.heap.size, 0, none⟩), .int .u64 150] 181)).alloc (.cells #[.int .i64 q, .iface 128 (.int .i64 c)] 133)).alloc (.cells #[.int .i64 c] 128)) (blk_cell (blk_new _ #[.int .i64 c] 128) 0) (blk_cell k5 0) (blk_frozen k5 0); simp only [World.size_alloc] at z5; clear h1 h2 he hk; go_enter Tryz.func78, Tryz.ntmps78; go_wp2; refine wp_loop_rounds 2 ?_; rw [rounds_succ]; go_wp2; rw [rounds_succ]; go_wp2; go_ret; exact ⟨rfl, blk_set k5 0 (.int .i64 c), gr_trans (gr_trans (gr_alloc (w := w) (g := g) (.cells #[.pointer (some ⟨g, 0, none⟩)] 135)) (gr_trans (gr_alloc (.cells #[.pointer (some ⟨8, 135, none⟩), .pointer (some ⟨w.heap.size, 0, none⟩), .int .u64 150] 181)) (gr_alloc (.cells #[.pointer (some ⟨8, 135, none⟩), .pointer (some ⟨w.heap.size, 0, none⟩), .int .u64 150] 181)))) (gr_trans (gr_alloc _) (gr_trans (gr_alloc _) (gr_set _ g 0 (.int .i64 c))))⟩
end Go.Proofs.YtddabafaejahbaaGreatDoor
/- impl.tellError, impl.Lex by their contracts. -/
namespace Go.Proofs.YtddabafaejahbaaGreatDoor
open Go.RowKit
set_option linter.unusedVariables false
theorem below_gr {w W : World} {g : Nat} (h : w.grownBy W (some g)) (hg : w.heap.size ≤ g) : Below w.heap.size w W := ⟨h.os, h.tape, h.output, h.size, fun k hk => h.block k hk (by simp; omega)⟩
theorem ErrT.grown {w W : World} {g : Nat} (h : ErrT w) (hg : w.grownBy W (some g)) (h0 : g ≠ 0) : ErrT W := by
 unfold ErrT; rw [World.cell?_of_block (w := w) (w' := W) (a := ⟨0, 0, none⟩) (hg.block 0 h.lt (by simp; exact fun e => h0 e.symm))]; exact h
theorem ErrT.below {w W : World} (h : ErrT w) (hb : Below w.heap.size w W) : ErrT W := by
 unfold ErrT; rw [World.cell?_of_block (w := w) (w' := W) (a := ⟨0, 0, none⟩) (hb.block 0 h.lt)]; exact h
set_option maxRecDepth 100000 in
set_option maxHeartbeats 800000 in
theorem tell_nil (w : World) :
 Calls Tryz.prog 33 #[.nilIface] w fun e w' => e = .returned (.tuple #[.int .i64 0, .int .i64 0]) ∧ Below w.heap.size w w' := by
 have ha := fun t W => as_nil t W
 go_enter Tryz.func33, Tryz.ntmps33; go_wp2_with (go_at_call 78; refine (ha _ _).mono ?_; rintro e w' ⟨rfl, rfl⟩)
 refine bodyPost_ret (v := .tuple #[.int .i64 0, .int .i64 0]) ?_ rfl ⟨rfl, ((Below.refl _ _).alloc (Nat.le_refl _) _).alloc (by simp) _⟩; simp [results, Tryz.f33, go_sem]
set_option maxRecDepth 100000 in
set_option maxHeartbeats 400000 in
theorem newLexer_any (s : ByteArray) (w : World) :
 Calls Tryz.prog 31 #[.string s] w fun e w' => e = .returned (.agg #[.string s, .int .i64 0, .int .i64 1, .int .i64 0]) ∧ Below w.heap.size w w' := by
 go_enter Tryz.func31, Tryz.ntmps31; go_wp2; refine bodyPost_ret (v := .agg #[.string s, .int .i64 0, .int .i64 1, .int .i64 0]) ?_ rfl ⟨rfl, ?_⟩
 · simp [results, Tryz.f31, go_sem]
 · exact (Below.refl _ _).alloc (Nat.le_refl _) _
/-- What Lex answers, as it lies. -/
def LexP (s : ByteArray) (w : World) (e : Ending) (w' : World) : Prop :=
 ∃ v ps, e = .returned (.tuple #[v, .int .i64 (lexR s).co, .int .i64 (lexR s).at_]) ∧ ps.map (·.1) = (lexR s).ls ∧ LOwn w' w.heap.size v ps ∧ Below w.heap.size w w'
end Go.Proofs.YtddabafaejahbaaGreatDoor
