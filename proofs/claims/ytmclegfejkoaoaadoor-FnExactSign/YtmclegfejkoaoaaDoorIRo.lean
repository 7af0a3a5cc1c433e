import Derived.Test.YtmclegfejkoaoaaDoorJImT
import Derived.Deep.QuietTactic
import Derived.BigQuiet
/- (impl.state).round by its contract. -/
namespace Go.Proofs.YtmclegfejkoaoaaDoor
open Go.RowKit
set_option linter.unusedVariables false

def t1X (s : Sv) (x : Wd) : Wd := s.h + (turnW s.e 6 ^^^ turnW s.e 11 ^^^ turnW s.e 25) + ((s.e &&& s.f) ^^^ (~~~s.e &&& s.g)) + x
def roundX (s : Sv) (x : Wd) : Sv := ⟨t1X s x + t2W s, s.a, s.b, s.c, s.d + t1X s x, s.e, s.f, s.g⟩
theorem roundX_eq (s : Sv) (k w : Wd) : roundX s (k + w) = roundW s k w := by
  have e : t1X s (k + w) = t1W s k w := by rw [t1X, t1W, ← BitVec.add_assoc]
  rw [roundX, roundW, e]
theorem blk_drewN {w : World} {b : Nat} {cs : Array Value} {T : TypeId} (n : Nat) (h : Blk w b cs T) : Blk (w.drewN n) b cs T := h
theorem below_drewN {B : Nat} {w w' : World} (n : Nat) (h : Below B w w') : Below B w (w'.drewN n) := ⟨h.os, h.tape, h.output, h.size, h.block⟩
theorem w_add22 (a b c d e f : Wd) : ((a.toNat : Int) + (b.toNat : Int) + (c.toNat : Int) + (d.toNat : Int) + ((e.toNat : Int) + (f.toNat : Int))) % (4294967296 : Int) = ((a + b + c + d + (e + f)).toNat : Int) := by
  rw [← w_add, ← w_add, ← w_add, ← w_add, ← w_add]
  omega
theorem w_add14 (z a b c d : Wd) : ((z.toNat : Int) + ((a.toNat : Int) + (b.toNat : Int) + (c.toNat : Int) + (d.toNat : Int))) % (4294967296 : Int) = ((z + (a + b + c + d)).toNat : Int) := by
  rw [← w_add, ← w_add, ← w_add, ← w_add]
  omega

set_option maxRecDepth 100000 in
set_option maxHeartbeats 8000000 in
theorem round_any (s : Sv) (x : Wd) (w : World) :
    Calls Tryd.prog 49 #[.agg (hvA s), .int .u32 (x.toNat : Int)] w fun e w' => e = .returned (.agg (hvA (roundX s x))) ∧ Below w.heap.size w w' := by
  obtain ⟨va, vb, vc, vd, ve, vf, vg, vh⟩ := s
  have hinf8 : (Tryd.prog.info? 73).map (·.size) = some 8 := by kernel_rfl
  have hkA : ∀ (A Z : Array Value) (n : Nat), Blk (((w.alloc (.cells A 73)).alloc (.cells Z 73)).drewN n) (w.heap.size + 1) Z 73 := by
    intro A Z n
    have h := blk_new (w.alloc (.cells A 73)) Z 73
    rw [World.size_alloc] at h
    exact blk_drewN n h
  have hBA : ∀ (A Z : Array Value) (n : Nat), Below w.heap.size w (((w.alloc (.cells A 73)).alloc (.cells Z 73)).drewN n) := fun A Z n =>
    below_drewN n (((Below.refl w.heap.size w).alloc (Nat.le_refl _) _).alloc (((Below.refl w.heap.size w).alloc (Nat.le_refl _) _).size) _)
  show Calls Tryd.prog 49 #[.agg #[.int .u32 (va.toNat : Int), .int .u32 (vb.toNat : Int), .int .u32 (vc.toNat : Int), .int .u32 (vd.toNat : Int), .int .u32 (ve.toNat : Int), .int .u32 (vf.toNat : Int), .int .u32 (vg.toNat : Int), .int .u32 (vh.toNat : Int)], .int .u32 (x.toNat : Int)] w _
  go_enter Tryd.func49, Tryd.ntmps49
  go_wp2
  go_quiet (fail)
  go_wp2
  go_quiet (fail)
  go_wp2_with (first
    | (go_at_call 50; refine (turn_any _ _ (by decide) (by decide) _).mono ?_; rintro e wv ⟨rfl, rfl⟩)
    | (refine wpList_store_blk (.tmp 4) (.tmp 84) 73 rfl rfl rfl (w.heap.size + 1) _ _ (hkA _ _ _) rfl rfl hinf8 rfl (all8 _ _ _ _ _ _ _ _) ?_; intro w9 k9 o9))
  have hsg : (if IntKind.u32.signed = true then (-1 : Int) else IntKind.u32.max) = IntKind.u32.max := rfl
  simp only [hsg, w_xor, w_and, w_not] at k9
  rw [w_add22, w_add14] at k9
  have hb := o9.below (hBA _ _ _) (Nat.le_succ _) (hBA _ _ _).size
  exact bodyPost_ret (v := .agg _) (run_results_cell Tryd.results49 rfl k9 Tryd.underlying73 hinf8) rfl ⟨rfl, hb⟩
end Go.Proofs.YtmclegfejkoaoaaDoor
