import Derived.Test.YtmclegfejkoaoaaDoorJShL8
import Derived.Test.YtmclegfejkoaoaaDoorJOwnT
/- (impl.block).with by its contract. -/
namespace Go.Proofs.YtmclegfejkoaoaaDoor
open Go.RowKit
set_option linter.unusedVariables false

theorem u8_xor (x y : UInt8) : bits .xor .u8 (x.toNat : Int) (y.toNat : Int) = ((x ^^^ y).toNat : Int) := by
  have hx : ∀ z : UInt8, BitVec.ofInt 8 (z.toNat : Int) = z.toBitVec := by
    intro z
    rw [BitVec.ofInt_natCast]
    apply BitVec.eq_of_toNat_eq
    rw [BitVec.toNat_ofNat]
    exact Nat.mod_eq_of_lt z.toNat_lt
  show IntKind.u8.wrap ((BitVec.ofInt 8 (x.toNat : Int) ^^^ BitVec.ofInt 8 (y.toNat : Int)).toNat : Int) = _
  rw [hx, hx]
  have e : ((x.toBitVec ^^^ y.toBitVec).toNat : Int) = ((x ^^^ y).toNat : Int) := rfl
  rw [e]
  have h := (x ^^^ y).toNat_lt
  generalize (x ^^^ y).toNat = n at h ⊢
  simp only [IntKind.wrap, IntKind.bits, IntKind.signed]
  simp
  omega
def xoA (l : List UInt8) (m : UInt8) (i : Nat) : List UInt8 := (l.take i).map (· ^^^ m) ++ l.drop i
theorem xoA_zero (l : List UInt8) (m : UInt8) : xoA l m 0 = l := by simp [xoA]
theorem xoA_all (l : List UInt8) (m : UInt8) : xoA l m l.length = l.map (· ^^^ m) := by simp [xoA]
theorem xoA_len (l : List UInt8) (m : UInt8) (i : Nat) : (xoA l m i).length = l.length := by simp [xoA]; omega
theorem xoA_at {l : List UInt8} {m : UInt8} {i : Nat} (h : i < l.length) : (byA (xoA l m i))[i]? = some (.int .u8 ((l[i]).toNat : Int)) := by
  have e : (xoA l m i)[i]? = some l[i] := by
    rw [xoA, List.getElem?_append_right (by simp; omega)]
    simp [List.getElem?_drop]
    rw [show i + (i - min i l.length) = i by omega]
    exact List.getElem?_eq_getElem h
  simp [byA, e]
theorem xoA_set {l : List UInt8} {m : UInt8} {i : Nat} (h : i < l.length) : (byA (xoA l m i)).setIfInBounds i (.int .u8 ((l[i] ^^^ m).toNat : Int)) = byA (xoA l m (i + 1)) := by
  have e : (xoA l m i).set i (l[i] ^^^ m) = xoA l m (i + 1) := by
    apply List.ext_getElem?
    intro j
    rw [List.getElem?_set]
    by_cases hj : i = j
    · subst hj
      rw [if_pos rfl, if_pos (by rw [xoA_len]; exact h), xoA, List.getElem?_append_left (by simp; omega)]
      simp [h]
    · rw [if_neg hj, xoA, xoA]
      by_cases h1 : j < i
      · rw [List.getElem?_append_left (by simp; omega), List.getElem?_append_left (by simp; omega)]
        simp [h1, show j < i + 1 by omega]
      · rw [List.getElem?_append_right (by simp; omega), List.getElem?_append_right (by simp; omega)]
        simp only [List.getElem?_drop, List.length_map, List.length_take]
        congr 1
        omega
  rw [← e]
  simp [byA, List.map_set]

set_option maxRecDepth 100000 in
set_option maxHeartbeats 1600000 in
theorem with_any (l : List UInt8) (hl : l.length = 64) (m : UInt8) (w : World) :
    Calls Tryd.prog 41 #[.agg (byA l), .int .u8 (m.toNat : Int)] w fun e w' => e = .returned (.agg (byA (l.map (· ^^^ m)))) ∧ Below w.heap.size w w' := by
  have hz64 : ∀ W, (zeroValue 64).run Tryd.prog W = .ok (.agg (Array.replicate 64 (.int .u8 0))) W := by
    have := zero_of_info (P := Tryd.prog) (t := 64) (v := .agg (Array.replicate 64 (.int .u8 0))) (n := 64) (by kernel_rfl)
    exact this.1
  have hinf64 : (Tryd.prog.info? 64).map (·.size) = some 64 := by kernel_rfl
  obtain ⟨W0, hW0⟩ : ∃ W0, W0 = (w.alloc (.cells (byA l) 64)).alloc (.cells (Array.replicate 64 (.int .u8 0)) 64) := ⟨_, rfl⟩
  have b1 : Blk W0 w.heap.size (byA (xoA l m 0)) 64 := by rw [hW0, xoA_zero]; exact blk_alloc (blk_new _ _ _) _
  have b2 : Blk W0 (w.heap.size + 1) (Array.replicate 64 (.int .u8 0)) 64 := by
    have h := blk_new (w.alloc (.cells (byA l) 64)) (Array.replicate 64 (.int .u8 0)) 64
    rw [World.size_alloc] at h
    rw [hW0]; exact h
  have hB : Below w.heap.size w W0 := by
    have h1 := (Below.refl w.heap.size w).alloc (Nat.le_refl _) (.cells (byA l) 64)
    rw [hW0]; exact h1.alloc h1.size _
  have HL := Nm.hide hl
  clear hl
  go_enter Tryd.func41, Tryd.ntmps41
  go_wp2
  rw [← hW0]
  clear hW0
  go_loopw [6] (fun i wr => ∃ k : Nat, k ≤ 64 ∧ i = .int .i64 k ∧ Blk wr w.heap.size (byA (xoA l m k)) 64 ∧ Blk wr (w.heap.size + 1) (Array.replicate 64 (.int .u8 0)) 64 ∧ Below w.heap.size w wr) (fun i _ => 64 - (intOf i).toNat)
  case atStart => exact ⟨0, by omega, rfl, b1, b2, hB⟩
  case round =>
    clear b1 b2 hB
    obtain ⟨k, hk, rfl, b1, b2, hB⟩ := hrel
    by_cases hlt : k < 64
    · have i1 : (0 : Int) ≤ (k : Int) := by omega
      have i2 : (k : Int) < 64 := by omega
      have hkl : k < l.length := by rw [HL.out]; exact hlt
      have c1 := (blk_cell b1 k).trans (xoA_at hkl)
      have f1 := blk_frozen b1 k
      have kS := Nm.hide (show Blk (World.setCell _ ⟨w.heap.size, k, none⟩ (.int .u8 ((l[k] ^^^ m).toNat : Int))) w.heap.size (byA (xoA l m (k + 1))) 64 by
        have h := blk_set b1 k (.int .u8 ((l[k] ^^^ m).toNat : Int))
        rw [xoA_set hkl] at h
        exact h)
      have k2S := Nm.hide (blk_far (i := k) (v := .int .u8 ((l[k] ^^^ m).toNat : Int)) b2 (show w.heap.size + 1 ≠ w.heap.size by omega))
      have hBS := Nm.hide (hB.setCell (p := ⟨w.heap.size, k, none⟩) (Nat.le_refl _) (.int .u8 ((l[k] ^^^ m).toNat : Int)))
      generalize l[k] = c at *
      go_wp2
      rw [u8_xor]
      go_roundw
      case rel => exact ⟨k + 1, by omega, by go_num, kS.out, k2S.out, hBS.out⟩
      case measure => simp [intOf]; omega
    · obtain rfl : k = 64 := by omega
      rw [show ((64 : Nat) : Int) = 64 from rfl]
      have e64 : xoA l m 64 = l.map (· ^^^ m) := by rw [← HL.out]; exact xoA_all l m
      rw [e64] at b1
      have hbs : (byA (l.map (· ^^^ m))).size = 64 := by rw [byA_size, List.length_map]; exact HL.out
      have hinfB : (Tryd.prog.info? 64).map (·.size) = some (byA (l.map (· ^^^ m))).size := by rw [hbs]; exact hinf64
      have HBS := Nm.hide hbs
      clear e64 hbs
      have hs := hB.size
      go_wp2_with (first
        | (refine wpList_load_blk (.tmp 2) 64 rfl rfl w.heap.size _ _ b1 rfl Tryd.underlying64 rfl hinfB ?_)
        | (refine wpList_store_blk (.tmp 4) (.tmp 16) 64 rfl rfl rfl (w.heap.size + 1) _ _ b2 rfl rfl hinfB (by rw [HBS.out]; simp) (byA_one _) ?_; intro w9 k9 o9))
      have hb := o9.below hB (by omega) hs
      exact bodyPost_ret (v := .agg _) (run_results_cell Tryd.results41 rfl k9 Tryd.underlying64 hinfB) rfl ⟨rfl, hb⟩
end Go.Proofs.YtmclegfejkoaoaaDoor
