import Derived.Test.YtfficbpalibmoaaGreatDoorJSgR
import Derived.StillTailTactics
import Derived.Deep.QuietTactic
import Derived.BigQuiet
import Derived.Test.YtfficbpalibmoaaGreatDoorJMath
import Derived.Test.YtfficbpalibmoaaGreatDoorJOwnT
import Derived.Deep.MidRow
/- (impl.block).words by its contract. -/
namespace Go.Proofs.YtfficbpalibmoaaGreatDoor
open Go.RowKit
set_option linter.unusedVariables false

def blA (t : List UInt8) : Array Value := ((List.range 64).map fun j => Value.int .u8 ((bW t j).toNat : Int)).toArray
theorem blA_at (t : List UInt8) {j : Nat} (h : j < 64) : (blA t)[j]? = some (.int .u8 ((bW t j).toNat : Int)) := by simp [blA, h]
theorem blA_size (t : List UInt8) : (blA t).size = 64 := by simp [blA]
theorem wA_size (m : Nat → Wd) (i : Nat) : (wA m i).size = 64 := by simp [wA]
theorem wA_one (m : Nat → Wd) (i : Nat) : (wA m i).all (·.oneCell') = true := Array.all_eq_true_iff_forall_mem.2 (fun v hv => by
  simp only [wA, List.mem_toArray, List.mem_map] at hv
  obtain ⟨j, _, rfl⟩ := hv
  split <;> rfl)
theorem b_wide' (x : Wd) (h : x.toNat < 256) : IntKind.u32.wrap (x.toNat : Int) = (x.toNat : Int) := u32_wrap _ (by omega)

set_option maxRecDepth 100000 in
set_option maxHeartbeats 8000000 in
theorem words_any (t : List UInt8) (w : World) :
    Calls Tryz.prog 106 #[.agg (blA t)] w fun e w' => e = .returned (.agg (wA (fun i => wordAt t (4 * i)) 64)) ∧ Below w.heap.size w w' := by
  have hz64 : ∀ W, (zeroValue 126).run Tryz.prog W = .ok (.agg (Array.replicate 64 (.int .u32 0))) W := by
    have := zero_of_info (P := Tryz.prog) (t := 126) (v := .agg (Array.replicate 64 (.int .u32 0))) (n := 64) (by kernel_rfl)
    exact this.1
  have hinf : (Tryz.prog.info? 126).map (·.size) = some 64 := by kernel_rfl
  obtain ⟨W0, hW0⟩ : ∃ W0, W0 = ((w.alloc (.cells (blA t) 133)).alloc (.cells (Array.replicate 64 (.int .u32 0)) 126)).alloc (.cells (Array.replicate 64 (.int .u32 0)) 126) := ⟨_, rfl⟩
  obtain ⟨m, hm⟩ : ∃ m : Nat → Wd, (fun i => wordAt t (4 * i)) = m := ⟨_, rfl⟩
  rw [hm]
  have b1 : Blk W0 w.heap.size (blA t) 133 := by rw [hW0]; exact blk_alloc (blk_alloc (blk_new _ _ _) _) _
  have b2 : Blk W0 (w.heap.size + 1) (Array.replicate 64 (.int .u32 0)) 126 := by
    have h := blk_new (w.alloc (.cells (blA t) 133)) (Array.replicate 64 (.int .u32 0)) 126
    rw [World.size_alloc] at h
    rw [hW0]; exact blk_alloc h _
  have b3 : Blk W0 (w.heap.size + 2) (wA m 0) 126 := by
    have h := blk_new ((w.alloc (.cells (blA t) 133)).alloc (.cells (Array.replicate 64 (.int .u32 0)) 126)) (Array.replicate 64 (.int .u32 0)) 126
    rw [World.size_alloc, World.size_alloc] at h
    rw [hW0, wA_zero]; exact h
  have hB : Below w.heap.size w W0 := by
    have h1 := (Below.refl w.heap.size w).alloc (Nat.le_refl _) (.cells (blA t) 133)
    have h2 := h1.alloc h1.size (.cells (Array.replicate 64 (.int .u32 0)) 126)
    rw [hW0]; exact h2.alloc h2.size _
  go_enter Tryz.func106, Tryz.ntmps106
  go_wp2
  rw [← hW0]
  have HW := Nm.hide hW0
  have HM := Nm.hide hm
  clear hW0 hm
  have hsz := hB.size
  generalize hp1 : w.heap.size = p1 at *
  have HP1 := Nm.hide hp1
  clear hp1
  go_loopw [10] (fun i wr => ∃ k : Nat, k ≤ 16 ∧ i = .int .i64 k ∧ Blk wr (p1 + 2) (wA m k) 126 ∧ Only (p1 + 2) W0 wr) (fun i _ => 16 - (intOf i).toNat)
  case atStart => exact ⟨0, by omega, rfl, b3, Only.refl _ _⟩
  case round =>
    obtain ⟨k, hk, rfl, kk, hO⟩ := hrel
    clear b3
    by_cases hlt : k < 16
    · have h64 : k < 64 := by omega
      have i1 : (0 : Int) ≤ (k : Int) := by omega
      have i2 : (k : Int) < 16 := by omega
      have i64 : (k : Int) < 64 := by omega
      have kb := hO.blk b1 (by omega)
      have f8 := blk_frozen kk k
      obtain ⟨v8, hv8⟩ := wA_any (m := m) (i := k) h64
      have c8 := (blk_cell kk k).trans hv8
      have kS := Nm.hide (show Blk (wr.setCell ⟨p1 + 2, k, none⟩ (.int .u32 ((wF m k).toNat : Int))) (p1 + 2) (wA m (k + 1)) 126 by
        have h := blk_set kk k (.int .u32 ((wF m k).toNat : Int))
        rw [wA_set h64] at h
        exact h)
      have hOS := Nm.hide (hO.set (i := k) (v := .int .u32 ((wF m k).toNat : Int)))
      have d0 := (blk_cell kb (4 * k)).trans (blA_at t (by omega))
      have d1 := (blk_cell kb (4 * k + 1)).trans (blA_at t (by omega))
      have d2 := (blk_cell kb (4 * k + 2)).trans (blA_at t (by omega))
      have d3 := (blk_cell kb (4 * k + 3)).trans (blA_at t (by omega))
      have hw := Nm.hide (show wF m k = (bW t (4 * k) <<< 24) ||| (bW t (4 * k + 1) <<< 16) ||| (bW t (4 * k + 2) <<< 8) ||| bW t (4 * k + 3) by
        rw [wF_low hlt, ← HM.out]
        rfl)
      have y0 : (bW t (4 * k)).toNat < 256 := by rw [bW_nat]; exact UInt8.toNat_lt _
      have y1 : (bW t (4 * k + 1)).toNat < 256 := by rw [bW_nat]; exact UInt8.toNat_lt _
      have y2 : (bW t (4 * k + 2)).toNat < 256 := by rw [bW_nat]; exact UInt8.toNat_lt _
      have y3 : (bW t (4 * k + 3)).toNat < 256 := by rw [bW_nat]; exact UInt8.toNat_lt _
      generalize bW t (4 * k) = x0 at *
      generalize bW t (4 * k + 1) = x1 at *
      generalize bW t (4 * k + 2) = x2 at *
      generalize bW t (4 * k + 3) = x3 at *
      obtain ⟨K0, hK0⟩ : ∃ K0, 4 * k = K0 := ⟨_, rfl⟩
      obtain ⟨K1, hK1⟩ : ∃ K1, 4 * k + 1 = K1 := ⟨_, rfl⟩
      obtain ⟨K2, hK2⟩ : ∃ K2, 4 * k + 2 = K2 := ⟨_, rfl⟩
      obtain ⟨K3, hK3⟩ : ∃ K3, 4 * k + 3 = K3 := ⟨_, rfl⟩
      rw [hK0] at d0
      rw [hK1] at d1
      rw [hK2] at d2
      rw [hK3] at d3
      have q0 : IntKind.i64.wrap (4 * (k : Int)) = (K0 : Int) := by rw [Go.wrap_small _ (by omega) (by omega)]; omega
      have q1 : IntKind.i64.wrap ((K0 : Int) + 1) = (K1 : Int) := by rw [Go.wrap_small _ (by omega) (by omega)]; omega
      have q2 : IntKind.i64.wrap ((K0 : Int) + 2) = (K2 : Int) := by rw [Go.wrap_small _ (by omega) (by omega)]; omega
      have q3 : IntKind.i64.wrap ((K0 : Int) + 3) = (K3 : Int) := by rw [Go.wrap_small _ (by omega) (by omega)]; omega
      have j0 : (K0 : Int) < 64 := by omega
      have j1 : (K1 : Int) < 64 := by omega
      have j2 : (K2 : Int) < 64 := by omega
      have j3 : (K3 : Int) < 64 := by omega
      have z0 : (0 : Int) ≤ (K0 : Int) := by omega
      have z1 : (0 : Int) ≤ (K1 : Int) := by omega
      have z2 : (0 : Int) ≤ (K2 : Int) := by omega
      have z3 : (0 : Int) ≤ (K3 : Int) := by omega
      have r0 := b_wide' x0 y0
      have r1 := b_wide' x1 y1
      have r2 := b_wide' x2 y2
      have r3 := b_wide' x3 y3
      clear hK0 hK1 hK2 hK3 y0 y1 y2 y3
      go_wp2
      go_still_tail 30, (by kernel_rfl)
      go_wp2
      rw [w_shl24, w_shl16, w_shl8, w_or, w_or, w_or, ← hw.out]
      go_roundw
      case rel => exact ⟨k + 1, by omega, by go_num, blk_drew kS.out, hOS.out.drew⟩
      case measure => simp [intOf]; omega
    · obtain rfl : k = 16 := by omega
      rw [show ((16 : Nat) : Int) = 16 from rfl]
      go_wp2
      go_loopw [5] (fun i wr => ∃ k : Nat, 16 ≤ k ∧ k ≤ 64 ∧ i = .int .i64 k ∧ Blk wr (p1 + 2) (wA m k) 126 ∧ Only (p1 + 2) W0 wr) (fun i _ => 64 - (intOf i).toNat)
      case atStart => exact ⟨16, by omega, by omega, rfl, kk, hO⟩
      case round =>
        clear kk hO
        obtain ⟨k, hk16, hk, rfl, kk, hO⟩ := hrel
        by_cases hlt : k < 64
        · have i1 : (0 : Int) ≤ (k : Int) := by omega
          have i2 : (k : Int) < 64 := by omega
          obtain ⟨wd, hwd⟩ : ∃ wd, wd = wr.drew := ⟨_, rfl⟩
          have kd : Blk wd (p1 + 2) (wA m k) 126 := by rw [hwd]; exact kk
          have hOd : Only (p1 + 2) W0 wd := by rw [hwd]; exact hO.drew
          have f8 := blk_frozen kd k
          obtain ⟨v8, hv8⟩ := wA_any (m := m) (i := k) hlt
          have c8 := (blk_cell kd k).trans hv8
          have kS := Nm.hide (show Blk (wd.setCell ⟨p1 + 2, k, none⟩ (.int .u32 ((wF m k).toNat : Int))) (p1 + 2) (wA m (k + 1)) 126 by
            have h := blk_set kd k (.int .u32 ((wF m k).toNat : Int))
            rw [wA_set hlt] at h
            exact h)
          have hOS := Nm.hide (hOd.set (i := k) (v := .int .u32 ((wF m k).toNat : Int)))
          have e15 := (blk_cell kk (k - 15)).trans (wA_at (show k - 15 < k by omega) (by omega))
          have e2 := (blk_cell kk (k - 2)).trans (wA_at (show k - 2 < k by omega) (by omega))
          have e16 := (blk_cell kd (k - 16)).trans (wA_at (show k - 16 < k by omega) (by omega))
          have e7 := (blk_cell kd (k - 7)).trans (wA_at (show k - 7 < k by omega) (by omega))
          have hw := Nm.hide (wF_high (m := m) (show ¬ k < 16 by omega))
          generalize wF m (k - 15) = x15 at *
          generalize wF m (k - 2) = x2 at *
          generalize wF m (k - 16) = x16 at *
          generalize wF m (k - 7) = x7 at *
          obtain ⟨k16, hk16'⟩ : ∃ j, k - 16 = j := ⟨_, rfl⟩
          obtain ⟨k7, hk7⟩ : ∃ j, k - 7 = j := ⟨_, rfl⟩
          obtain ⟨k15, hk15⟩ : ∃ j, k - 15 = j := ⟨_, rfl⟩
          obtain ⟨k2, hk2⟩ : ∃ j, k - 2 = j := ⟨_, rfl⟩
          rw [hk16'] at e16
          rw [hk7] at e7
          rw [hk15] at e15
          rw [hk2] at e2
          have q16 : IntKind.i64.wrap ((k : Int) - 16) = (k16 : Int) := by rw [Go.wrap_small _ (by omega) (by omega)]; omega
          have q7 : IntKind.i64.wrap ((k : Int) - 7) = (k7 : Int) := by rw [Go.wrap_small _ (by omega) (by omega)]; omega
          have q15 : IntKind.i64.wrap ((k : Int) - 15) = (k15 : Int) := by rw [Go.wrap_small _ (by omega) (by omega)]; omega
          have q2 : IntKind.i64.wrap ((k : Int) - 2) = (k2 : Int) := by rw [Go.wrap_small _ (by omega) (by omega)]; omega
          have y16 : (k16 : Int) < 64 := by omega
          have y7 : (k7 : Int) < 64 := by omega
          have y15 : (k15 : Int) < 64 := by omega
          have y2 : (k2 : Int) < 64 := by omega
          have z16 : (0 : Int) ≤ (k16 : Int) := by omega
          have z7 : (0 : Int) ≤ (k7 : Int) := by omega
          have z15 : (0 : Int) ≤ (k15 : Int) := by omega
          have z2 : (0 : Int) ≤ (k2 : Int) := by omega
          clear hk16' hk7 hk15 hk2
          have HWD0 := Nm.hide hwd
          clear hwd
          go_wp2
          go_still (by kernel_rfl)
          go_wp2_with (first | (go_at_call 108; refine (turn_any _ _ (by decide) (by decide) _).mono ?_; rintro e wv ⟨rfl, rfl⟩))
          rw [← HWD0.out]
          go_still_tail 14, (by kernel_rfl)
          go_wp2
          rw [w_shr3, w_shr10, w_xor, w_xor, w_xor, w_xor, w_add4, show turnW x15 7 ^^^ turnW x15 18 ^^^ (x15 >>> 3) = s0W x15 from rfl, show turnW x2 17 ^^^ turnW x2 19 ^^^ (x2 >>> 10) = s1W x2 from rfl, ← hw.out]
          go_roundw
          case rel => exact ⟨k + 1, by omega, by omega, by go_num, blk_drew kS.out, hOS.out.drew⟩
          case measure => simp [intOf]; omega
        · obtain rfl : k = 64 := by omega
          have b2' := hO.blk b2 (by omega)
          go_wp2_with (first
            | (refine wpList_load_blk (.tmp 3) 126 rfl rfl (p1 + 2) _ _ kk rfl Tryz.underlying126 rfl (by rw [wA_size]; exact hinf) ?_)
            | (refine wpList_store_blk (.tmp 2) (.tmp 88) 126 rfl rfl rfl (p1 + 1) _ _ b2' rfl rfl (by rw [wA_size]; exact hinf) (by rw [wA_size]; simp) (wA_one _ _) ?_; intro w9 k9 o9))
          have hb := o9.below (hO.below hB (by omega) hsz) (by omega) (Nat.le_trans hsz hO.size)
          exact bodyPost_ret (v := .agg _) (run_results_cell Tryz.results106 rfl k9 Tryz.underlying126 (by rw [wA_size]; exact hinf)) rfl ⟨rfl, by rw [HP1.out]; exact hb⟩
end Go.Proofs.YtfficbpalibmoaaGreatDoor
/- Sha256's blocks: mathematics. -/
namespace Go.Proofs.YtfficbpalibmoaaGreatDoor
open Go.RowKit
set_option linter.unusedVariables false

theorem bW_drop (t : List UInt8) (n k : Nat) : bW (t.drop n) k = bW t (n + k) := by simp [bW, List.getElem?_drop]
theorem wordAt_drop (t : List UInt8) (n k : Nat) : wordAt (t.drop n) k = wordAt t (n + k) := by
  simp only [wordAt, bW_drop, Nat.add_assoc]
theorem hash_step (t : List UInt8) (n : Nat) : addSv (hashW t n) (roundsW (fun i => wordAt (t.drop (64 * n)) (4 * i)) (hashW t n) 64) = hashW t (n + 1) := by
  simp only [wordAt_drop]
  rfl
/-- A block's cells, as a list. -/
theorem blA_list (t : List UInt8) : (blA t).toList = (List.range 64).map fun j => Value.int .u8 ((bW t j).toNat : Int) := rfl
theorem bl_ext {L : List Value} {t : List UInt8} (hl : L.length = 64) (h : ∀ j, j < 64 → L[j]? = some (.int .u8 ((bW t j).toNat : Int))) : L.toArray = blA t := by
  apply Array.ext_getElem?
  intro j
  by_cases hj : j < 64
  · rw [blA_at t hj, List.getElem?_toArray]
    exact h j hj
  · simp [blA, hj, hl]
theorem pad_low (l : List UInt8) {j : Nat} (h : j < l.length) : bW (padL l) j = bW l j := by
  simp only [bW, padL, padTo_eq]
  rw [List.append_assoc, List.append_assoc, List.getElem?_append_left h]
theorem pad_one (l : List UInt8) : bW (padL l) l.length = 128 := by
  simp only [bW, padL, padTo_eq]
  rw [List.append_assoc, List.append_assoc, List.getElem?_append_right (Nat.le_refl _), Nat.sub_self]
  rfl
theorem pad_zero (l : List UInt8) {j : Nat} (h1 : l.length < j) (h2 : j < l.length + 1 + zN l.length) : bW (padL l) j = 0 := by
  simp only [bW, padL, padTo_eq]
  rw [List.append_assoc, List.getElem?_append_right (by simp; omega), List.getElem?_append_left (by simp; omega)]
  simp
  rw [List.getElem?_replicate]
  split <;> rfl
theorem pad_len (l : List UInt8) {i : Nat} (h : i < 8) : bW (padL l) (l.length + 1 + zN l.length + i) = BitVec.ofNat 32 (UInt8.ofNat (8 * l.length / 2 ^ (8 * (7 - i)))).toNat := by
  simp only [bW, padL]
  rw [List.getElem?_append_right (by rw [padTo_len]; omega), padTo_len, show l.length + 1 + zN l.length + i - (l.length + 1 + zN l.length) = i by omega]
  simp [lenL, h]
theorem b8_nat (c : UInt8) : (BitVec.ofNat 32 c.toNat).toNat = c.toNat := by
  rw [BitVec.toNat_ofNat]
  have := c.toNat_lt
  omega
theorem spl_get : ∀ (vs : List Value) (cs : Array Value) (o j : Nat), o + vs.length ≤ cs.size → (spl cs o vs)[j]? = if o ≤ j ∧ j < o + vs.length then vs[j - o]? else cs[j]?
  | [], cs, o, j, h => by
    rw [if_neg (by simp)]
    rfl
  | v :: r, cs, o, j, h => by
    have hl : (v :: r).length = r.length + 1 := rfl
    rw [spl, spl_get r _ (o + 1) j (by simp at h ⊢; omega), Array.getElem?_setIfInBounds]
    by_cases h1 : o + 1 ≤ j ∧ j < o + 1 + r.length
    · rw [if_pos h1, if_pos (by omega), show j - o = (j - (o + 1)) + 1 by omega]
      rfl
    · rw [if_neg h1]
      by_cases h2 : o = j
      · subst h2
        rw [if_pos rfl, if_pos (by rw [hl] at h; omega), if_pos (by rw [hl]; omega), Nat.sub_self]
        rfl
      · rw [if_neg h2, if_neg (by rw [hl]; omega)]
theorem bl_ext2 {A : Array Value} {t : List UInt8} (hl : A.size = 64) (h : ∀ j, j < 64 → A[j]? = some (.int .u8 ((bW t j).toNat : Int))) : A = blA t := by
  apply Array.ext_getElem?
  intro j
  by_cases hj : j < 64
  · rw [blA_at t hj]
    exact h j hj
  · rw [Array.getElem?_eq_none (by omega), Array.getElem?_eq_none (by rw [blA_size]; omega)]
/-- The last block ahead of its length. -/
def lastA (l : List UInt8) (n : Nat) : Array Value := (splice (Array.replicate 64 (Value.int .u8 0)).toList 0 (Nm.bys (l.drop (64 * n)))).toArray.setIfInBounds (l.length - 64 * n) (.int .u8 128)
theorem lastA_size {l : List UInt8} {n : Nat} (h2 : l.length < 64 * n + 64) : (lastA l n).size = 64 := by
  simp [lastA, splice, Nm.bys]
  omega
theorem lastA_at {l : List UInt8} {n : Nat} (h1 : 64 * n ≤ l.length) (h2 : l.length < 64 * n + 64) {j : Nat} (hj : j < 64) :
    (lastA l n)[j]? = some (if j < l.length - 64 * n then .int .u8 ((bW l (64 * n + j)).toNat : Int) else if j = l.length - 64 * n then .int .u8 128 else .int .u8 0) := by
  have hs : (splice (Array.replicate 64 (Value.int .u8 0)).toList 0 (Nm.bys (l.drop (64 * n)))).length = 64 := by simp [splice, Nm.bys]; omega
  have hd : (Nm.bys (l.drop (64 * n))).length = l.length - 64 * n := by simp [Nm.bys]
  rw [lastA, Array.getElem?_setIfInBounds]
  by_cases he : l.length - 64 * n = j
  · rw [if_pos he, if_pos (by rw [List.size_toArray, hs]; omega), if_neg (by omega), if_pos he.symm]
  · rw [if_neg he, List.getElem?_toArray]
    simp only [splice, List.take_zero, List.nil_append]
    by_cases hlt : j < l.length - 64 * n
    · rw [if_pos hlt, List.getElem?_append_left (by omega)]
      have hx : l[64 * n + j]? = some (l[64 * n + j]'(by omega)) := List.getElem?_eq_getElem (by omega)
      simp only [Nm.bys, List.getElem?_map, List.getElem?_drop, hx, Option.map_some, bW, b8_nat, Option.getD_some]
    · rw [if_neg hlt, if_neg (by omega), List.getElem?_append_right (by omega), List.getElem?_drop, Array.getElem?_toList, Array.getElem?_replicate, if_pos (by omega)]
theorem last_long {l : List UInt8} {n : Nat} (h1 : 64 * n ≤ l.length) (h2 : l.length < 64 * n + 64) (h3 : 64 * n + 56 ≤ l.length) : lastA l n = blA ((padL l).drop (64 * n)) := by
  refine bl_ext2 (lastA_size h2) (fun j hj => ?_)
  rw [lastA_at h1 h2 hj, bW_drop]
  have hz : zN l.length = 119 - (l.length - 64 * n) := by unfold zN; omega
  by_cases ha : j < l.length - 64 * n
  · rw [if_pos ha, pad_low l (by omega)]
  · rw [if_neg ha]
    by_cases hb : j = l.length - 64 * n
    · rw [if_pos hb, show 64 * n + j = l.length by omega, pad_one]
      rfl
    · rw [if_neg hb, pad_zero l (by omega) (by omega)]
      rfl
theorem len_bytes (l : List UInt8) : bytesV ⟨(bigL (8 * l.length) 8).toArray⟩ = (lenL l.length).map fun c => Value.int .u8 (c.toNat : Int) := rfl
theorem lenV_at (l : List UInt8) {i : Nat} (h : i < 8) : (bytesV ⟨(bigL (8 * l.length) 8).toArray⟩)[i]? = some (.int .u8 ((UInt8.ofNat (8 * l.length / 2 ^ (8 * (7 - i)))).toNat : Int)) := by
  rw [len_bytes]
  simp [lenL, h]
theorem lenV_len (l : List UInt8) : (bytesV ⟨(bigL (8 * l.length) 8).toArray⟩).length = 8 := by rw [len_bytes]; simp [lenL]
theorem last_short {l : List UInt8} {n : Nat} (h1 : 64 * n ≤ l.length) (h2 : l.length < 64 * n + 56) : spl (lastA l n) 56 (bytesV ⟨(bigL (8 * l.length) 8).toArray⟩) = blA ((padL l).drop (64 * n)) := by
  have hs := lastA_size (l := l) (n := n) (by omega)
  refine bl_ext2 (by rw [spl_size, hs]) (fun j hj => ?_)
  rw [spl_get _ _ _ _ (by rw [lenV_len, hs]; decide), lenV_len, bW_drop]
  have hz : zN l.length = 55 - (l.length - 64 * n) := by unfold zN; omega
  by_cases hc : 56 ≤ j ∧ j < 56 + 8
  · rw [if_pos hc, lenV_at l (by omega), show 64 * n + j = l.length + 1 + zN l.length + (j - 56) by omega, pad_len l (by omega), b8_nat]
  · rw [if_neg hc, lastA_at h1 (by omega) hj]
    by_cases ha : j < l.length - 64 * n
    · rw [if_pos ha, pad_low l (by omega)]
    · rw [if_neg ha]
      by_cases hb : j = l.length - 64 * n
      · rw [if_pos hb, show 64 * n + j = l.length by omega, pad_one]
        rfl
      · rw [if_neg hb, pad_zero l (by omega) (by omega)]
        rfl
theorem last_next {l : List UInt8} {n : Nat} (h1 : 64 * n + 56 ≤ l.length) (h2 : l.length < 64 * n + 64) : spl (Array.replicate 64 (Value.int .u8 0)) 56 (bytesV ⟨(bigL (8 * l.length) 8).toArray⟩) = blA ((padL l).drop (64 * (n + 1))) := by
  refine bl_ext2 (by rw [spl_size]; simp) (fun j hj => ?_)
  rw [spl_get _ _ _ _ (by rw [lenV_len]; simp), lenV_len, bW_drop]
  have hz : zN l.length = 119 - (l.length - 64 * n) := by unfold zN; omega
  by_cases hc : 56 ≤ j ∧ j < 56 + 8
  · rw [if_pos hc, lenV_at l (by omega), show 64 * (n + 1) + j = l.length + 1 + zN l.length + (j - 56) by omega, pad_len l (by omega), b8_nat]
  · rw [if_neg hc, Array.getElem?_replicate, if_pos hj, pad_zero l (by omega) (by omega)]
    rfl
theorem blocks_short {l : List UInt8} {n : Nat} (h1 : 64 * n ≤ l.length) (h2 : l.length < 64 * n + 56) : shaL l = outL (hashW (padL l) (n + 1)) := by
  have hz : zN l.length = 55 - (l.length - 64 * n) := by unfold zN; omega
  have : (padL l).length / 64 = n + 1 := by rw [padL, List.length_append, padTo_len, lenL_len]; omega
  rw [shaL, this]
theorem blocks_long {l : List UInt8} {n : Nat} (h1 : 64 * n + 56 ≤ l.length) (h2 : l.length < 64 * n + 64) : shaL l = outL (hashW (padL l) (n + 1 + 1)) := by
  have hz : zN l.length = 119 - (l.length - 64 * n) := by unfold zN; omega
  have : (padL l).length / 64 = n + 1 + 1 := by rw [padL, List.length_append, padTo_len, lenL_len]; omega
  rw [shaL, this]
end Go.Proofs.YtfficbpalibmoaaGreatDoor
/- Stretches of a block that are written. -/
namespace Go.Proofs.YtfficbpalibmoaaGreatDoor
open Go.RowKit
set_option linter.unusedVariables false

theorem spl_mid (l1 l2 l3 v : List Value) (h : v.length = l2.length) : spl (l1 ++ l2 ++ l3).toArray l1.length v = (l1 ++ v ++ l3).toArray := by
  apply Array.ext'
  apply List.ext_getElem?
  intro j
  rw [Array.getElem?_toList, Array.getElem?_toList, spl_get _ _ _ _ (by simp; omega)]
  simp only [List.getElem?_toArray]
  by_cases h1 : j < l1.length
  · rw [if_neg (by omega), List.append_assoc, List.append_assoc, List.getElem?_append_left h1, List.getElem?_append_left h1]
  · by_cases h2 : j < l1.length + v.length
    · rw [if_pos ⟨by omega, h2⟩, List.append_assoc, List.getElem?_append_right (by omega), List.getElem?_append_left (by omega)]
    · rw [if_neg (by omega), List.append_assoc, List.append_assoc, List.getElem?_append_right (by omega), List.getElem?_append_right (by omega), List.getElem?_append_right (by omega), List.getElem?_append_right (by omega), h]

theorem spl_sum {nm : ByteArray} {t f id : Nat} {z s : List UInt8} (hz : z.length = 32) (hs : s.length = 32) : spl (sgA nm t f z id) 3 (byA s).toList = sgA nm t f s id := by
  have e := spl_mid [.string nm, .int .i64 (t : Int), .int .i64 (f : Int)] (Nm.bys z) [.int .i64 (id : Int)] (Nm.bys s) (by rw [Nm.bys_length, Nm.bys_length, hz, hs])
  exact e

theorem wpList_store_mid {P : Program} {ops : Array Oper} {rest : List Oper} {o : Oper} {a : Act} {w : World} {Q : Exit → Act → World → Prop} (p x : Operand) (t T : TypeId) (hgd : o.guard = none) (ho : o.op = .store t p x) (hdst : o.dst = none) (b off : Nat) (c c' : Array Value) (hk : Blk w b c T)
    (hp : a.eval p = .pointer (some ⟨b, off, none⟩)) (hx : a.eval x = .agg c') (hi : (P.info? t).map (·.size) = some c'.size) (hs : off + c'.size ≤ c.size) (h1 : c'.all (·.oneCell') = true)
    (h : ∀ w', Blk w' b (spl c off c'.toList) T → Only b w w' → wpList P ops Q rest a w') : wpList P ops Q (o :: rest) a w :=
  wpList_plain hgd fun _ hK => by
    have hrun := run_storeVar_mid (P := P) w b off t c' (fun j hj => ⟨by rw [blk_cell hk, Array.getElem?_eq_getElem (by omega)]; rfl, blk_frozen hk _⟩) hi h1
    unfold Oper.wp execOp
    simp only [ho, hp, hx, Instr.storeAt, Instr.sureAddr, Sem.run_bind, Sem.run_pure, Result.andThen_ok, hrun]
    have e : a.put o.dst undef = a := by rw [hdst]; rfl
    refine hK _ _ ?_
    rw [e]
    exact h _ (blk_setCells _ _ _ _ hk) (only_setCells _ _ _ (Only.refl _ _))

/-- Two bytes of a row of one's own are written. -/
theorem own_part {w : World} {B e n g cap : Nat} {l1 l2 l3 v : List Value} (h : w.ownsRow B e 1 (.slice (some ⟨g, 0, none⟩) n cap) n (l1 ++ l2 ++ l3)) (hv : v.length = l2.length) :
    ∃ cur, Blk w g cur e ∧ l1.length + v.length ≤ cur.size ∧ ∀ w', Blk w' g (spl cur l1.length v) e → w'.ownsRow B e 1 (.slice (some ⟨g, 0, none⟩) n cap) n (l1 ++ v ++ l3) := by
  have hl := h.1
  rcases h.2 with ⟨h0, _⟩ | ⟨g', cap', cur, e1, hb, hg, hn, hm, hs, ht⟩
  · cases h0
  · cases e1
    have hc : cur = (l1 ++ l2 ++ (l3 ++ cur.toList.drop n)).toArray := by
      apply Array.ext'
      have := List.take_append_drop n cur.toList
      rw [Nat.mul_one] at ht
      rw [ht] at this
      simpa [List.append_assoc] using this.symm
    have hz : cur.size = (l1 ++ l2 ++ (l3 ++ cur.toList.drop n)).length := by
      have := congrArg Array.size hc
      simpa using this
    refine ⟨cur, hg, by rw [hz]; simp; omega, fun w' hk => ⟨by rw [← hl]; simp; omega, .inr ⟨g, cap, _, rfl, hb, hk, hn, hm, by rw [spl_size]; exact hs, ?_⟩⟩⟩
    rw [hc, spl_mid l1 l2 _ v hv]
    simp only [List.append_assoc]
    rw [← List.append_assoc, ← List.append_assoc, Nat.mul_one]
    have hln : (l1 ++ v ++ l3).length = n := by
      have := hl
      simp only [List.length_append] at this ⊢
      omega
    rw [← hln, ← List.append_assoc l1 v l3]
    exact List.take_left
end Go.Proofs.YtfficbpalibmoaaGreatDoor
