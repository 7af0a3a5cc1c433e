import Derived.Test.YtmclegfejkoaoaaDoorJIBg
import Derived.Test.YtmclegfejkoaoaaDoorITk
import Derived.Test.YtmclegfejkoaoaaDoorJShL8
import Derived.Test.YtmclegfejkoaoaaDoorJBitM
import Derived.Test.YtmclegfejkoaoaaDoorIWo
/- (impl.state).sum by its contract. -/
namespace Go.Proofs.YtmclegfejkoaoaaDoor
open Go.RowKit
set_option linter.unusedVariables false

theorem ouA_size (l : List UInt8) (i : Nat) : (ouA l i).size = 32 := by simp [ouA]
theorem big4 (x : Nat) : bigL x 4 = [UInt8.ofNat (x / 2 ^ 24), UInt8.ofNat (x / 2 ^ 16), UInt8.ofNat (x / 2 ^ 8), UInt8.ofNat (x / 2 ^ 0)] := rfl
theorem ouA_four (s : Sv) {k : Nat} (h : k < 8) : spl (ouA (outL s) (4 * k)) (4 * k) (bytesV ⟨(bigL (((svL s)[k]?).getD 0).toNat 4).toArray⟩) = ouA (outL s) (4 * (k + 1)) := by
  have e : ∀ i, i < 4 → ((outL s)[4 * k + i]?).getD 0 = UInt8.ofNat ((((svL s)[k]?).getD 0).toNat / 2 ^ (24 - 8 * i)) := by
    intro i hi
    rw [outL_at s (by omega), show (4 * k + i) / 4 = k by omega, show (4 * k + i) % 4 = i by omega]
  rw [big4]
  show spl _ _ [.int .u8 ((UInt8.ofNat ((((svL s)[k]?).getD 0).toNat / 2 ^ 24)).toNat : Int), .int .u8 ((UInt8.ofNat ((((svL s)[k]?).getD 0).toNat / 2 ^ 16)).toNat : Int), .int .u8 ((UInt8.ofNat ((((svL s)[k]?).getD 0).toNat / 2 ^ 8)).toNat : Int), .int .u8 ((UInt8.ofNat ((((svL s)[k]?).getD 0).toNat / 2 ^ 0)).toNat : Int)] = _
  rw [← e 0 (by omega), ← e 1 (by omega), ← e 2 (by omega), ← e 3 (by omega)]
  simp only [spl, Nat.add_zero]
  rw [ouA_set (by omega), ouA_set (by omega), show 4 * k + 1 + 1 = 4 * k + 2 by omega, ouA_set (by omega), show 4 * k + 2 + 1 = 4 * k + 3 by omega, ouA_set (by omega), show 4 * (k + 1) = 4 * k + 3 + 1 by omega]

set_option maxRecDepth 100000 in
set_option maxHeartbeats 8000000 in
theorem sum_any (s : Sv) (w : World) :
    Calls Tryd.prog 47 #[.agg (hvA s)] w fun e w' => e = .returned (.agg (byA (outL s))) ∧ Below w.heap.size w w' := by
  have hz32 : ∀ W, (zeroValue 41).run Tryd.prog W = .ok (.agg (Array.replicate 32 (.int .u8 0))) W := by
    have := zero_of_info (P := Tryd.prog) (t := 41) (v := .agg (Array.replicate 32 (.int .u8 0))) (n := 32) (by kernel_rfl)
    exact this.1
  have hinfA : (Tryd.prog.info? 73).map (·.size) = some (hvA s).size := by rw [hvA_size]; kernel_rfl
  have hinf32 : (Tryd.prog.info? 41).map (·.size) = some 32 := by kernel_rfl
  obtain ⟨W0, hW0⟩ : ∃ W0, W0 = ((w.alloc (.cells (hvA s) 73)).alloc (.cells (Array.replicate 32 (.int .u8 0)) 41)).alloc (.cells (Array.replicate 32 (.int .u8 0)) 41) := ⟨_, rfl⟩
  have kA : Blk (((w.alloc (.cells (hvA s) 73)).alloc (.cells (Array.replicate 32 (.int .u8 0)) 41)).alloc (.cells (Array.replicate 32 (.int .u8 0)) 41)) w.heap.size (hvA s) 73 := blk_alloc (blk_alloc (blk_new _ _ _) _) _
  have b2 : Blk W0 (w.heap.size + 1) (Array.replicate 32 (.int .u8 0)) 41 := by
    have h := blk_new (w.alloc (.cells (hvA s) 73)) (Array.replicate 32 (.int .u8 0)) 41
    rw [World.size_alloc] at h
    rw [hW0]; exact blk_alloc h _
  have b3 : Blk W0 (w.heap.size + 2) (ouA (outL s) 0) 41 := by
    have h := blk_new ((w.alloc (.cells (hvA s) 73)).alloc (.cells (Array.replicate 32 (.int .u8 0)) 41)) (Array.replicate 32 (.int .u8 0)) 41
    rw [World.size_alloc, World.size_alloc] at h
    rw [hW0, ouA_zero]; exact h
  have hB : Below w.heap.size w W0 := by
    have h1 := (Below.refl w.heap.size w).alloc (Nat.le_refl _) (.cells (hvA s) 73)
    have h2 := h1.alloc h1.size (.cells (Array.replicate 32 (.int .u8 0)) 41)
    rw [hW0]; exact h2.alloc h2.size _
  have hsz := hB.size
  go_enter Tryd.func47, Tryd.ntmps47
  go_wp2_with (refine wpList_load_blk (.tmp 1) 73 rfl rfl w.heap.size _ _ kA rfl Tryd.underlying73 rfl hinfA ?_)
  rw [← hW0]
  have HW := Nm.hide hW0
  clear hW0 kA
  generalize hp1 : w.heap.size = p1 at *
  have HP1 := Nm.hide hp1
  clear hp1
  go_loopw [7] (fun i wr => ∃ k : Nat, k ≤ 8 ∧ i = .int .i64 k ∧ Blk wr (p1 + 2) (ouA (outL s) (4 * k)) 41 ∧ Only (p1 + 2) W0 wr) (fun i _ => 8 - (intOf i).toNat)
  case atStart => exact ⟨0, by omega, rfl, b3, Only.refl _ _⟩
  case round =>
    obtain ⟨k, hk, rfl, kk, hO⟩ := hrel
    clear b3
    by_cases hlt : k < 8
    · have i1 : (0 : Int) ≤ (k : Int) := by omega
      have i2 : (k : Int) < 8 := by omega
      obtain ⟨ui, hui, hus⟩ := info_one (P := Tryd.prog) (e := 66) (by kernel_rfl)
      have hix := fun W => run_index_arr (P := Tryd.prog) (W := W) Tryd.underlying73 Tryd.underlying66 hui hus hlt (hvA_at s hlt)
      have H4 := Nm.hide (ouA_four s hlt)
      have HS := Nm.hide (ouA_size (outL s) (4 * k))
      obtain ⟨x, hx⟩ : ∃ x : Nat, (((svL s)[k]?).getD 0).toNat = x := ⟨_, rfl⟩
      have hx32 : x < 4294967296 := by rw [← hx]; exact (((svL s)[k]?).getD 0).isLt
      rw [hx] at hix
      have H4' := Nm.hide (show spl (ouA (outL s) (4 * k)) (4 * k) (bytesV ⟨(bigL x 4).toArray⟩) = ouA (outL s) (4 * (k + 1)) by rw [← hx]; exact H4.out)
      clear hx H4
      have hbb := fun W => bigBytesN_any x 4 W (by omega) (by decide) (by decide)
      have hTr : True := trivial
      obtain ⟨K4, hK4⟩ : ∃ K4, 4 * k = K4 := ⟨_, rfl⟩
      have q0 : IntKind.i64.wrap (4 * (k : Int)) = (K4 : Int) := by rw [Go.wrap_small _ (by omega) (by omega)]; omega
      have qx : IntKind.i64.wrap (x : Int) = (x : Int) := Go.wrap_small _ (by omega) (by omega)
      have z0 : (0 : Int) ≤ (K4 : Int) := by omega
      have z1 : (K4 : Int) ≤ 32 := by omega
      have z2 : (K4 : Int) < 32 := by omega
      rw [hK4] at kk HS H4'
      have HK4 := Nm.hide hK4
      clear hK4
      go_wp2
      refine wp_region_held_drew (S := fun _ => True) (by kernel_rfl) trivial (fun hHeld => ?_)
      refine wpAnyH_take (i := 0) (v := ?_) rfl (by kernel_rfl) (by kernel_rfl) (by kernel_rfl) (fun _ _ _ h => h) (Or.inl ⟨by rfl, ?_⟩) (by assumption) ?_
      rotate_left 1
      · (intro w hSw; go_simp; try (with_reducible rfl))
      refine wpAnyH_take (i := 1) (v := ?_) rfl (by kernel_rfl) (by kernel_rfl) (by kernel_rfl) (fun _ _ _ h => h) (Or.inl ⟨by rfl, ?_⟩) (by assumption) ?_
      rotate_left 1
      · (intro w hSw; go_simp; try (with_reducible rfl))
      refine wpAnyH_take (i := 2) (v := ?_) rfl (by kernel_rfl) (by kernel_rfl) (by kernel_rfl) (fun _ _ _ h => h) (Or.inl ⟨by rfl, ?_⟩) (by assumption) ?_
      rotate_left 1
      · (intro w hSw; go_simp; try (with_reducible rfl))
      refine wpAnyH_take (i := 3) (v := ?_) rfl (by kernel_rfl) (by kernel_rfl) (by kernel_rfl) (fun _ _ _ h => h) (Or.inl ⟨by rfl, ?_⟩) (by assumption) ?_
      rotate_left 1
      · (intro w hSw; go_simp; try (with_reducible rfl))
      refine wpAnyH_take (i := 4) (v := ?_) rfl (by kernel_rfl) (by kernel_rfl) (by kernel_rfl) (fun _ _ _ h => h) (Or.inl ⟨by rfl, ?_⟩) (by assumption) ?_
      rotate_left 1
      · (intro w hSw; go_simp; try (with_reducible rfl))
      refine wpAnyH_ready (rs := [5]) (by kernel_rfl) (by simp) ?_
      refine AllReadyH.cons rfl (fun K hK => ?_) AllReadyH.nil
      go_simp
      refine (hbb _).mono ?_
      rintro e w3 ⟨rfl, hb3⟩
      have hbd : Below wr.heap.size wr w3 := (Below.refl _ wr).drew.trans hb3
      have kk3 := blk_below kk hbd
      have hO3 := hO.more hbd
      rw [if_neg (show ¬ 32 = K4 by omega)]
      go_wp2_with fail
      refine hK.out _ _ trivial (fun _ => ?_)
      clear hK K hb3 hbd
      refine wpAnyH_ready (rs := [6]) (by kernel_rfl) (by simp) ?_
      refine AllReadyH.cons rfl (fun K hK => ?_) AllReadyH.nil
      refine step_copy_str rfl (.tmp 13) (.tmp 16) 22 9 rfl 5 Tryd.underlying22 (by kernel_rfl) (p1 + 2) K4 (32 - K4) (32 - K4) (by go_simp) ⟨(bigL x 4).toArray⟩ (by go_simp) _ _ kk3 (by show 4 ≤ _; have := HK4.out; omega) (by rw [HS.out]; show K4 + 4 ≤ 32; have := HK4.out; omega) ?_
      intro w4 k4 o4
      rw [H4'.out] at k4
      refine hK.out _ _ trivial (fun _ => ?_)
      clear hK K
      have hO4 := hO3.then o4 (.inl rfl)
      clear o4 hO3 kk3
      refine wpAnyH_done (by kernel_rfl) ?_ _
      go_wp2
      go_roundw
      case rel => exact ⟨k + 1, by omega, by go_num, k4, hO4⟩
      case measure => simp [intOf]; omega
    · obtain rfl : k = 8 := by omega
      rw [show ((8 : Nat) : Int) = 8 from rfl]
      rw [show 4 * 8 = 32 from rfl, ouA_byA] at kk
      have b2' := hO.blk b2 (by omega)
      have hinfB : (Tryd.prog.info? 41).map (·.size) = some (byA (outL s)).size := by rw [byA_size]; exact hinf32
      go_wp2_with (first
        | (refine wpList_load_blk (.tmp 3) 41 rfl rfl (p1 + 2) _ _ kk rfl Tryd.underlying41 rfl hinfB ?_)
        | (refine wpList_store_blk (.tmp 2) (.tmp 19) 41 rfl rfl rfl (p1 + 1) _ _ b2' rfl rfl hinfB (by rw [byA_size, outL_len]; simp) (byA_one _) ?_; intro w9 k9 o9))
      have hb := o9.below (hO.below hB (by omega) hsz) (by omega) (Nat.le_trans hsz hO.size)
      exact bodyPost_ret (v := .agg _) (run_results_cell Tryd.results47 rfl k9 Tryd.underlying41 hinfB) rfl ⟨rfl, by rw [HP1.out]; exact hb⟩
end Go.Proofs.YtmclegfejkoaoaaDoor
/- Sha256's blocks: mathematics. -/
namespace Go.Proofs.YtmclegfejkoaoaaDoor
open Go.RowKit
set_option linter.unusedVariables false

theorem bW_drop (t : List UInt8) (n k : Nat) : bW (t.drop n) k = bW t (n + k) := by simp [bW, List.getElem?_drop]
theorem wordAt_drop (t : List UInt8) (n k : Nat) : wordAt (t.drop n) k = wordAt t (n + k) := by
  simp only [wordAt, bW_drop, Nat.add_assoc]
theorem hash_step (t : List UInt8) (n : Nat) : addSv (hashW t n) (roundsW (fun i => wordAt (t.drop (64 * n)) (4 * i)) (hashW t n) 64) = hashW t (n + 1) := by
  simp only [wordAt_drop]
  rfl
/-- A block's cells, as a list. -/
theorem blA_list (t : List UInt8) : (blA t).toList = (List.range 64).map fun j => Value.int .u8 ((bW t j).toNat : Int) := rfl
theorem bl_ext {L : List Value} {t : List UInt8} (hl : L.length = 64) (h : ∀ j, j < 64 → L[j]? = some (.int .u8 ((bW t j).toNat : Int))) : L.toArray = blA t := by
  apply Array.ext_getElem?
  intro j
  by_cases hj : j < 64
  · rw [blA_at t hj, List.getElem?_toArray]
    exact h j hj
  · simp [blA, hj, hl]
theorem pad_low (l : List UInt8) {j : Nat} (h : j < l.length) : bW (padL l) j = bW l j := by
  simp only [bW, padL, padTo_eq]
  rw [List.append_assoc, List.append_assoc, List.getElem?_append_left h]
theorem pad_one (l : List UInt8) : bW (padL l) l.length = 128 := by
  simp only [bW, padL, padTo_eq]
  rw [List.append_assoc, List.append_assoc, List.getElem?_append_right (Nat.le_refl _), Nat.sub_self]
  rfl
theorem pad_zero (l : List UInt8) {j : Nat} (h1 : l.length < j) (h2 : j < l.length + 1 + zN l.length) : bW (padL l) j = 0 := by
  simp only [bW, padL, padTo_eq]
  rw [List.append_assoc, List.getElem?_append_right (by simp; omega), List.getElem?_append_left (by simp; omega)]
  simp
  rw [List.getElem?_replicate]
  split <;> rfl
theorem pad_len (l : List UInt8) {i : Nat} (h : i < 8) : bW (padL l) (l.length + 1 + zN l.length + i) = BitVec.ofNat 32 (UInt8.ofNat (8 * l.length / 2 ^ (8 * (7 - i)))).toNat := by
  simp only [bW, padL]
  rw [List.getElem?_append_right (by rw [padTo_len]; omega), padTo_len, show l.length + 1 + zN l.length + i - (l.length + 1 + zN l.length) = i by omega]
  simp [lenL, h]
theorem b8_nat (c : UInt8) : (BitVec.ofNat 32 c.toNat).toNat = c.toNat := by
  rw [BitVec.toNat_ofNat]
  have := c.toNat_lt
  omega
theorem spl_get : ∀ (vs : List Value) (cs : Array Value) (o j : Nat), o + vs.length ≤ cs.size → (spl cs o vs)[j]? = if o ≤ j ∧ j < o + vs.length then vs[j - o]? else cs[j]?
  | [], cs, o, j, h => by
    rw [if_neg (by simp)]
    rfl
  | v :: r, cs, o, j, h => by
    have hl : (v :: r).length = r.length + 1 := rfl
    rw [spl, spl_get r _ (o + 1) j (by simp at h ⊢; omega), Array.getElem?_setIfInBounds]
    by_cases h1 : o + 1 ≤ j ∧ j < o + 1 + r.length
    · rw [if_pos h1, if_pos (by omega), show j - o = (j - (o + 1)) + 1 by omega]
      rfl
    · rw [if_neg h1]
      by_cases h2 : o = j
      · subst h2
        rw [if_pos rfl, if_pos (by rw [hl] at h; omega), if_pos (by rw [hl]; omega), Nat.sub_self]
        rfl
      · rw [if_neg h2, if_neg (by rw [hl]; omega)]
theorem bl_ext2 {A : Array Value} {t : List UInt8} (hl : A.size = 64) (h : ∀ j, j < 64 → A[j]? = some (.int .u8 ((bW t j).toNat : Int))) : A = blA t := by
  apply Array.ext_getElem?
  intro j
  by_cases hj : j < 64
  · rw [blA_at t hj]
    exact h j hj
  · rw [Array.getElem?_eq_none (by omega), Array.getElem?_eq_none (by rw [blA_size]; omega)]
/-- The last block ahead of its length. -/
def lastA (l : List UInt8) (n : Nat) : Array Value := (splice (Array.replicate 64 (Value.int .u8 0)).toList 0 (Nm.bys (l.drop (64 * n)))).toArray.setIfInBounds (l.length - 64 * n) (.int .u8 128)
theorem lastA_size {l : List UInt8} {n : Nat} (h2 : l.length < 64 * n + 64) : (lastA l n).size = 64 := by
  simp [lastA, splice, Nm.bys]
  omega
theorem lastA_at {l : List UInt8} {n : Nat} (h1 : 64 * n ≤ l.length) (h2 : l.length < 64 * n + 64) {j : Nat} (hj : j < 64) :
    (lastA l n)[j]? = some (if j < l.length - 64 * n then .int .u8 ((bW l (64 * n + j)).toNat : Int) else if j = l.length - 64 * n then .int .u8 128 else .int .u8 0) := by
  have hs : (splice (Array.replicate 64 (Value.int .u8 0)).toList 0 (Nm.bys (l.drop (64 * n)))).length = 64 := by simp [splice, Nm.bys]; omega
  have hd : (Nm.bys (l.drop (64 * n))).length = l.length - 64 * n := by simp [Nm.bys]
  rw [lastA, Array.getElem?_setIfInBounds]
  by_cases he : l.length - 64 * n = j
  · rw [if_pos he, if_pos (by rw [List.size_toArray, hs]; omega), if_neg (by omega), if_pos he.symm]
  · rw [if_neg he, List.getElem?_toArray]
    simp only [splice, List.take_zero, List.nil_append]
    by_cases hlt : j < l.length - 64 * n
    · rw [if_pos hlt, List.getElem?_append_left (by omega)]
      have hx : l[64 * n + j]? = some (l[64 * n + j]'(by omega)) := List.getElem?_eq_getElem (by omega)
      simp only [Nm.bys, List.getElem?_map, List.getElem?_drop, hx, Option.map_some, bW, b8_nat, Option.getD_some]
    · rw [if_neg hlt, if_neg (by omega), List.getElem?_append_right (by omega), List.getElem?_drop, Array.getElem?_toList, Array.getElem?_replicate, if_pos (by omega)]
theorem last_long {l : List UInt8} {n : Nat} (h1 : 64 * n ≤ l.length) (h2 : l.length < 64 * n + 64) (h3 : 64 * n + 56 ≤ l.length) : lastA l n = blA ((padL l).drop (64 * n)) := by
  refine bl_ext2 (lastA_size h2) (fun j hj => ?_)
  rw [lastA_at h1 h2 hj, bW_drop]
  have hz : zN l.length = 119 - (l.length - 64 * n) := by unfold zN; omega
  by_cases ha : j < l.length - 64 * n
  · rw [if_pos ha, pad_low l (by omega)]
  · rw [if_neg ha]
    by_cases hb : j = l.length - 64 * n
    · rw [if_pos hb, show 64 * n + j = l.length by omega, pad_one]
      rfl
    · rw [if_neg hb, pad_zero l (by omega) (by omega)]
      rfl
theorem len_bytes (l : List UInt8) : bytesV ⟨(bigL (8 * l.length) 8).toArray⟩ = (lenL l.length).map fun c => Value.int .u8 (c.toNat : Int) := rfl
theorem lenV_at (l : List UInt8) {i : Nat} (h : i < 8) : (bytesV ⟨(bigL (8 * l.length) 8).toArray⟩)[i]? = some (.int .u8 ((UInt8.ofNat (8 * l.length / 2 ^ (8 * (7 - i)))).toNat : Int)) := by
  rw [len_bytes]
  simp [lenL, h]
theorem lenV_len (l : List UInt8) : (bytesV ⟨(bigL (8 * l.length) 8).toArray⟩).length = 8 := by rw [len_bytes]; simp [lenL]
theorem last_short {l : List UInt8} {n : Nat} (h1 : 64 * n ≤ l.length) (h2 : l.length < 64 * n + 56) : spl (lastA l n) 56 (bytesV ⟨(bigL (8 * l.length) 8).toArray⟩) = blA ((padL l).drop (64 * n)) := by
  have hs := lastA_size (l := l) (n := n) (by omega)
  refine bl_ext2 (by rw [spl_size, hs]) (fun j hj => ?_)
  rw [spl_get _ _ _ _ (by rw [lenV_len, hs]; decide), lenV_len, bW_drop]
  have hz : zN l.length = 55 - (l.length - 64 * n) := by unfold zN; omega
  by_cases hc : 56 ≤ j ∧ j < 56 + 8
  · rw [if_pos hc, lenV_at l (by omega), show 64 * n + j = l.length + 1 + zN l.length + (j - 56) by omega, pad_len l (by omega), b8_nat]
  · rw [if_neg hc, lastA_at h1 (by omega) hj]
    by_cases ha : j < l.length - 64 * n
    · rw [if_pos ha, pad_low l (by omega)]
    · rw [if_neg ha]
      by_cases hb : j = l.length - 64 * n
      · rw [if_pos hb, show 64 * n + j = l.length by omega, pad_one]
        rfl
      · rw [if_neg hb, pad_zero l (by omega) (by omega)]
        rfl
theorem last_next {l : List UInt8} {n : Nat} (h1 : 64 * n + 56 ≤ l.length) (h2 : l.length < 64 * n + 64) : spl (Array.replicate 64 (Value.int .u8 0)) 56 (bytesV ⟨(bigL (8 * l.length) 8).toArray⟩) = blA ((padL l).drop (64 * (n + 1))) := by
  refine bl_ext2 (by rw [spl_size]; simp) (fun j hj => ?_)
  rw [spl_get _ _ _ _ (by rw [lenV_len]; simp), lenV_len, bW_drop]
  have hz : zN l.length = 119 - (l.length - 64 * n) := by unfold zN; omega
  by_cases hc : 56 ≤ j ∧ j < 56 + 8
  · rw [if_pos hc, lenV_at l (by omega), show 64 * (n + 1) + j = l.length + 1 + zN l.length + (j - 56) by omega, pad_len l (by omega), b8_nat]
  · rw [if_neg hc, Array.getElem?_replicate, if_pos hj, pad_zero l (by omega) (by omega)]
    rfl
theorem blocks_short {l : List UInt8} {n : Nat} (h1 : 64 * n ≤ l.length) (h2 : l.length < 64 * n + 56) : shaL l = outL (hashW (padL l) (n + 1)) := by
  have hz : zN l.length = 55 - (l.length - 64 * n) := by unfold zN; omega
  have : (padL l).length / 64 = n + 1 := by rw [padL, List.length_append, padTo_len, lenL_len]; omega
  rw [shaL, this]
theorem blocks_long {l : List UInt8} {n : Nat} (h1 : 64 * n + 56 ≤ l.length) (h2 : l.length < 64 * n + 64) : shaL l = outL (hashW (padL l) (n + 1 + 1)) := by
  have hz : zN l.length = 119 - (l.length - 64 * n) := by unfold zN; omega
  have : (padL l).length / 64 = n + 1 + 1 := by rw [padL, List.length_append, padTo_len, lenL_len]; omega
  rw [shaL, this]
end Go.Proofs.YtmclegfejkoaoaaDoor
