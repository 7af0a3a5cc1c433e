/- Sha256's blocks: mathematics. -/
import Derived.Test.YtokegkiddkpedaaDoorShP
import Derived.Test.YtokegkiddkpedaaDoorIWo
import Derived.Test.YtokegkiddkpedaaDoorIBg
namespace Go.Proofs.YtokegkiddkpedaaDoor
open Go.RowKit
set_option linter.unusedVariables false

theorem bW_drop (t : List UInt8) (n k : Nat) : bW (t.drop n) k = bW t (n + k) := by simp [bW, List.getElem?_drop]
theorem wordAt_drop (t : List UInt8) (n k : Nat) : wordAt (t.drop n) k = wordAt t (n + k) := by
  simp only [wordAt, bW_drop, Nat.add_assoc]
theorem hash_step (t : List UInt8) (n : Nat) : addSv (hashW t n) (roundsW (fun i => wordAt (t.drop (64 * n)) (4 * i)) (hashW t n) 64) = hashW t (n + 1) := by
  simp only [wordAt_drop]
  rfl
/-- A block's cells, as a list. -/
theorem blA_list (t : List UInt8) : (blA t).toList = (List.range 64).map fun j => Value.int .u8 ((bW t j).toNat : Int) := rfl
theorem bl_ext {L : List Value} {t : List UInt8} (hl : L.length = 64) (h : ∀ j, j < 64 → L[j]? = some (.int .u8 ((bW t j).toNat : Int))) : L.toArray = blA t := by
  apply Array.ext_getElem?
  intro j
  by_cases hj : j < 64
  · rw [blA_at t hj, List.getElem?_toArray]
    exact h j hj
  · simp [blA, hj, hl]
theorem pad_low (l : List UInt8) {j : Nat} (h : j < l.length) : bW (padL l) j = bW l j := by
  simp only [bW, padL, padTo_eq]
  rw [List.append_assoc, List.append_assoc, List.getElem?_append_left h]
theorem pad_one (l : List UInt8) : bW (padL l) l.length = 128 := by
  simp only [bW, padL, padTo_eq]
  rw [List.append_assoc, List.append_assoc, List.getElem?_append_right (Nat.le_refl _), Nat.sub_self]
  rfl
theorem pad_zero (l : List UInt8) {j : Nat} (h1 : l.length < j) (h2 : j < l.length + 1 + zN l.length) : bW (padL l) j = 0 := by
  simp only [bW, padL, padTo_eq]
  rw [List.append_assoc, List.getElem?_append_right (by simp; omega), List.getElem?_append_left (by simp; omega)]
  simp
  rw [List.getElem?_replicate]
  split <;> rfl
theorem pad_len (l : List UInt8) {i : Nat} (h : i < 8) : bW (padL l) (l.length + 1 + zN l.length + i) = BitVec.ofNat 32 (UInt8.ofNat (8 * l.length / 2 ^ (8 * (7 - i)))).toNat := by
  simp only [bW, padL]
  rw [List.getElem?_append_right (by rw [padTo_len]; omega), padTo_len, show l.length + 1 + zN l.length + i - (l.length + 1 + zN l.length) = i by omega]
  simp [lenL, h]
theorem b8_nat (c : UInt8) : (BitVec.ofNat 32 c.toNat).toNat = c.toNat := by
  rw [BitVec.toNat_ofNat]
  have := c.toNat_lt
  omega
theorem spl_get : ∀ (vs : List Value) (cs : Array Value) (o j : Nat), o + vs.length ≤ cs.size → (spl cs o vs)[j]? = if o ≤ j ∧ j < o + vs.length then vs[j - o]? else cs[j]?
  | [], cs, o, j, h => by
    rw [if_neg (by simp)]
    rfl
  | v :: r, cs, o, j, h => by
    have hl : (v :: r).length = r.length + 1 := rfl
    rw [spl, spl_get r _ (o + 1) j (by simp at h ⊢; omega), Array.getElem?_setIfInBounds]
    by_cases h1 : o + 1 ≤ j ∧ j < o + 1 + r.length
    · rw [if_pos h1, if_pos (by omega), show j - o = (j - (o + 1)) + 1 by omega]
      rfl
    · rw [if_neg h1]
      by_cases h2 : o = j
      · subst h2
        rw [if_pos rfl, if_pos (by rw [hl] at h; omega), if_pos (by rw [hl]; omega), Nat.sub_self]
        rfl
      · rw [if_neg h2, if_neg (by rw [hl]; omega)]
theorem bl_ext2 {A : Array Value} {t : List UInt8} (hl : A.size = 64) (h : ∀ j, j < 64 → A[j]? = some (.int .u8 ((bW t j).toNat : Int))) : A = blA t := by
  apply Array.ext_getElem?
  intro j
  by_cases hj : j < 64
  · rw [blA_at t hj]
    exact h j hj
  · rw [Array.getElem?_eq_none (by omega), Array.getElem?_eq_none (by rw [blA_size]; omega)]
/-- The last block ahead of its length. -/
def lastA (l : List UInt8) (n : Nat) : Array Value := (splice (Array.replicate 64 (Value.int .u8 0)).toList 0 (Nm.bys (l.drop (64 * n)))).toArray.setIfInBounds (l.length - 64 * n) (.int .u8 128)
theorem lastA_size {l : List UInt8} {n : Nat} (h2 : l.length < 64 * n + 64) : (lastA l n).size = 64 := by
  simp [lastA, splice, Nm.bys]
  omega
theorem lastA_at {l : List UInt8} {n : Nat} (h1 : 64 * n ≤ l.length) (h2 : l.length < 64 * n + 64) {j : Nat} (hj : j < 64) :
    (lastA l n)[j]? = some (if j < l.length - 64 * n then .int .u8 ((bW l (64 * n + j)).toNat : Int) else if j = l.length - 64 * n then .int .u8 128 else .int .u8 0) := by
  have hs : (splice (Array.replicate 64 (Value.int .u8 0)).toList 0 (Nm.bys (l.drop (64 * n)))).length = 64 := by simp [splice, Nm.bys]; omega
  have hd : (Nm.bys (l.drop (64 * n))).length = l.length - 64 * n := by simp [Nm.bys]
  rw [lastA, Array.getElem?_setIfInBounds]
  by_cases he : l.length - 64 * n = j
  · rw [if_pos he, if_pos (by rw [List.size_toArray, hs]; omega), if_neg (by omega), if_pos he.symm]
  · rw [if_neg he, List.getElem?_toArray]
    simp only [splice, List.take_zero, List.nil_append]
    by_cases hlt : j < l.length - 64 * n
    · rw [if_pos hlt, List.getElem?_append_left (by omega)]
      have hx : l[64 * n + j]? = some (l[64 * n + j]'(by omega)) := List.getElem?_eq_getElem (by omega)
      simp only [Nm.bys, List.getElem?_map, List.getElem?_drop, hx, Option.map_some, bW, b8_nat, Option.getD_some]
    · rw [if_neg hlt, if_neg (by omega), List.getElem?_append_right (by omega), List.getElem?_drop, Array.getElem?_toList, Array.getElem?_replicate, if_pos (by omega)]
theorem last_long {l : List UInt8} {n : Nat} (h1 : 64 * n ≤ l.length) (h2 : l.length < 64 * n + 64) (h3 : 64 * n + 56 ≤ l.length) : lastA l n = blA ((padL l).drop (64 * n)) := by
  refine bl_ext2 (lastA_size h2) (fun j hj => ?_)
  rw [lastA_at h1 h2 hj, bW_drop]
  have hz : zN l.length = 119 - (l.length - 64 * n) := by unfold zN; omega
  by_cases ha : j < l.length - 64 * n
  · rw [if_pos ha, pad_low l (by omega)]
  · rw [if_neg ha]
    by_cases hb : j = l.length - 64 * n
    · rw [if_pos hb, show 64 * n + j = l.length by omega, pad_one]
      rfl
    · rw [if_neg hb, pad_zero l (by omega) (by omega)]
      rfl
theorem len_bytes (l : List UInt8) : bytesV ⟨(bigL (8 * l.length) 8).toArray⟩ = (lenL l.length).map fun c => Value.int .u8 (c.toNat : Int) := rfl
theorem lenV_at (l : List UInt8) {i : Nat} (h : i < 8) : (bytesV ⟨(bigL (8 * l.length) 8).toArray⟩)[i]? = some (.int .u8 ((UInt8.ofNat (8 * l.length / 2 ^ (8 * (7 - i)))).toNat : Int)) := by
  rw [len_bytes]
  simp [lenL, h]
theorem lenV_len (l : List UInt8) : (bytesV ⟨(bigL (8 * l.length) 8).toArray⟩).length = 8 := by rw [len_bytes]; simp [lenL]
theorem last_short {l : List UInt8} {n : Nat} (h1 : 64 * n ≤ l.length) (h2 : l.length < 64 * n + 56) : spl (lastA l n) 56 (bytesV ⟨(bigL (8 * l.length) 8).toArray⟩) = blA ((padL l).drop (64 * n)) := by
  have hs := lastA_size (l := l) (n := n) (by omega)
  refine bl_ext2 (by rw [spl_size, hs]) (fun j hj => ?_)
  rw [spl_get _ _ _ _ (by rw [lenV_len, hs]; decide), lenV_len, bW_drop]
  have hz : zN l.length = 55 - (l.length - 64 * n) := by unfold zN; omega
  by_cases hc : 56 ≤ j ∧ j < 56 + 8
  · rw [if_pos hc, lenV_at l (by omega), show 64 * n + j = l.length + 1 + zN l.length + (j - 56) by omega, pad_len l (by omega), b8_nat]
  · rw [if_neg hc, lastA_at h1 (by omega) hj]
    by_cases ha : j < l.length - 64 * n
    · rw [if_pos ha, pad_low l (by omega)]
    · rw [if_neg ha]
      by_cases hb : j = l.length - 64 * n
      · rw [if_pos hb, show 64 * n + j = l.length by omega, pad_one]
        rfl
      · rw [if_neg hb, pad_zero l (by omega) (by omega)]
        rfl
theorem last_next {l : List UInt8} {n : Nat} (h1 : 64 * n + 56 ≤ l.length) (h2 : l.length < 64 * n + 64) : spl (Array.replicate 64 (Value.int .u8 0)) 56 (bytesV ⟨(bigL (8 * l.length) 8).toArray⟩) = blA ((padL l).drop (64 * (n + 1))) := by
  refine bl_ext2 (by rw [spl_size]; simp) (fun j hj => ?_)
  rw [spl_get _ _ _ _ (by rw [lenV_len]; simp), lenV_len, bW_drop]
  have hz : zN l.length = 119 - (l.length - 64 * n) := by unfold zN; omega
  by_cases hc : 56 ≤ j ∧ j < 56 + 8
  · rw [if_pos hc, lenV_at l (by omega), show 64 * (n + 1) + j = l.length + 1 + zN l.length + (j - 56) by omega, pad_len l (by omega), b8_nat]
  · rw [if_neg hc, Array.getElem?_replicate, if_pos hj, pad_zero l (by omega) (by omega)]
    rfl
theorem blocks_short {l : List UInt8} {n : Nat} (h1 : 64 * n ≤ l.length) (h2 : l.length < 64 * n + 56) : shaL l = outL (hashW (padL l) (n + 1)) := by
  have hz : zN l.length = 55 - (l.length - 64 * n) := by unfold zN; omega
  have : (padL l).length / 64 = n + 1 := by rw [padL, List.length_append, padTo_len, lenL_len]; omega
  rw [shaL, this]
theorem blocks_long {l : List UInt8} {n : Nat} (h1 : 64 * n + 56 ≤ l.length) (h2 : l.length < 64 * n + 64) : shaL l = outL (hashW (padL l) (n + 1 + 1)) := by
  have hz : zN l.length = 119 - (l.length - 64 * n) := by unfold zN; omega
  have : (padL l).length / 64 = n + 1 + 1 := by rw [padL, List.length_append, padTo_len, lenL_len]; omega
  rw [shaL, this]
end Go.Proofs.YtokegkiddkpedaaDoor
