import Derived.Test.YtinbaopcapnbgaaShC
/- spec.Sha256: the words as bytes. -/
namespace Go.Proofs.Ytinbaopcapnbgaa
open Go.RowKit
set_option linter.unusedVariables false

def ouA (l : List UInt8) (i : Nat) : Array Value := ((List.range 32).map fun j => if j < i then .int .u8 (((l[j]?).getD 0).toNat : Int) else .int .u8 0).toArray
theorem ouA_zero (l : List UInt8) : ouA l 0 = Array.replicate 32 (.int .u8 0) := by
  simp only [ouA, Nat.not_lt_zero, if_false]
  rfl
theorem ouA_any {l : List UInt8} {i j : Nat} (hj : j < 32) : ∃ v, (ouA l i)[j]? = some v := by simp [ouA, hj]
theorem ouA_set {l : List UInt8} {i : Nat} (h : i < 32) : (ouA l i).setIfInBounds i (.int .u8 (((l[i]?).getD 0).toNat : Int)) = ouA l (i + 1) := by
  apply Array.ext_getElem?
  intro j
  rw [Array.getElem?_setIfInBounds]
  by_cases hj : i = j
  · subst hj
    simp [ouA, h]
  · rw [if_neg hj]
    by_cases hj32 : j < 32
    · simp only [ouA, List.getElem?_toArray, List.getElem?_map, List.getElem?_range hj32, Option.map_some]
      by_cases h1 : j < i
      · rw [if_pos h1, if_pos (by omega)]
      · rw [if_neg h1, if_neg (by omega)]
    · simp [ouA, hj32]
theorem outL_len (s : Sv) : (outL s).length = 32 := rfl
theorem ouA_all (s : Sv) : ouA (outL s) 32 = ((outL s).map fun c => Value.int .u8 (c.toNat : Int)).toArray := rfl
def byA (l : List UInt8) : Array Value := (l.map fun c => Value.int .u8 (c.toNat : Int)).toArray
theorem byA_size (l : List UInt8) : (byA l).size = l.length := by simp [byA]
theorem byA_one (l : List UInt8) : (byA l).all (·.oneCell') = true := Array.all_eq_true_iff_forall_mem.2 (fun v hv => by
  simp only [byA, List.mem_toArray, List.mem_map] at hv
  obtain ⟨c, _, rfl⟩ := hv
  rfl)
theorem ouA_byA (s : Sv) : ouA (outL s) 32 = byA (outL s) := ouA_all s
theorem all_rep8 (n : Nat) : (Array.replicate n (Value.int .u8 0)).all (·.oneCell') = true := Array.all_eq_true_iff_forall_mem.2 (fun v hv => by rw [(Array.mem_replicate.1 hv).2]; rfl)
theorem outL_at (s : Sv) {k : Nat} (h : k < 32) : ((outL s)[k]?).getD 0 = UInt8.ofNat ((((svL s)[k / 4]?).getD 0).toNat / 2 ^ (24 - 8 * (k % 4))) := by
  match k, h with
  | 0, _ | 1, _ | 2, _ | 3, _ | 4, _ | 5, _ | 6, _ | 7, _ | 8, _ | 9, _ | 10, _ | 11, _ | 12, _ | 13, _ | 14, _ | 15, _ | 16, _ | 17, _ | 18, _ | 19, _ | 20, _ | 21, _ | 22, _ | 23, _ | 24, _ | 25, _ | 26, _ | 27, _ | 28, _ | 29, _ | 30, _ | 31, _ => simp [outL, svL]
  | n + 32, h => exact absurd h (by omega)
theorem hvA_at8 (h : Sv) {j : Nat} (hj : j < 8) : (hvA h)[j]? = some (.int .u32 ((((svL h)[j]?).getD 0).toNat : Int)) := by
  match j, hj with
  | 0, _ | 1, _ | 2, _ | 3, _ | 4, _ | 5, _ | 6, _ | 7, _ => rfl

end Go.Proofs.Ytinbaopcapnbgaa
