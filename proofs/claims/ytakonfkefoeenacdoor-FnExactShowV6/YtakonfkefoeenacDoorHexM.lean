/- Numbers in digits of base 16: mathematics. -/
import Derived.Test.YtakonfkefoeenacDoorLab
namespace Go.Proofs.YtakonfkefoeenacDoor
open Go.RowKit

def hexD (k : Nat) : UInt8 := if k < 10 then UInt8.ofNat (48 + k) else UInt8.ofNat (87 + k)
/-- A number's hexadecimal digits, no needless noughts. -/
def hexF : Nat → Nat → List UInt8
  | 0, _ => []
  | f + 1, n => if n < 16 then [hexD n] else hexF f (n / 16) ++ [hexD (n % 16)]
theorem hexF_enough : ∀ (f g n : Nat), n < f → n < g → hexF f n = hexF g n := by
  intro f
  induction f with
  | zero => intro g n h; omega
  | succ f ih =>
    intro g n hf hg
    cases g with
    | zero => omega
    | succ g =>
      rw [hexF, hexF]
      by_cases h : n < 16
      · rw [if_pos h, if_pos h]
      · rw [if_neg h, if_neg h, ih g (n / 16) (by omega) (by omega)]
def hexL (n : Nat) : List UInt8 := hexF (n + 1) n
def hexS (n : Nat) : ByteArray := ⟨(hexL n).toArray⟩
theorem hexL_small {n : Nat} (h : n < 16) : hexL n = [hexD n] := by rw [hexL, hexF, if_pos h]
theorem hexL_step {n : Nat} (h : ¬ n < 16) : hexL n = hexL (n / 16) ++ [hexD (n % 16)] := by
  rw [hexL, hexF, if_neg h, hexL]
  rw [hexF_enough n (n / 16 + 1) (n / 16) (by omega) (by omega)]
theorem hexL_len {n : Nat} (h : n < 65536) : (hexL n).length ≤ 4 := by
  by_cases h1 : n < 16
  · rw [hexL_small h1]; simp
  by_cases h2 : n / 16 < 16
  · rw [hexL_step h1, hexL_small h2]; simp
  by_cases h3 : n / 16 / 16 < 16
  · rw [hexL_step h1, hexL_step h2, hexL_small h3]; simp
  · rw [hexL_step h1, hexL_step h2, hexL_step h3, hexL_small (by omega)]; simp
theorem hexS_size {n : Nat} (h : n < 65536) : (hexS n).size ≤ 4 := by
  have := hexL_len h
  show (hexL n).toArray.size ≤ 4
  simpa using this

def hexLit : ByteArray := ⟨#[48, 49, 50, 51, 52, 53, 54, 55, 56, 57, 97, 98, 99, 100, 101, 102]⟩
theorem hexLit_at (k : Nat) (h : k < 16) : hexLit.extract k (k + 1) = ⟨#[hexD k]⟩ := by
  match k, h with
  | 0, _ => rfl
  | 1, _ => rfl
  | 2, _ => rfl
  | 3, _ => rfl
  | 4, _ => rfl
  | 5, _ => rfl
  | 6, _ => rfl
  | 7, _ => rfl
  | 8, _ => rfl
  | 9, _ => rfl
  | 10, _ => rfl
  | 11, _ => rfl
  | 12, _ => rfl
  | 13, _ => rfl
  | 14, _ => rfl
  | 15, _ => rfl
  | n + 16, h => exact absurd h (by omega)

end Go.Proofs.YtakonfkefoeenacDoor
