/- Noughts of an address: mathematics. -/
import Derived.Test.YtakonfkefoeenacDoorV6M
namespace Go.Proofs.YtakonfkefoeenacDoor
open Go.RowKit

def SpAt (z : Nat → Bool) (n i : Nat) : Prop := spFind z = (match spIn z n (9 - n - i) i with | some r => some r | none => spOut z (n - 1))
theorem sp_enter {z : Nat → Bool} {n : Nat} (h : spFind z = spOut z n) (hn : 2 ≤ n) : SpAt z n 0 := by
  obtain ⟨k, rfl⟩ : ∃ k, n = k + 2 := ⟨n - 2, by omega⟩
  rw [SpAt, h, spOut, Nat.sub_zero]
  rfl
theorem sp_hit {z : Nat → Bool} {n i : Nat} (h : SpAt z n i) (hi : i + n ≤ 8) (ha : allZ z i n = true) : spFind z = some (n, i) := by
  rw [SpAt, show 9 - n - i = (8 - n - i) + 1 by omega, spIn, if_pos ha] at h
  exact h
theorem sp_miss {z : Nat → Bool} {n i : Nat} (h : SpAt z n i) (hi : i + n ≤ 8) (ha : allZ z i n = false) : SpAt z n (i + 1) := by
  rw [SpAt, show 9 - n - i = (9 - n - (i + 1)) + 1 by omega, spIn, if_neg (by rw [ha]; simp)] at h
  exact h
theorem sp_exit {z : Nat → Bool} {n i : Nat} (h : SpAt z n i) (hi : 9 ≤ i + n) : spFind z = spOut z (n - 1) := by
  rw [SpAt, show 9 - n - i = 0 by omega, spIn] at h
  exact h
theorem sp_none {z : Nat → Bool} {n : Nat} (h : spFind z = spOut z n) (hn : n = 1) : spFind z = none := by rw [h, hn]; rfl

theorem grp_val {s : ByteArray} {j : Nat} (h : 2 * j + 1 < s.size) : grp s j = s[2 * j].toNat * 256 + s[2 * j + 1].toNat := by
  have e : (s.extract (2 * j) (2 * j + 2)).data.toList = [s[2 * j], s[2 * j + 1]] := by
    refine List.ext_getElem (by simp; omega) ?_
    intro i h1 h2
    have hi : i < 2 := by simpa using h2
    have e := ByteArray.getElem_extract (b := s) (start := 2 * j) (stop := 2 * j + 2) (i := i) (h := by simp; omega)
    have e2 : (s.extract (2 * j) (2 * j + 2)).data.toList[i] = s[2 * j + i]'(by omega) := e
    rw [e2]
    rcases i with _ | _ | i
    · rfl
    · rfl
    · omega
  rw [grp, e]
  simp [numL]
def zeros (m : Nat) : ByteArray := ⟨(List.replicate m 0).toArray⟩
theorem zeros_eq {s : ByteArray} {i n : Nat} (hs : s.size = 16) (h : i + n ≤ 8) : ((s.extract (2 * i) (2 * (i + n))).toList == (zeros (2 * n)).toList) = allZ (zf s) i n := by
  rw [Bool.eq_iff_iff, beq_iff_eq, allZ, List.all_eq_true, ByteArray.toList_eq, ByteArray.toList_eq]
  have hl : (s.extract (2 * i) (2 * (i + n))).data.toList.length = 2 * n := by simp; omega
  have hat : ∀ m (hm : m < 2 * n), (s.extract (2 * i) (2 * (i + n))).data.toList[m]'(by omega) = s[2 * i + m]'(by omega) := by
    intro m hm
    exact ByteArray.getElem_extract (b := s) (start := 2 * i) (stop := 2 * (i + n)) (i := m) (h := by simp; omega)
  constructor
  · intro e k hk
    have hk' : k < n := by simpa using hk
    have hz : ∀ m (hm : m < 2 * n), s[2 * i + m]'(by omega) = 0 := by
      intro m hm
      rw [← hat m hm]
      have := congrArg (fun l => l[m]?) e
      simp only [zeros] at this
      rw [List.getElem?_eq_getElem (by omega), List.getElem?_eq_getElem (by simp; omega)] at this
      simpa using this
    rw [zf_at s (i + k) (by omega), decide_eq_true_eq, grp_val (by omega)]
    have h0 := hz (2 * k) (by omega)
    have h1 := hz (2 * k + 1) (by omega)
    have e0 : s[2 * (i + k)]'(by omega) = 0 := by
      rw [← h0]; congr 1; omega
    have e1 : s[2 * (i + k) + 1]'(by omega) = 0 := by
      rw [← h1]; congr 1; omega
    rw [e0, e1]; rfl
  · intro hall
    refine List.ext_getElem (by rw [hl]; simp [zeros]) ?_
    intro m h1 h2
    have hm : m < 2 * n := by omega
    rw [hat m hm]
    simp only [zeros, List.getElem_replicate]
    have hk := hall (m / 2) (by simp; omega)
    rw [zf_at s (i + m / 2) (by omega), decide_eq_true_eq, grp_val (by omega)] at hk
    have a0 := (s[2 * (i + m / 2)]'(by omega)).toNat_lt
    have a1 := (s[2 * (i + m / 2) + 1]'(by omega)).toNat_lt
    rcases Nat.mod_two_eq_zero_or_one m with he | he
    · have e0 : s[2 * i + m]'(by omega) = s[2 * (i + m / 2)]'(by omega) := by congr 1; omega
      rw [e0]
      apply UInt8.toNat_inj.1
      simp; omega
    · have e0 : s[2 * i + m]'(by omega) = s[2 * (i + m / 2) + 1]'(by omega) := by congr 1; omega
      rw [e0]
      apply UInt8.toNat_inj.1
      simp; omega
theorem showV6_some {s : ByteArray} {n i : Nat} (h : s.size = 16) (hf : spFind (zf s) = some (n, i)) : showV6S s = (rowS s 0 i ++ ⟨#[58, 58]⟩ ++ rowS s (i + n) (8 - (i + n)), 0) := by rw [showV6S, if_pos h, hf]
theorem showV6_none {s : ByteArray} (h : s.size = 16) (hf : spFind (zf s) = none) : showV6S s = (rowS s 0 8, 0) := by rw [showV6S, if_pos h, hf]
theorem showV6_bad {s : ByteArray} (h : s.size ≠ 16) : showV6S s = (⟨#[]⟩, 7) := by rw [showV6S, if_neg h]
end Go.Proofs.YtakonfkefoeenacDoor
