import Derived.Test.YtjokdmmlofbknaaDoorV6M
import Derived.Test.YtjokdmmlofbknaaDoorJFmt16B
import Derived.Test.YtjokdmmlofbknaaDoorJJoin
import Derived.Deep.AppendLies
import Derived.Deep.RegionHeld3
/- impl.longestGap, impl.ShowV6 by their contracts. -/
namespace Go.Proofs.YtjokdmmlofbknaaDoor
open Go.RowKit

set_option maxRecDepth 100000 in
set_option maxHeartbeats 2000000 in
theorem longestGap_any (s : ByteArray) (b off cap : Nat) (w : World) (hcell : ∀ (k : Nat) (x : ByteArray), (grps s 0 8)[k]? = some x → w.cell? ⟨b, off + k, none⟩ = some (.string x)) :
    Calls Tryd.prog 25 #[.slice (some ⟨b, off, none⟩) 8 cap] w fun e w' => e = .returned (.tuple #[.int .i64 (((gapF (zf s) 8).2.1 : Nat) : Int), .int .i64 (((gapF (zf s) 8).2.2 : Nat) : Int)]) ∧ w' = w := by
  obtain ⟨Z, HZ⟩ : ∃ Z, Hid (Z = gapF (zf s) 8) := ⟨_, rfl⟩
  rw [← HZ.out]
  go_enter Tryd.func25, Tryd.ntmps25
  go_wp2
  go_loop [2, 3, 4, 9] (fun f t st i => ∃ (k : Nat) (g : Nat × Nat × Nat), k ≤ 8 ∧ i = .int .i64 (k : Int) ∧ Hid (g = gapF (zf s) k) ∧ st = .int .i64 (g.1 : Int) ∧ f = .int .i64 (g.2.1 : Int) ∧ t = .int .i64 (g.2.2 : Int) ∧ g.1 ≤ k ∧ g.2.1 ≤ g.2.2 ∧ g.2.2 ≤ k)
    (fun _ _ _ i => 8 - (intOf i).toNat)
  case atStart => exact ⟨0, (0, 0, 0), by omega, rfl, rfl, rfl, rfl, rfl, by simp, by simp, by simp⟩
  case round =>
    obtain ⟨k, g, hk, rfl, HG, rfl, rfl, rfl, h1, h2, h3⟩ := hrel
    by_cases hlt : k < 8
    · have hlt' : (k : Int) < 8 := by omega
      have hx : (grps s 0 8)[k]? = some (hexS (grp s k)) := by simp [grps, hlt]
      have hc := hcell k _ hx
      have hze := hex_zero (grp_lt s k)
      have hza := zf_at s k hlt
      have HN : Hid (gapF (zf s) (k + 1) = gapStep (zf s) k g) := by show _ = _; rw [gapF, HG.out]
      have HLE := Nm.hide (gapF_le (zf s) (k + 1))
      obtain ⟨st, f, t⟩ := g
      simp only at h1 h2 h3 ⊢
      generalize hexS (grp s k) = X at *
      cases hz : decide (grp s k = 0) with
      | true =>
        rw [hz] at hze hza
        by_cases hgt : t - f < k + 1 - st
        · have hgt' : (t : Int) - (f : Int) < (k : Int) + 1 - (st : Int) := by omega
          have HE : Hid (gapF (zf s) (k + 1) = (st, st, k + 1)) := by show _ = _; rw [HN.out, gapStep, hza]; simp [hgt]
          rw [HE.out] at HLE
          clear hza hz HN
          go_wp2
          go_round
          case rel => exact ⟨k + 1, (st, st, k + 1), by omega, by go_num, HE.out.symm, rfl, rfl, by go_num, HLE.out.1, HLE.out.2.1, HLE.out.2.2⟩
          case measure => simp [intOf]; omega
        · have hgt' : (k : Int) + 1 - (st : Int) ≤ (t : Int) - (f : Int) := by omega
          have HE : Hid (gapF (zf s) (k + 1) = (st, f, t)) := by show _ = _; rw [HN.out, gapStep, hza]; simp [hgt]
          rw [HE.out] at HLE
          clear hza hz HN
          go_wp2
          go_round
          case rel => exact ⟨k + 1, (st, f, t), by omega, by go_num, HE.out.symm, rfl, rfl, rfl, HLE.out.1, HLE.out.2.1, HLE.out.2.2⟩
          case measure => simp [intOf]; omega
      | false =>
        rw [hz] at hze hza
        have HE : Hid (gapF (zf s) (k + 1) = (k + 1, f, t)) := by show _ = _; rw [HN.out, gapStep, hza]; simp
        have hgt' : (0 : Int) ≤ (t : Int) - (f : Int) := by omega
        rw [HE.out] at HLE
        clear hza hz HN
        go_wp2
        go_round
        case rel => exact ⟨k + 1, (k + 1, f, t), by omega, by go_num, HE.out.symm, by go_num, rfl, rfl, HLE.out.1, HLE.out.2.1, HLE.out.2.2⟩
        case measure => simp [intOf]; omega
    · have hke : k = 8 := by omega
      subst hke
      have HE : Hid (Z = g) := by show _ = _; rw [HZ.out, HG.out]
      go_wp2
      go_ret2
      rw [HE.out]
      exact ⟨rfl, rfl⟩
end Go.Proofs.YtjokdmmlofbknaaDoor
/- Noughts of an address: mathematics. -/
namespace Go.Proofs.YtjokdmmlofbknaaDoor
open Go.RowKit

def SpAt (z : Nat → Bool) (n i : Nat) : Prop := spFind z = (match spIn z n (9 - n - i) i with | some r => some r | none => spOut z (n - 1))
theorem sp_enter {z : Nat → Bool} {n : Nat} (h : spFind z = spOut z n) (hn : 2 ≤ n) : SpAt z n 0 := by
  obtain ⟨k, rfl⟩ : ∃ k, n = k + 2 := ⟨n - 2, by omega⟩
  rw [SpAt, h, spOut, Nat.sub_zero]
  rfl
theorem sp_hit {z : Nat → Bool} {n i : Nat} (h : SpAt z n i) (hi : i + n ≤ 8) (ha : allZ z i n = true) : spFind z = some (n, i) := by
  rw [SpAt, show 9 - n - i = (8 - n - i) + 1 by omega, spIn, if_pos ha] at h
  exact h
theorem sp_miss {z : Nat → Bool} {n i : Nat} (h : SpAt z n i) (hi : i + n ≤ 8) (ha : allZ z i n = false) : SpAt z n (i + 1) := by
  rw [SpAt, show 9 - n - i = (9 - n - (i + 1)) + 1 by omega, spIn, if_neg (by rw [ha]; simp)] at h
  exact h
theorem sp_exit {z : Nat → Bool} {n i : Nat} (h : SpAt z n i) (hi : 9 ≤ i + n) : spFind z = spOut z (n - 1) := by
  rw [SpAt, show 9 - n - i = 0 by omega, spIn] at h
  exact h
theorem sp_none {z : Nat → Bool} {n : Nat} (h : spFind z = spOut z n) (hn : n = 1) : spFind z = none := by rw [h, hn]; rfl

theorem grp_val {s : ByteArray} {j : Nat} (h : 2 * j + 1 < s.size) : grp s j = s[2 * j].toNat * 256 + s[2 * j + 1].toNat := by
  have e : (s.extract (2 * j) (2 * j + 2)).data.toList = [s[2 * j], s[2 * j + 1]] := by
    refine List.ext_getElem (by simp; omega) ?_
    intro i h1 h2
    have hi : i < 2 := by simpa using h2
    have e := ByteArray.getElem_extract (b := s) (start := 2 * j) (stop := 2 * j + 2) (i := i) (h := by simp; omega)
    have e2 : (s.extract (2 * j) (2 * j + 2)).data.toList[i] = s[2 * j + i]'(by omega) := e
    rw [e2]
    rcases i with _ | _ | i
    · rfl
    · rfl
    · omega
  rw [grp, e]
  simp [numL]
def zeros (m : Nat) : ByteArray := ⟨(List.replicate m 0).toArray⟩
theorem zeros_eq {s : ByteArray} {i n : Nat} (hs : s.size = 16) (h : i + n ≤ 8) : ((s.extract (2 * i) (2 * (i + n))).toList == (zeros (2 * n)).toList) = allZ (zf s) i n := by
  rw [Bool.eq_iff_iff, beq_iff_eq, allZ, List.all_eq_true, ByteArray.toList_eq, ByteArray.toList_eq]
  have hl : (s.extract (2 * i) (2 * (i + n))).data.toList.length = 2 * n := by simp; omega
  have hat : ∀ m (hm : m < 2 * n), (s.extract (2 * i) (2 * (i + n))).data.toList[m]'(by omega) = s[2 * i + m]'(by omega) := by
    intro m hm
    exact ByteArray.getElem_extract (b := s) (start := 2 * i) (stop := 2 * (i + n)) (i := m) (h := by simp; omega)
  constructor
  · intro e k hk
    have hk' : k < n := by simpa using hk
    have hz : ∀ m (hm : m < 2 * n), s[2 * i + m]'(by omega) = 0 := by
      intro m hm
      rw [← hat m hm]
      have := congrArg (fun l => l[m]?) e
      simp only [zeros] at this
      rw [List.getElem?_eq_getElem (by omega), List.getElem?_eq_getElem (by simp; omega)] at this
      simpa using this
    rw [zf_at s (i + k) (by omega), decide_eq_true_eq, grp_val (by omega)]
    have h0 := hz (2 * k) (by omega)
    have h1 := hz (2 * k + 1) (by omega)
    have e0 : s[2 * (i + k)]'(by omega) = 0 := by
      rw [← h0]; congr 1; omega
    have e1 : s[2 * (i + k) + 1]'(by omega) = 0 := by
      rw [← h1]; congr 1; omega
    rw [e0, e1]; rfl
  · intro hall
    refine List.ext_getElem (by rw [hl]; simp [zeros]) ?_
    intro m h1 h2
    have hm : m < 2 * n := by omega
    rw [hat m hm]
    simp only [zeros, List.getElem_replicate]
    have hk := hall (m / 2) (by simp; omega)
    rw [zf_at s (i + m / 2) (by omega), decide_eq_true_eq, grp_val (by omega)] at hk
    have a0 := (s[2 * (i + m / 2)]'(by omega)).toNat_lt
    have a1 := (s[2 * (i + m / 2) + 1]'(by omega)).toNat_lt
    rcases Nat.mod_two_eq_zero_or_one m with he | he
    · have e0 : s[2 * i + m]'(by omega) = s[2 * (i + m / 2)]'(by omega) := by congr 1; omega
      rw [e0]
      apply UInt8.toNat_inj.1
      simp; omega
    · have e0 : s[2 * i + m]'(by omega) = s[2 * (i + m / 2) + 1]'(by omega) := by congr 1; omega
      rw [e0]
      apply UInt8.toNat_inj.1
      simp; omega
theorem showV6_some {s : ByteArray} {n i : Nat} (h : s.size = 16) (hf : spFind (zf s) = some (n, i)) : showV6S s = (rowS s 0 i ++ ⟨#[58, 58]⟩ ++ rowS s (i + n) (8 - (i + n)), 0) := by rw [showV6S, if_pos h, hf]
theorem showV6_none {s : ByteArray} (h : s.size = 16) (hf : spFind (zf s) = none) : showV6S s = (rowS s 0 8, 0) := by rw [showV6S, if_pos h, hf]
theorem showV6_bad {s : ByteArray} (h : s.size ≠ 16) : showV6S s = (⟨#[]⟩, 7) := by rw [showV6S, if_neg h]
end Go.Proofs.YtjokdmmlofbknaaDoor
