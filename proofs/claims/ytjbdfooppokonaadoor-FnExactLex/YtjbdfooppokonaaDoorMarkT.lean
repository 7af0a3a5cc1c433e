/- laws.markText, laws.markStringS, laws.heldStringS by their contracts. -/
import Derived.Test.YtjbdfooppokonaaDoorLab
import Derived.Test.YtjbdfooppokonaaDoorConvOne
import Derived.Test.YtjbdfooppokonaaDoorRows
import Derived.WalkSpells
import Derived.WalkLawsBesides
import Derived.RegionTactic
import Derived.ChangeAlike
import Derived.BigRegion
import Derived.Deep.RegionHeld3
namespace Go.Proofs.YtjbdfooppokonaaDoor
open Go.RowKit

def dgF : Nat → Nat → List UInt8
  | 0, _ => []
  | f + 1, k => if k = 0 then [] else dgF f (k / 10) ++ [UInt8.ofNat (48 + k % 10)]

def mkS (k : Nat) : ByteArray := if k = 0 then ⟨#[109, 48]⟩ else ⟨(109 :: dgF (k + 1) k).toArray⟩

def MkAt (k j : Nat) (t : ByteArray) : Prop := ∃ f, j < f ∧ dgF (k + 1) k = dgF f j ++ t.data.toList

theorem mk_start (k : Nat) : MkAt k k ⟨#[]⟩ := ⟨k + 1, by omega, by simp⟩
theorem mk_step {k j : Nat} {t : ByteArray} (h : MkAt k j t) (hj : 0 < j) : MkAt k (j / 10) (⟨#[UInt8.ofNat (48 + j % 10)]⟩ ++ t) := by
  obtain ⟨f, hf, e⟩ := h
  obtain ⟨g, rfl⟩ : ∃ g, f = g + 1 := ⟨f - 1, by omega⟩
  refine ⟨g, by omega, ?_⟩
  rw [e, dgF, if_neg (by omega)]
  simp
theorem mk_end {k j : Nat} {t : ByteArray} (h : MkAt k j t) (hj : j = 0) (hk : 0 < k) : (⟨#[109]⟩ : ByteArray) ++ t = mkS k := by
  obtain ⟨f, hf, e⟩ := h
  obtain ⟨g, rfl⟩ : ∃ g, f = g + 1 := ⟨f - 1, by omega⟩
  have z : dgF (g + 1) j = [] := by rw [dgF, if_pos hj]
  rw [z, List.nil_append] at e
  rw [mkS, if_neg (by omega), e]
  apply ba_ext
  simp
theorem mk_len {k j : Nat} {t : ByteArray} (h : MkAt k j t) : t.size ≤ k + 1 := by
  have hl : ∀ f k, (dgF f k).length ≤ f := by
    intro f
    induction f with
    | zero => intro k; simp [dgF]
    | succ f ih =>
      intro k
      rw [dgF]
      split
      · simp
      · have := ih (k / 10); simp; omega
  obtain ⟨f, hf, e⟩ := h
  have := congrArg List.length e
  rw [List.length_append, size_list] at this
  have := hl (k + 1) k
  omega

set_option maxRecDepth 100000 in
set_option maxHeartbeats 800000 in
theorem markText_any (k : Nat) (w : World) (hk : k ≤ 1000000000) :
    Calls Tryd.prog 26 #[.int .i64 (k : Int)] w fun e w' => e = .returned (.string (mkS k)) ∧ Below w.heap.size w w' := by
  by_cases h0 : k = 0
  · have HE : Hid (mkS k = ⟨#[109, 48]⟩) := by show _ = _; rw [mkS, if_pos h0]
    have h0' : (k : Int) ≤ 0 := by omega
    clear h0
    go_enter Tryd.func26, Tryd.ntmps26
    go_wp2
    go_ret
    rw [HE.out]
    exact ⟨rfl, Below.refl _ _⟩
  · have hpos : 0 < k := by omega
    have h0' : (0 : Int) < (k : Int) := by omega
    have hst := mk_start k
    go_enter Tryd.func26, Tryd.ntmps26
    go_wp2
    go_loopw [0, 3] (fun i v wr => ∃ (j : Nat) (t : ByteArray), i = .int .i64 (j : Int) ∧ j ≤ k ∧ v = .string t ∧ MkAt k j t ∧ Below w.heap.size w wr)
      (fun i _ _ => (intOf i).toNat)
    case atStart => exact ⟨k, _, rfl, Nat.le_refl _, rfl, hst, Below.refl _ _⟩
    case round =>
      obtain ⟨j, t, rfl, hjk, rfl, hat, hbel⟩ := hrel
      have hsz := hbel.size
      have hts := mk_len hat
      have hone : (ByteArray.mk #[109]).size = 1 := rfl
      clear hst
      by_cases hj : 0 < j
      · have HN := Nm.hide (mk_step hat hj)
        have hj' : (0 : Int) < (j : Int) := by omega
        have hcv := fun n => conv_one n wr
        have hn1 : ∀ c, (ByteArray.mk #[c]).size = 1 := fun _ => rfl
        have hmod : (48 + (j : Int) % 10) % 256 = 48 + (j : Int) % 10 := by omega
        have htn : (48 + (j : Int) % 10).toNat = 48 + j % 10 := by omega
        clear hat
        go_wp2
        go_roundw
        case rel => exact ⟨j / 10, _, by go_num, by omega, rfl, by simpa using HN.out, hbel.alloc hsz _⟩
        case measure => simp [intOf]; omega
      · have HE := Nm.hide (mk_end hat (by omega) hpos)
        have hj' : (j : Int) ≤ 0 := by omega
        clear hat
        go_wp2
        go_ret
        rw [← HE.out]
        exact ⟨rfl, hbel⟩
end Go.Proofs.YtjbdfooppokonaaDoor
