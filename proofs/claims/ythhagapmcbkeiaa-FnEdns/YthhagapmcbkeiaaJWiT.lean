import Derived.Test.YthhagapmcbkeiaaJMath
import Derived.Test.YthhagapmcbkeiaaJWiP
import Derived.RegionTactic
import Derived.Test.YthhagapmcbkeiaaJShK
/- Numbers within bounds, by the contracts of the two tests. -/
namespace Go.Proofs.Ythhagapmcbkeiaa
open Go.RowKit
set_option linter.unusedVariables false

set_option maxRecDepth 100000 in
set_option maxHeartbeats 400000 in
theorem l04In_any (n m : Int) (w : World) : Calls Try.prog 13 #[.int .i64 n, .int .i64 m] w fun e w' => e = .returned (.bool (decide (0 ≤ n) && decide (n ≤ m))) ∧ w' = w := by
  by_cases h0 : 0 ≤ n
  · by_cases h1 : n ≤ m
    · have e : (decide (0 ≤ n) && decide (n ≤ m)) = true := by simp [h0, h1]
      rw [e]
      clear e
      go_enter Try.func13, Try.ntmps13
      go_wp2
      go_ret
      exact ⟨rfl, rfl⟩
    · have h1' : m < n := by omega
      have e : (decide (0 ≤ n) && decide (n ≤ m)) = false := by simp [h0, h1]
      rw [e]
      clear e
      go_enter Try.func13, Try.ntmps13
      go_wp2
      go_ret
      exact ⟨rfl, rfl⟩
  · have h0' : n < 0 := by omega
    have e : (decide (0 ≤ n) && decide (n ≤ m)) = false := by simp [h0]
    rw [e]
    clear e
    go_enter Try.func13, Try.ntmps13
    go_wp2
    go_ret
    exact ⟨rfl, rfl⟩
end Go.Proofs.Ythhagapmcbkeiaa
/- spec.l02Put at any width by its contract. -/
namespace Go.Proofs.Ythhagapmcbkeiaa
open Go.RowKit
set_option linter.unusedVariables false

theorem bigL_len (v n : Nat) : (bigL v n).length = n := by simp [bigL]
theorem bigL_take {v n j : Nat} (h : j < n) : Nm.bys ((bigL v n).take (j + 1)) = Nm.bys ((bigL v n).take j) ++ [.int .u8 ((v : Int) / 2 ^ (8 * (n - 1 - j)) % 256)] := by
  have hx : (bigL v n)[j]? = some (UInt8.ofNat (v / 2 ^ (8 * (n - 1 - j)))) := by simp [bigL, h]
  have e : ((UInt8.ofNat (v / 2 ^ (8 * (n - 1 - j)))).toNat : Int) = (v : Int) / 2 ^ (8 * (n - 1 - j)) % 256 := by
    rw [UInt8.toNat_ofNat', Int.natCast_emod, Int.natCast_ediv, Int.natCast_pow]
    rfl
  rw [List.take_add_one, hx, Nm.bys_append, ← e]
  rfl

set_option maxRecDepth 100000 in
set_option maxHeartbeats 1600000 in
theorem l02PutN_any (v n : Nat) (w : World) (hv : v ≤ 4611686018427387904) (hn1 : 1 ≤ n) (hn : n ≤ 8) :
    Calls Try.prog 14 #[.int .i64 (v : Int), .int .i64 (n : Int)] w fun e w' => e = .returned (.string ⟨(bigL v n).toArray⟩) ∧ Below w.heap.size w w' := by
  obtain ⟨j0, hj, k0, k1, k2⟩ := info_parts Try.infoBy
  have i3 : (n : Int) ≤ 8 := by omega
  have i4 : (1 : Int) ≤ (n : Int) := by omega
  have hro := World.ownsRow_made (base := w.heap.size) (size := 1) (e := 5) w #[] 0 (Nat.le_refl _) (by decide) rfl
  have hBs := (Below.refl w.heap.size w).alloc (Nat.le_refl _) (.cells #[] 5)
  go_enter Try.func14, Try.ntmps14
  go_wp2
  go_loopw [5, 6] (fun u i wr => ∃ j : Nat, j ≤ n ∧ i = .int .i64 ((n : Int) - 1 - (j : Int)) ∧ wr.ownsRow w.heap.size 5 1 u j (Nm.bys ((bigL v n).take j)) ∧ Below w.heap.size w wr) (fun _ i _ => (intOf i + 1).toNat)
  case atStart => exact ⟨0, by omega, by congr 1; omega, hro, hBs⟩
  case round =>
    clear hro hBs
    obtain ⟨j, hj8, rfl, hown, hbel⟩ := hrel
    obtain ⟨xa, xc, rfl⟩ := own_sl hown
    have hBr := hbel.size
    by_cases hlt : j < n
    · obtain ⟨i, hi⟩ : ∃ i : Nat, (n : Int) - 1 - (j : Int) = (i : Int) := ⟨n - 1 - j, by omega⟩
      have hi7 : i ≤ 7 := by omega
      rw [hi]
      have i1 : (0 : Int) ≤ (i : Int) := by omega
      have i2 : (i : Int) ≤ 7 := by omega
      have HT := Nm.hide (show Nm.bys ((bigL v n).take (j + 1)) = Nm.bys ((bigL v n).take j) ++ [.int .u8 ((v : Int) / 2 ^ (8 * i) % 256)] by
        have h7 : n - 1 - j = i := by omega
        rw [bigL_take hlt, h7])
      have HI := Nm.hide hi
      clear hi
      go_wp2_with (at_builtin; refine wpList_append_own _ rfl (.tmp 14) (.tmp 21) 22 rfl w.heap.size 5 j0 (.int .u8 0) 1 1 Try.underlying22 hj k0 k1 k2 rfl (by decide) _ _ _ rfl (hown.alloc _) ⟨wr.heap.size, 0, none⟩ 1 1 [.int .u8 ((v : Int) / 2 ^ (8 * i) % 256)] rfl rfl (cell_one_new _ _ _) (Nm.one_cell _ rfl) (by unfold maxLen; omega) (by omega) (by simp; omega) ?_; intro vb wb hown8 hgrow8 hnl8; clear hnl8)
      rw [← HT.out] at hown8
      have hrow : ∀ q, Value.ownBlock (.slice xa j xc) = some q → w.heap.size ≤ q := fun q hq => (hown.lt q hq).1
      have hB8 : Below w.heap.size w wb := (hbel.alloc hBr _).grown hgrow8 (by rw [World.size_alloc]; omega) hrow
      obtain ⟨za, zc, rfl⟩ := own_sl hown8
      clear hgrow8 hown hbel
      have hi := HI.out
      go_roundw
      case rel => exact ⟨j + 1, by omega, by go_num, hown8, hB8⟩
      case measure => simp [intOf]
    · obtain rfl : j = n := by omega
      rw [List.take_of_length_le (by rw [bigL_len]; omega)] at hown
      have HC := Nm.conv_own (P := Try.prog) (src := 22) (dst := 9) Try.underlying22 Try.underlying5 Try.underlying9 hown (by omega)
      obtain ⟨g, cap, hv', hcv⟩ := HC
      cases hv'
      have hneg : ¬ (0 : Int) ≤ (j : Int) - 1 - (j : Int) := by omega
      go_wp2
      go_ret
      exact ⟨rfl, hbel⟩
end Go.Proofs.Ythhagapmcbkeiaa
