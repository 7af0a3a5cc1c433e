import Derived.Test.YtoiajlgmnkoekaaJMath
import Derived.Test.YtoiajlgmnkoekaaJNameOKi
import Derived.WalkKit
/- impl.splitName by its contract. -/
namespace Go.Proofs.Ytoiajlgmnkoekaa
open Go.RowKit

set_option maxRecDepth 100000 in
set_option maxHeartbeats 800000 in
theorem splitName_any (s : ByteArray) (w : World) (_ : s.size ≤ maxLen) :
    Calls Try.prog 14 #[.string s] w fun e w' => ∃ v, e = .returned (.tuple #[v, .bool (Nm.split s).isSome]) ∧
      w'.ownsRow w.heap.size 9 1 v ((Nm.split s).getD []).length (((Nm.split s).getD []).map Value.string) ∧ Below w.heap.size w w' := by
  obtain ⟨i0, hi, hz0, hz1, hz2⟩ := info_parts Try.infoStr
  have hcall := implNameOK_same s
  cases hq : Nm.split s with
  | none =>
    rw [hq] at hcall
    simp only [Option.isSome_none] at hcall
    clear hq
    go_enter Try.func14, Try.ntmps14
    go_wp2_with (go_at_call 21; refine (hcall _).mono ?_; rintro e w1 ⟨rfl, hw⟩; obtain rfl : w = w1 := hw.symm; clear hw)
    go_ret2
    exact ⟨_, rfl, World.ownsRow_nil _ _ _ _, Below.refl _ _⟩
  | some L =>
    have hz := Nm.split_size hq
    have hst := Nm.at_start s hz.2
    have HQ := Nm.hide hq
    rw [hq] at hcall
    simp only [Option.isSome_some] at hcall
    clear hq
    have hz2' := hz.2
    clear hz
    go_enter Try.func14, Try.ntmps14
    go_wp2_with (go_at_call 21; refine (hcall _).mono ?_; rintro e w1 ⟨rfl, hw⟩; obtain rfl : w = w1 := hw.symm; clear hw)
    go_loopw [4, 5] (fun v x wr => ∃ (ls : List ByteArray) (r : ByteArray), x = .string r ∧ Nm.At s ls r ∧ ls.length + r.size ≤ 255 ∧ wr.ownsRow w.heap.size 9 1 v ls.length (ls.map Value.string) ∧ Below w.heap.size w wr)
      (fun _ x _ => match x with | .string r => r.size | _ => 0)
    case atStart => exact ⟨[], s, rfl, hst, by simp; omega, World.ownsRow_nil _ _ _ _, Below.refl _ _⟩
    case round =>
      obtain ⟨ls, r, rfl, hat, hb, hown, hbel⟩ := hrel
      clear hst
      have hq := HQ.out
      by_cases h0 : r.size = 0
      · rw [Nm.at_empty hat h0] at hq; simp at hq
      · have hp : 0 < r.size := by omega
        have hn : (r[0].toNat : Int) < 256 := by have := r[0].toNat_lt; omega
        by_cases h1 : r.size = 1 ∧ r[0].toNat = 0
        · have hL : L = ls := by
            have := Nm.at_end hat hp h1.2 h1.1
            rw [hq] at this
            simpa using this
          have e1 := Nm.tl_one hp h1.1 h1.2
          have e1' : (r.toList != [0]) = false := by rw [bne, e1]; rfl
          clear h1 hq HQ
          go_wp2
          go_ret2
          rw [hL]
          exact ⟨_, rfl, hown, hbel⟩
        · have e1 := Nm.tl_not_one hp h1
          have e1' : (r.toList != [0]) = true := by rw [bne, e1]; rfl
          by_cases h2 : r[0].toNat = 0
          · rw [Nm.at_zero hat hp h2 (fun h => h1 ⟨h, h2⟩)] at hq; simp at hq
          · by_cases h3 : 63 < r[0].toNat ∨ r.size < r[0].toNat + 1
            · rw [Nm.at_bad hat hp h2 h3] at hq; simp at hq
            · have e4 : (r[0].toNat : Int) ≤ 63 := by omega
              have e5 : (r[0].toNat : Int) + 1 ≤ (r.size : Int) := by omega
              have e5' : 1 + r[0].toNat ≤ r.size := by omega
              have hi0 : (0 : Int) < (r.size : Int) := by omega
              have HN : Hid (Nm.At s (ls ++ [r.extract 1 (r[0].toNat + 1)]) (r.extract (r[0].toNat + 1) r.size)) := Nm.at_step hat hp h2 (by omega) (by omega)
              have hsz := hbel.size
              clear h2 h1 h0 h3 hq HQ
              go_wp2_with (at_builtin; refine wpList_append_own _ rfl (.tmp 16) (.tmp 21) 39 rfl w.heap.size 9 i0 (.string ByteArray.empty) 1 16 Try.underlying39 hi hz0 hz1 hz2 rfl (by decide) _ _ _ rfl (hown.alloc _) ⟨wr.heap.size, 0, none⟩ 1 1 [.string (r.extract 1 (1 + r[0].toNat))] rfl rfl (cell_new1 _ _ _) (Nm.one_cell _ rfl) (by unfold maxLen; omega) (by omega) (by simp; omega) ?_)
              intro v' w1 hown' hgrow _
              have R := own_step hsz hown hbel _ hown' hgrow
              clear hown' hgrow hown hbel
              go_wp2
              go_roundw
              case rel => exact ⟨_, _, rfl, by simpa [Nat.add_comm] using HN.out, by simp; omega, R.1, R.2⟩
              case measure => simp; omega
end Go.Proofs.Ytoiajlgmnkoekaa
