/- impl.Ancestor by its contract. -/
import Derived.Test.YtakonfkefoeenafSplit
import Derived.Test.YtakonfkefoeenafWire
namespace Go.Proofs.Ytakonfkefoeenaf
open Go.RowKit

def ancS (s : ByteArray) (n : Int) : ByteArray × Int :=
  match Nm.split s with
  | none => (ByteArray.empty, 32)
  | some ls => if 0 ≤ n ∧ n ≤ ls.length then (⟨(Nm.joinL (ls.drop n.toNat)).toArray⟩, 0) else (ByteArray.empty, 32)

set_option maxRecDepth 100000 in
set_option maxHeartbeats 800000 in
theorem implAncestor_any (s : ByteArray) (n : Int) (w : World) (hs : s.size ≤ maxLen) :
    Calls Try.prog 24 #[.string s, .int .i64 n] w fun e w' => e = .returned (.tuple #[.string (ancS s n).1, .int .i64 (ancS s n).2]) ∧ Below w.heap.size w w' := by
  have hsp := splitName_any s w hs
  cases hq : Nm.split s with
  | none =>
    have HA : Hid (ancS s n = (ByteArray.empty, 32)) := by show _ = _; simp [ancS, hq]
    rw [hq] at hsp
    clear hq
    go_enter Try.func24, Try.ntmps24
    go_wp2_with fail
    refine hsp.mono ?_
    rintro e w1 ⟨v, rfl, hown, hbel⟩
    go_wp2
    go_ret2
    rw [HA.out]
    exact ⟨rfl, hbel⟩
  | some ls =>
    have hz := Nm.split_size hq
    rw [hq] at hsp
    by_cases hr : 0 ≤ n ∧ n ≤ ls.length
    · have HA : Hid (ancS s n = (⟨(Nm.joinL (ls.drop n.toNat)).toArray⟩, 0)) := by show _ = _; simp [ancS, hq, hr]
      clear hq
      obtain ⟨h0, h1⟩ := hr
      obtain ⟨k, rfl⟩ := Int.eq_ofNat_of_zero_le h0
      go_enter Try.func24, Try.ntmps24
      go_wp2_with fail
      refine hsp.mono ?_
      rintro e w1 ⟨v, rfl, hown, hbel⟩
      have hrow := Nm.SRow.of_owns hown
      obtain ⟨a, cap, rfl, hcap, hmx, hnl, hc⟩ := hrow
      simp only [Option.getD_some] at hown
      have hd1 := fun e : cap = k => (Nm.SRow.of_owns hown).drop_all e
      have hd2 := (Nm.SRow.of_owns hown).drop (k := k) (by omega)
      have hwd := Nm.wsum_drop_le ls k
      have hkd : decide ((k : Int) < 0) = false := by simp
      clear hown hc
      by_cases hck : cap = k
      · have hd := hd1 hck
        clear hd1 hd2
        subst hck
        go_wp2_with fail
        refine (wire_any _ (ls.drop cap) _ hd (by omega)).mono ?_
        rintro e w2 ⟨rfl, hbel2⟩
        rw [wireS_short (by omega), wireC_short (by omega)]
        go_wp2
        go_ret2
        rw [HA.out]
        exact ⟨rfl, Nm.below_two hbel hbel2⟩
      · clear hd1
        go_wp2_with fail
        refine (wire_any _ (ls.drop k) _ hd2 (by omega)).mono ?_
        rintro e w2 ⟨rfl, hbel2⟩
        rw [wireS_short (by omega), wireC_short (by omega)]
        go_wp2
        go_ret2
        rw [HA.out]
        exact ⟨rfl, Nm.below_two hbel hbel2⟩
    · have HA : Hid (ancS s n = (ByteArray.empty, 32)) := by show _ = _; simp only [ancS, hq]; rw [if_neg hr]
      clear hq
      go_enter Try.func24, Try.ntmps24
      go_wp2_with fail
      refine hsp.mono ?_
      rintro e w1 ⟨v, rfl, hown, hbel⟩
      obtain ⟨a, cap, rfl, hcap, hmx, hnl, hc⟩ := Nm.SRow.of_owns hown
      simp only [Option.getD_some] at hown hcap hc
      by_cases h0 : n < 0
      · have hd : decide (n < 0) = true := by simp [h0]
        go_wp2
        go_ret2
        rw [HA.out]
        exact ⟨rfl, hbel⟩
      · have hd : decide (n < 0) = false := by simp; omega
        have hgt : (ls.length : Int) < n := by omega
        go_wp2
        go_ret2
        rw [HA.out]
        exact ⟨rfl, hbel⟩
end Go.Proofs.Ytakonfkefoeenaf
