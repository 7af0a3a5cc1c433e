/- impl.ShowType by its contract. -/
import Derived.Test.YtakonfkefoeenabDoorMnem
import Derived.Test.YtakonfkefoeenabDoorTxt5
import Derived.Test.YtakonfkefoeenabDoorFmtI
namespace Go.Proofs.YtakonfkefoeenabDoor
open Go.RowKit

set_option maxRecDepth 100000 in
set_option maxHeartbeats 1600000 in
theorem implShowType_any (t : Int) (w : World) (hM : MnemAt w) (hT : PowTab w) :
    Calls Tryd.prog 5 #[.int .i64 t] w fun e w' => e = .returned (.string (showTypeS t)) ∧ Below w.heap.size w w' := by
  by_cases h : t < 0 ∨ 65535 < t
  · have HR := Nm.hide (showType_out h)
    by_cases h0 : t < 0
    · clear h
      go_enter Tryd.func5, Tryd.ntmps5
      go_wp2
      go_ret
      rw [HR.out]
      exact ⟨rfl, Below.refl _ _⟩
    · have h1 : 65535 < t := by omega
      have h2 : 0 ≤ t := by omega
      clear h
      go_enter Tryd.func5, Tryd.ntmps5
      go_wp2
      go_ret
      rw [HR.out]
      exact ⟨rfl, Below.refl _ _⟩
  · have h1 : t ≤ 65535 := by omega
    have h2 : 0 ≤ t := by omega
    obtain ⟨bt, bf, hblk⟩ := hM
    generalize hmc : mnemCells = mc at hblk
    have HMC := Nm.hide hmc
    have hsz : (Tryd.prog.info? 25).map (·.size) = some mc.size := by rw [← hmc]; kernel_rfl
    clear hmc
    go_enter Tryd.func5, Tryd.ntmps5
    go_wp2_with (guard_target = wpList _ _ _ ({ dst := some 11, op := Go.Op.load 25 (Go.Operand.global 0), type := _, pos := _, after := _, guard := none } :: _) _ _; refine wpList_load_row rfl 25 (.global 0) rfl 0 rfl bt mc bf _ hblk Tryd.underlying25 rfl hsz ?_)
    go_loopw [12] (fun i wr => ∃ k : Nat, k ≤ 19 ∧ i = .int .i64 k ∧ Hid (∀ j, j < k → mnN j ≠ t) ∧ Below w.heap.size w wr)
      (fun i _ => 19 - (intOf i).toNat)
    case atStart => exact ⟨0, by omega, rfl, fun j h => by omega, Below.refl _ _⟩
    case round =>
      obtain ⟨k, hk, rfl, HNO, hbel⟩ := hrel
      have hszb := hbel.size
      by_cases hlt : k < 19
      · have hlt' : (k : Int) < 19 := by omega
        have hidx := fun W => mnem_index k hlt W
        rw [HMC.out] at hidx
        have HA := Nm.hide (mn_all hlt)
        have HX : Hid (∃ n, n = mnN k) := ⟨_, rfl⟩
        by_cases he : mnN k = t
        · have HR : Hid (showTypeS t = mnT k) := by
            show _ = _
            rw [← he, showType_mn (by have := HA.out; omega) (by rw [HA.out.1]; exact HA.out.2.2.2), HA.out.1]
          rw [he] at hidx
          clear HA HX he
          generalize mnT k = T at *
          go_wp2
          go_ret
          rw [HR.out]
          exact ⟨rfl, hbel.alloc hszb _⟩
        · have hne : (mnN k == t) = false := by rw [beq_eq_false_iff_ne]; exact he
          have HN : Hid (∀ j, j < k + 1 → mnN j ≠ t) := by
            show ∀ j, _
            intro j hj
            by_cases e : j = k
            · subst e; exact he
            · exact HNO.out j (by omega)
          clear HA HX he
          generalize mnN k = N at *
          generalize mnT k = T at *
          go_wp2
          go_roundw
          case rel => exact ⟨k + 1, by omega, by go_num, HN, hbel.alloc hszb _⟩
          case measure => simp [intOf]; omega
      · have hke : k = 19 := by omega
        subst hke
        have HR := Nm.hide (showType_num h (mn_none HNO.out))
        obtain ⟨n, rfl⟩ := Int.eq_ofNat_of_zero_le h2
        rw [Int.toNat_natCast] at HR
        have hf := formatInt10_any n wr (by omega) (hT.below hbel)
        have hz : (decS n).size ≤ 20 := by
          have := decL_len20 (n := n) (by omega)
          show (decL n).toArray.size ≤ 20
          simpa using this
        generalize decS n = D at *
        have hsum : 4 + D.size ≤ 9223372036854775807 := by omega
        clear h HNO
        go_wp2_with (go_at_call 8; refine hf.mono ?_; rintro e w2 ⟨rfl, hb2⟩)
        go_ret
        rw [HR.out]
        exact ⟨rfl, Nm.below_two hbel hb2⟩
end Go.Proofs.YtakonfkefoeenabDoor
