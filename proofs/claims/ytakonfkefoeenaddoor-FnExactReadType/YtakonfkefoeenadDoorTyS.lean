/- spec.ReadType by its contract. -/
import Derived.Test.YtakonfkefoeenadDoorTyM
import Derived.Test.YtakonfkefoeenadDoorSSmall
import Derived.Test.YtakonfkefoeenadDoorTxt2
import Derived.Test.YtakonfkefoeenadDoorMapM
namespace Go.Proofs.YtakonfkefoeenadDoor
open Go.RowKit

set_option maxRecDepth 100000 in
set_option maxHeartbeats 3000000 in
theorem specReadType_any (s : ByteArray) (w : World) (hs : s.size ≤ 1000000000) :
    Calls Tryd.prog 7 #[.string s] w fun e w' => e = .returned (pairV (readTyS s)) ∧ Below w.heap.size w w' := by
  obtain ⟨R, HR⟩ : ∃ R, Hid (R = pairV (readTyS s)) := ⟨_, rfl⟩
  rw [← HR.out]
  have hsm0 := l01Small_any s w hs
  obtain ⟨Q, HQ⟩ : ∃ Q, Hid (Q = Nm.small s) := ⟨_, rfl⟩
  rw [← HQ.out] at hsm0
  have hQ1 : Q.size ≤ s.size := by rw [HQ.out, Nm.small_size]; exact Nat.le_refl _
  have hQ2 : s.size ≤ Q.size := by rw [HQ.out, Nm.small_size]; exact Nat.le_refl _
  by_cases h9 : 9 < s.size
  · have HN : Hid (R = .tuple #[.int .i64 0, .int .i64 6]) := by show _ = _; rw [HR.out, ty_long h9]; rfl
    have h9' : (9 : Int) < (s.size : Int) := by omega
    go_enter Tryd.func7, Tryd.ntmps7
    go_wp2_with (go_at_call 14; refine hsm0.mono ?_; rintro e w1 ⟨rfl, hb1⟩)
    go_ret2
    rw [HN.out]
    exact ⟨rfl, hb1⟩
  have h9' : (s.size : Int) ≤ 9 := by omega
  have hst := Nm.hide (tyAt_start s)
  go_enter Tryd.func7, Tryd.ntmps7
  go_wp2_with (go_at_call 14; refine hsm0.mono ?_; rintro e w1 ⟨rfl, hb1⟩)
  go_loopw [5] (fun v wr => ∃ t : Int, 1 ≤ t ∧ t ≤ 258 ∧ v = .int .i64 t ∧ Hid (TyAt s t) ∧ Below w.heap.size w wr) (fun v _ => (258 - intOf v).toNat)
  case atStart => exact ⟨1, by omega, by omega, rfl, hst, hb1⟩
  case round =>
    obtain ⟨t, ht1, ht2, rfl, HT, hbel⟩ := hrel
    clear hst hb1 hsm0
    by_cases hlt : t ≤ 257
    · by_cases hz : s.size = 0
      · obtain ⟨_, hne⟩ := beq_empty (s := s) hz
        have HN := Nm.hide (tyAt_empty (s := s) (t := t + 1) hz)
        clear HT
        go_wp2
        go_roundw
        case rel => exact ⟨t + 1, by omega, by omega, by go_num, HN, hbel⟩
        case measure => simp [intOf]; omega
      · obtain ⟨_, hne⟩ := not_empty (s := s) (by omega)
        have hmn := fun W => l03Mnemonic_any t W
        have hml := mnemS_len t
        have hsm := fun W => l01Small_any (mnemS t) W (by omega)
        cases hq : ((Nm.small (mnemS t)).toList == (Nm.small s).toList) with
        | true =>
          have HN : Hid (R = .tuple #[.int .i64 t, .int .i64 0]) := by show _ = _; rw [HR.out, tyAt_hit HT.out hz hq]; rfl
          rw [← HQ.out] at hq
          generalize Nm.small (mnemS t) = SM at *
          generalize mnemS t = M at *
          clear HT
          go_wp2_with (first | (go_at_call 15; refine (hmn _).mono ?_; rintro e w2 ⟨rfl, hw⟩; obtain rfl : wr = w2 := hw.symm; clear hw) | (go_at_call 14; refine (hsm _).mono ?_; rintro e w3 ⟨rfl, hb3⟩))
          go_ret2
          rw [HN.out]
          exact ⟨rfl, Nm.below_two hbel hb3⟩
        | false =>
          have HN := Nm.hide (tyAt_next HT.out hq)
          rw [← HQ.out] at hq
          generalize Nm.small (mnemS t) = SM at *
          generalize mnemS t = M at *
          clear HT
          go_wp2_with (first | (go_at_call 15; refine (hmn _).mono ?_; rintro e w2 ⟨rfl, hw⟩; obtain rfl : wr = w2 := hw.symm; clear hw) | (go_at_call 14; refine (hsm _).mono ?_; rintro e w3 ⟨rfl, hb3⟩))
          go_roundw
          case rel => exact ⟨t + 1, by omega, by omega, by go_num, HN, Nm.below_two hbel hb3⟩
          case measure => simp [intOf]; omega
    · have hte : t = 258 := by omega
      subst hte
      have HE : Hid (R = pairV (tyTail s)) := by show _ = _; rw [HR.out, tyAt_end HT.out]
      clear HT HR
      by_cases h5 : s.size < 5
      · have HN : Hid (R = .tuple #[.int .i64 0, .int .i64 6]) := by show _ = _; rw [HE.out, tyTail_short h5]; rfl
        have h5' : (Q.size : Int) < 5 := by omega
        go_wp2
        go_ret2
        rw [HN.out]
        exact ⟨rfl, hbel⟩
      · have h5' : (5 : Int) ≤ (Q.size : Int) := by omega
        have h4a : (4 : Int) ≤ (Q.size : Int) := by omega
        have h4b : 4 ≤ Q.size := by omega
        have HP : Hid (((Q.extract 0 4).toList == [116, 121, 112, 101]) = ((Nm.small (s.extract 0 4)).toList == [116, 121, 112, 101])) := by
          show _ = _
          rw [HQ.out, small_extract]
        cases hp : ((Nm.small (s.extract 0 4)).toList == [116, 121, 112, 101]) with
        | false =>
          have HN : Hid (R = .tuple #[.int .i64 0, .int .i64 6]) := by show _ = _; rw [HE.out, tyTail_not hp]; rfl
          have hp2 : ((Q.extract 0 4).toList == [116, 121, 112, 101]) = false := by rw [HP.out, hp]
          clear hp
          go_wp2
          go_ret2
          rw [HN.out]
          exact ⟨rfl, hbel⟩
        | true =>
          have hp2 : ((Q.extract 0 4).toList == [116, 121, 112, 101]) = true := by rw [HP.out, hp]
          have hnum := fun W => l03Number_any (Q.extract 4 Q.size) 5 W (by decide)
          have hno : numO (Q.extract 4 Q.size) 5 = numO (s.extract 4 s.size) 5 := by rw [HQ.out, Nm.small_size, small_extract, numO_small]
          cases hn : numO (s.extract 4 s.size) 5 with
          | none =>
            have HN : Hid (R = .tuple #[.int .i64 0, .int .i64 6]) := by show _ = _; rw [HE.out, tyTail_none hn]; rfl
            rw [hno, hn] at hnum
            simp only [numV, Option.getD_none, Option.isSome_none] at hnum
            clear hp hn hno
            go_wp2_with (go_at_call 10; refine (hnum _).mono ?_; rintro e w2 ⟨rfl, hw⟩; obtain rfl : wr = w2 := hw.symm; clear hw)
            go_ret2
            rw [HN.out]
            exact ⟨rfl, hbel⟩
          | some n =>
            have HT := Nm.hide (tyTail_some (by omega) hp hn)
            rw [hno, hn] at hnum
            simp only [numV, Option.getD_some, Option.isSome_some] at hnum
            clear hp hn hno
            by_cases hle : n ≤ 65535
            · have HN : Hid (R = .tuple #[.int .i64 n, .int .i64 0]) := by show _ = _; rw [HE.out, HT.out, if_pos hle]; rfl
              have hle' : (n : Int) ≤ 65535 := by omega
              go_wp2_with (go_at_call 10; refine (hnum _).mono ?_; rintro e w2 ⟨rfl, hw⟩; obtain rfl : wr = w2 := hw.symm; clear hw)
              go_ret2
              rw [HN.out]
              exact ⟨rfl, hbel⟩
            · have HN : Hid (R = .tuple #[.int .i64 0, .int .i64 6]) := by show _ = _; rw [HE.out, HT.out, if_neg hle]; rfl
              have hle' : 65535 < (n : Int) := by omega
              go_wp2_with (go_at_call 10; refine (hnum _).mono ?_; rintro e w2 ⟨rfl, hw⟩; obtain rfl : wr = w2 := hw.symm; clear hw)
              go_ret2
              rw [HN.out]
              exact ⟨rfl, hbel⟩
end Go.Proofs.YtakonfkefoeenadDoor
