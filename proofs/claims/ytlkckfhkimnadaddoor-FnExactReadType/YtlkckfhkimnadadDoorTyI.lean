/- impl.ReadType by its contract. -/
import Derived.Test.YtlkckfhkimnadadDoorTyM
import Derived.Test.YtlkckfhkimnadadDoorCmp
import Derived.Test.YtlkckfhkimnadadDoorINum
import Derived.Laws.Rows
namespace Go.Proofs.YtlkckfhkimnadadDoor
open Go.RowKit

set_option maxRecDepth 100000 in
set_option maxHeartbeats 3000000 in
theorem implReadType_any (s : ByteArray) (w : World) (hs : s.size ≤ 1000000000) (hM : MnemAt w) :
    Calls Tryd.prog 8 #[.string s] w fun e w' => e = .returned (pairV (readTyS s)) ∧ Below w.heap.size w w' := by
  obtain ⟨R, HR⟩ : ∃ R, Hid (R = pairV (readTyS s)) := ⟨_, rfl⟩
  rw [← HR.out]
  obtain ⟨bt, bf, hblk⟩ := hM
  generalize hmc : mnemCells = mc at hblk
  have HMC := Nm.hide hmc
  have hsz : (Tryd.prog.info? 36).map (·.size) = some mc.size := by rw [← hmc]; kernel_rfl
  clear hmc
  go_enter Tryd.func8, Tryd.ntmps8
  go_wp2_with (guard_target = wpList _ _ _ ({ dst := some 8, op := Go.Op.load 36 (Go.Operand.global 0), type := _, pos := _, after := _, guard := none } :: _) _ _; refine wpList_load_row rfl 36 (.global 0) rfl 0 rfl bt mc bf _ hblk Tryd.underlying36 rfl hsz ?_)
  go_loopw [9] (fun i wr => ∃ k : Nat, k ≤ 19 ∧ i = .int .i64 k ∧ Hid (∀ j, j < k → tyEq s j = false) ∧ Below w.heap.size w wr)
    (fun i _ => 19 - (intOf i).toNat)
  case atStart => exact ⟨0, by omega, rfl, fun j h => by omega, Below.refl _ _⟩
  case round =>
    obtain ⟨k, hk, rfl, HNO, hbel⟩ := hrel
    have hszb := hbel.size
    by_cases hlt : k < 19
    · have hlt' : (k : Int) < 19 := by omega
      have hidx := fun W => mnem_index k hlt W
      rw [HMC.out] at hidx
      have hcmp := fun W => compareFolded_any s (mnT k) W hs
      have HE := Nm.hide (ty_eq_ord s k)
      by_cases he : Nm.ordS s (mnT k) = 0
      · have HN : Hid (R = .tuple #[.int .i64 (mnN k), .int .i64 0]) := by
          show _ = _
          rw [HR.out, ty_hit hlt (by rw [HE.out]; simpa using he) HNO.out]; rfl
        rw [he] at hcmp
        clear he HE HNO
        generalize mnN k = N at *
        generalize mnT k = T at *
        go_wp2_with (go_at_call 16; refine (hcmp _).mono ?_; rintro e w2 ⟨rfl, m, rfl⟩)
        go_ret2
        rw [HN.out]
        exact ⟨rfl, Go.below_drewN (hbel.alloc hszb _) m⟩
      · have hne : (Nm.ordS s (mnT k) == 0) = false := by rw [beq_eq_false_iff_ne]; exact he
        have HN : Hid (∀ j, j < k + 1 → tyEq s j = false) := by
          show ∀ j, _
          intro j hj
          by_cases e : j = k
          · subst e; rw [HE.out]; simpa using he
          · exact HNO.out j (by omega)
        clear he HE HNO
        generalize Nm.ordS s (mnT k) = O at *
        generalize mnN k = N at *
        generalize mnT k = T at *
        go_wp2_with (go_at_call 16; refine (hcmp _).mono ?_; rintro e w2 ⟨rfl, m, hw2⟩; have HB : Hid (Below w.heap.size w w2) := (by show Below _ _ _; rw [hw2]; exact Go.below_drewN (hbel.alloc hszb _) m); have hcell : w2.cell? ⟨wr.heap.size, 1, none⟩ = some (.int .i64 N) := (by rw [hw2]; simp); clear hw2)
        go_roundw
        case rel => exact ⟨k + 1, by omega, by go_num, HN, HB.out⟩
        case measure => simp [intOf]; omega
    · have hke : k = 19 := by omega
      subst hke
      have HE : Hid (R = pairV (tyTail s)) := by show _ = _; rw [HR.out, ty_miss HNO.out]
      clear HNO HR
      by_cases h4 : s.size < 4
      · have HN : Hid (R = .tuple #[.int .i64 0, .int .i64 6]) := by show _ = _; rw [HE.out, tyTail_short (by omega)]; rfl
        have h4' : (s.size : Int) < 4 := by omega
        go_wp2
        go_ret2
        rw [HN.out]
        exact ⟨rfl, hbel⟩
      · have h4a : (4 : Int) ≤ (s.size : Int) := by omega
        have h4b : 4 ≤ s.size := by omega
        have hcmp := fun W => compareFolded_any (s.extract 0 4) ⟨#[84, 89, 80, 69]⟩ W (by simp; omega)
        have HP := Nm.hide (ty_prefix (s.extract 0 4))
        by_cases hp : Nm.ordS (s.extract 0 4) ⟨#[84, 89, 80, 69]⟩ = 0
        · rw [hp] at hcmp
          have HP1 : Hid (((Nm.small (s.extract 0 4)).toList == [116, 121, 112, 101]) = true) := by show _ = _; rw [HP.out]; simpa using hp
          have hnum := fun W => readNumber_any (s.extract 4 s.size) 5 W (by decide)
          clear hp HP
          cases hn : numO (s.extract 4 s.size) 5 with
          | none =>
            have HN : Hid (R = .tuple #[.int .i64 0, .int .i64 6]) := by show _ = _; rw [HE.out, tyTail_none hn]; rfl
            rw [hn] at hnum
            simp only [numV, Option.getD_none, Option.isSome_none] at hnum
            clear hn
            go_wp2_with (first | (go_at_call 16; refine (hcmp _).mono ?_; rintro e w2 ⟨rfl, m, hw2⟩; have hb2 : Below w.heap.size w w2 := (by rw [hw2]; exact Go.below_drewN hbel m); clear hw2) | (go_at_call 13; refine (hnum _).mono ?_; rintro e w3 ⟨rfl, hw⟩; obtain rfl : w2 = w3 := hw.symm; clear hw))
            go_ret2
            rw [HN.out]
            exact ⟨rfl, hb2⟩
          | some n =>
            have HT := Nm.hide (tyTail_some h4b HP1.out hn)
            rw [hn] at hnum
            simp only [numV, Option.getD_some, Option.isSome_some] at hnum
            clear hn
            by_cases hle : n ≤ 65535
            · have HN : Hid (R = .tuple #[.int .i64 n, .int .i64 0]) := by show _ = _; rw [HE.out, HT.out, if_pos hle]; rfl
              have hle' : (n : Int) ≤ 65535 := by omega
              go_wp2_with (first | (go_at_call 16; refine (hcmp _).mono ?_; rintro e w2 ⟨rfl, m, hw2⟩; have hb2 : Below w.heap.size w w2 := (by rw [hw2]; exact Go.below_drewN hbel m); clear hw2) | (go_at_call 13; refine (hnum _).mono ?_; rintro e w3 ⟨rfl, hw⟩; obtain rfl : w2 = w3 := hw.symm; clear hw))
              go_ret2
              rw [HN.out]
              exact ⟨rfl, hb2⟩
            · have HN : Hid (R = .tuple #[.int .i64 0, .int .i64 6]) := by show _ = _; rw [HE.out, HT.out, if_neg hle]; rfl
              have hle' : 65535 < (n : Int) := by omega
              go_wp2_with (first | (go_at_call 16; refine (hcmp _).mono ?_; rintro e w2 ⟨rfl, m, hw2⟩; have hb2 : Below w.heap.size w w2 := (by rw [hw2]; exact Go.below_drewN hbel m); clear hw2) | (go_at_call 13; refine (hnum _).mono ?_; rintro e w3 ⟨rfl, hw⟩; obtain rfl : w2 = w3 := hw.symm; clear hw))
              go_ret2
              rw [HN.out]
              exact ⟨rfl, hb2⟩
        · have hne : (Nm.ordS (s.extract 0 4) ⟨#[84, 89, 80, 69]⟩ == 0) = false := by rw [beq_eq_false_iff_ne]; exact hp
          have hne2 : (Nm.ordS (s.extract 0 4) ⟨#[84, 89, 80, 69]⟩ != 0) = true := by rw [bne_iff_ne]; exact hp
          have HN : Hid (R = .tuple #[.int .i64 0, .int .i64 6]) := by show _ = _; rw [HE.out, tyTail_not (by rw [HP.out]; simpa using hp)]; rfl
          clear hp HP
          generalize Nm.ordS (s.extract 0 4) ⟨#[84, 89, 80, 69]⟩ = O at *
          go_wp2_with (go_at_call 16; refine (hcmp _).mono ?_; rintro e w2 ⟨rfl, m, hw2⟩; have hb2 : Below w.heap.size w w2 := (by rw [hw2]; exact Go.below_drewN hbel m); clear hw2)
          go_ret2
          rw [HN.out]
          exact ⟨rfl, hb2⟩
end Go.Proofs.YtlkckfhkimnadadDoor
