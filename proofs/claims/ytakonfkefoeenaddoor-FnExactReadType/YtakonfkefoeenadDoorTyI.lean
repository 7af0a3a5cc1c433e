/- impl.ReadType by its contract. -/
import Derived.Test.YtakonfkefoeenadDoorTyM
import Derived.Test.YtakonfkefoeenadDoorCmp
import Derived.Test.YtakonfkefoeenadDoorINbd
import Derived.Laws.Rows
namespace Go.Proofs.YtakonfkefoeenadDoor
open Go.RowKit

theorem tyTail_nbd (s : ByteArray) : tyTail s = match nbdO s ⟨#[84, 89, 80, 69]⟩ with | none => (0, 6) | some n => if n ≤ 65535 then ((n : Int), 0) else (0, 6) := by
  have e4 : (⟨#[84, 89, 80, 69]⟩ : ByteArray).size = 4 := rfl
  unfold nbdO
  rw [e4]
  by_cases h4 : s.size < 4
  · rw [if_pos h4, tyTail_short (by omega)]
  · rw [if_neg h4]
    have HP := ty_prefix (s.extract 0 4)
    by_cases hp : Nm.ordS (s.extract 0 4) ⟨#[84, 89, 80, 69]⟩ = 0
    · rw [if_pos hp]
      cases hn : numO (s.extract 4 s.size) 5 with
      | none => rw [tyTail_none hn]
      | some n => rw [tyTail_some (by omega) (by rw [HP]; simpa using hp) hn]
    · rw [if_neg hp, tyTail_not (by rw [HP]; simpa using hp)]

set_option maxRecDepth 100000 in
set_option maxHeartbeats 3000000 in
theorem implReadType_any (s : ByteArray) (w : World) (hs : s.size ≤ 1000000000) (hM : MnemAt w) :
    Calls Tryd.prog 8 #[.string s] w fun e w' => e = .returned (pairV (readTyS s)) ∧ Below w.heap.size w w' := by
  obtain ⟨R, HR⟩ : ∃ R, Hid (R = pairV (readTyS s)) := ⟨_, rfl⟩
  rw [← HR.out]
  obtain ⟨bt, bf, hblk⟩ := hM
  generalize hmc : mnemCells = mc at hblk
  have HMC := Nm.hide hmc
  have hsz : (Tryd.prog.info? 36).map (·.size) = some mc.size := by rw [← hmc]; kernel_rfl
  clear hmc
  go_enter Tryd.func8, Tryd.ntmps8
  go_wp2_with (guard_target = wpList _ _ _ ({ dst := some 8, op := Go.Op.load 36 (Go.Operand.global 0), type := _, pos := _, after := _, guard := none } :: _) _ _; refine wpList_load_row rfl 36 (.global 0) rfl 0 rfl bt mc bf _ hblk Tryd.underlying36 rfl hsz ?_)
  go_loopw [9] (fun i wr => ∃ k : Nat, k ≤ 19 ∧ i = .int .i64 k ∧ Hid (∀ j, j < k → tyEq s j = false) ∧ Below w.heap.size w wr)
    (fun i _ => 19 - (intOf i).toNat)
  case atStart => exact ⟨0, by omega, rfl, fun j h => by omega, Below.refl _ _⟩
  case round =>
    obtain ⟨k, hk, rfl, HNO, hbel⟩ := hrel
    have hszb := hbel.size
    by_cases hlt : k < 19
    · have hlt' : (k : Int) < 19 := by omega
      have hidx := fun W => mnem_index k hlt W
      rw [HMC.out] at hidx
      have hcmp := fun W => compareFolded_any s (mnT k) W hs
      have HE := Nm.hide (ty_eq_ord s k)
      by_cases he : Nm.ordS s (mnT k) = 0
      · have HN : Hid (R = .tuple #[.int .i64 (mnN k), .int .i64 0]) := by
          show _ = _
          rw [HR.out, ty_hit hlt (by rw [HE.out]; simpa using he) HNO.out]; rfl
        rw [he] at hcmp
        clear he HE HNO
        generalize mnN k = N at *
        generalize mnT k = T at *
        go_wp2_with (go_at_call 16; refine (hcmp _).mono ?_; rintro e w2 ⟨rfl, m, rfl⟩)
        go_ret2
        rw [HN.out]
        exact ⟨rfl, Go.below_drewN (hbel.alloc hszb _) m⟩
      · have hne : (Nm.ordS s (mnT k) == 0) = false := by rw [beq_eq_false_iff_ne]; exact he
        have HN : Hid (∀ j, j < k + 1 → tyEq s j = false) := by
          show ∀ j, _
          intro j hj
          by_cases e : j = k
          · subst e; rw [HE.out]; simpa using he
          · exact HNO.out j (by omega)
        clear he HE HNO
        generalize Nm.ordS s (mnT k) = O at *
        generalize mnN k = N at *
        generalize mnT k = T at *
        go_wp2_with (go_at_call 16; refine (hcmp _).mono ?_; rintro e w2 ⟨rfl, m, hw2⟩; have HB : Hid (Below w.heap.size w w2) := (by show Below _ _ _; rw [hw2]; exact Go.below_drewN (hbel.alloc hszb _) m); have hcell : w2.cell? ⟨wr.heap.size, 1, none⟩ = some (.int .i64 N) := (by rw [hw2]; simp); clear hw2)
        go_roundw
        case rel => exact ⟨k + 1, by omega, by go_num, HN, HB.out⟩
        case measure => simp [intOf]; omega
    · have hke : k = 19 := by omega
      subst hke
      have HE : Hid (R = pairV (tyTail s)) := by show _ = _; rw [HR.out, ty_miss HNO.out]
      clear HNO HR
      have hnb := fun W => readNumbered_any s ⟨#[84, 89, 80, 69]⟩ W hs
      have HT := Nm.hide (tyTail_nbd s)
      cases hn : nbdO s ⟨#[84, 89, 80, 69]⟩ with
      | none =>
        have HN : Hid (R = .tuple #[.int .i64 0, .int .i64 6]) := by show _ = _; rw [HE.out, HT.out, hn]; rfl
        rw [hn] at hnb
        simp only [numV, Option.getD_none, Option.isSome_none] at hnb
        clear hn HT
        go_wp2_with (go_at_call 17; refine (hnb _).mono ?_; rintro e w2 ⟨rfl, m, hw2⟩; have hb2 : Below w.heap.size w w2 := (by rw [hw2]; exact Go.below_drewN hbel m); clear hw2)
        go_ret2
        rw [HN.out]
        exact ⟨rfl, hb2⟩
      | some n =>
        rw [hn] at hnb
        simp only [numV, Option.getD_some, Option.isSome_some] at hnb
        by_cases hle : n ≤ 65535
        · have HN : Hid (R = .tuple #[.int .i64 n, .int .i64 0]) := by show _ = _; rw [HE.out, HT.out, hn]; simp only; rw [if_pos hle]; rfl
          have hle' : (n : Int) ≤ 65535 := by omega
          clear hn HT
          go_wp2_with (go_at_call 17; refine (hnb _).mono ?_; rintro e w2 ⟨rfl, m, hw2⟩; have hb2 : Below w.heap.size w w2 := (by rw [hw2]; exact Go.below_drewN hbel m); clear hw2)
          go_ret2
          rw [HN.out]
          exact ⟨rfl, hb2⟩
        · have HN : Hid (R = .tuple #[.int .i64 0, .int .i64 6]) := by show _ = _; rw [HE.out, HT.out, hn]; simp only; rw [if_neg hle]; rfl
          have hle' : 65535 < (n : Int) := by omega
          clear hn HT
          go_wp2_with (go_at_call 17; refine (hnb _).mono ?_; rintro e w2 ⟨rfl, m, hw2⟩; have hb2 : Below w.heap.size w w2 := (by rw [hw2]; exact Go.below_drewN hbel m); clear hw2)
          go_ret2
          rw [HN.out]
          exact ⟨rfl, hb2⟩
end Go.Proofs.YtakonfkefoeenadDoor
