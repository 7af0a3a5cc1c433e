import Derived.Test.YtddabafaejahbaaGreatDoorJRdA
import Derived.Test.YtddabafaejahbaaGreatDoorJOwnT
import Derived.Test.YtddabafaejahbaaGreatDoorJSCheck
import Derived.Laws.Rows
import Derived.Laws.BitsAllLaws
import Derived.Test.YtddabafaejahbaaGreatDoorJTxt8
import Derived.RegionTactic
import Derived.BigRegion
import Derived.Deep.OwnRows
import Derived.Laws.CopyRow
import Derived.Lib.AppendZerosOnto
import Derived.Lib.Overlaps
/- impl.readNumbered by its contract. -/
namespace Go.Proofs.YtddabafaejahbaaGreatDoor
open Go.RowKit
/-- A prefix in any letters, and up to five digits behind it. -/
def nbdO (s p : ByteArray) : Option Nat :=
 if s.size < p.size then none else if Nm.ordS (s.extract 0 p.size) p = 0 then numO (s.extract p.size s.size) 5 else none
set_option maxRecDepth 100000 in
set_option maxHeartbeats 800000 in
theorem readNumbered_any (s p : ByteArray) (w : World) (hs : s.size ≤ 1000000000) :
 Calls Tryz.prog 211 #[.string s, .string p] w fun e w' => e = .returned (numV (nbdO s p)) ∧ ∃ m, w' = w.drewN m := by
 by_cases h1 : s.size < p.size
 · have HN : Hid (numV (nbdO s p) = .tuple #[.int .i64 0, .bool false]) := by show _ = _; rw [nbdO, if_pos h1]; rfl
   have h1' : (s.size : Int) < (p.size : Int) := by omega
   go_enter Tryz.func211, Tryz.ntmps211; go_wp2; go_ret2; rw [HN.out]; exact ⟨rfl, 0, rfl⟩
 · have h1' : (p.size : Int) ≤ (s.size : Int) := by omega
   have hp : p.size ≤ s.size := by omega
   have hcmp := fun W => compareFolded_any (s.extract 0 p.size) p W (by simp; omega)
   have hnum := fun W => readNumber_any (s.extract p.size s.size) 5 W (by decide)
   by_cases h2 : Nm.ordS (s.extract 0 p.size) p = 0
   · have HN : Hid (nbdO s p = numO (s.extract p.size s.size) 5) := by show _ = _; rw [nbdO, if_neg h1, if_pos h2]
     rw [h2] at hcmp; clear h2; rw [HN.out]; simp only [numV] at hnum ⊢; generalize ((numO (s.extract p.size s.size) 5).getD 0 : Nat) = n at *; generalize (numO (s.extract p.size s.size) 5).isSome = o at *; go_enter Tryz.func211, Tryz.ntmps211; go_wp2_with (first | (go_at_call 210; refine (hcmp _).mono ?_; rintro e w2 ⟨rfl, m, hw2⟩; have HW := Nm.hide hw2; clear hw2) | (go_at_call 53; refine (hnum _).mono ?_; rintro e w3 ⟨rfl, hw⟩; obtain rfl : w2 = w3 := hw.symm; clear hw))
     go_ret2; exact ⟨rfl, m, HW.out⟩
   · have HN : Hid (numV (nbdO s p) = .tuple #[.int .i64 0, .bool false]) := by show _ = _; rw [nbdO, if_neg h1, if_neg h2]; rfl
     have hne : (Nm.ordS (s.extract 0 p.size) p == 0) = false := by rw [beq_eq_false_iff_ne]; exact h2
     have hne2 : (Nm.ordS (s.extract 0 p.size) p != 0) = true := by rw [bne_iff_ne]; exact h2
     clear h2; generalize Nm.ordS (s.extract 0 p.size) p = O at *; go_enter Tryz.func211, Tryz.ntmps211; go_wp2_with (go_at_call 210; refine (hcmp _).mono ?_; rintro e w2 ⟨rfl, m, hw2⟩)
     go_ret2; rw [HN.out]; exact ⟨rfl, m, rfl⟩
end Go.Proofs.YtddabafaejahbaaGreatDoor
/- impl.ReadType by its contract. -/
namespace Go.Proofs.YtddabafaejahbaaGreatDoor
open Go.RowKit
theorem tyTail_nbd (s : ByteArray) : tyTail s = match nbdO s ⟨#[84, 89, 80, 69]⟩ with | none => (0, 6) | some n => if n ≤ 65535 then ((n : Int), 0) else (0, 6) := by
 have e4 : (⟨#[84, 89, 80, 69]⟩ : ByteArray).size = 4 := rfl; unfold nbdO; rw [e4]
 by_cases h4 : s.size < 4
 · rw [if_pos h4, tyTail_short (by omega)]
 · rw [if_neg h4]; have HP := ty_prefix (s.extract 0 4)
   by_cases hp : Nm.ordS (s.extract 0 4) ⟨#[84, 89, 80, 69]⟩ = 0
   · rw [if_pos hp]
     cases hn : numO (s.extract 4 s.size) 5 with
     | none => rw [tyTail_none hn]
     | some n => rw [tyTail_some (by omega) (by rw [HP]; simpa using hp) hn]
   · rw [if_neg hp, tyTail_not (by rw [HP]; simpa using hp)]
set_option maxRecDepth 100000 in
set_option maxHeartbeats 3000000 in
theorem implReadType_any (s : ByteArray) (w : World) (hs : s.size ≤ 1000000000) (hM : MnemAt w) :
 Calls Tryz.prog 176 #[.string s] w fun e w' => e = .returned (pairV (readTyS s)) ∧ Below w.heap.size w w' := by
 obtain ⟨R, HR⟩ : ∃ R, Hid (R = pairV (readTyS s)) := ⟨_, rfl⟩; rw [← HR.out]; obtain ⟨bt, bf, hblk⟩ := hM; generalize hmc : mnemCells = mc at hblk; have HMC := Nm.hide hmc; have hsz : (Tryz.prog.info? 223).map (·.size) = some mc.size := by rw [← hmc]; kernel_rfl
 clear hmc; go_enter Tryz.func176, Tryz.ntmps176; go_wp2_with (guard_target = wpList _ _ _ ({ dst := some 8, op := Go.Op.load 223 (Go.Operand.global 1), type := _, pos := _, after := _, guard := none } :: _) _ _; refine wpList_load_row rfl 223 (.global 1) rfl 1 rfl bt mc bf _ hblk Tryz.underlying223 rfl hsz ?_)
 go_loopw [9] (fun i wr => ∃ k : Nat, k ≤ 19 ∧ i = .int .i64 k ∧ Hid (∀ j, j < k → tyEq s j = false) ∧ Below w.heap.size w wr)
  (fun i _ => 19 - (intOf i).toNat)
 case atStart => exact ⟨0, by omega, rfl, fun j h => by omega, Below.refl _ _⟩
 case round =>
  obtain ⟨k, hk, rfl, HNO, hbel⟩ := hrel; have hszb := hbel.size
  by_cases hlt : k < 19
  · have hlt' : (k : Int) < 19 := by omega
    have hidx := fun W => mnem_index k hlt W
    rw [HMC.out] at hidx; have hcmp := fun W => compareFolded_any s (mnT k) W hs
    have HE := Nm.hide (ty_eq_ord s k)
    by_cases he : Nm.ordS s (mnT k) = 0
    · have HN : Hid (R = .tuple #[.int .i64 (mnN k), .int .i64 0]) := by
       show _ = _
       rw [HR.out, ty_hit hlt (by rw [HE.out]; simpa using he) HNO.out]; rfl
      rw [he] at hcmp; clear he HE HNO; generalize mnN k = N at *; generalize mnT k = T at *; go_wp2_with (go_at_call 210; refine (hcmp _).mono ?_; rintro e w2 ⟨rfl, m, rfl⟩)
      go_ret2; rw [HN.out]; exact ⟨rfl, Go.below_drewN (hbel.alloc hszb _) m⟩
    · have hne : (Nm.ordS s (mnT k) == 0) = false := by rw [beq_eq_false_iff_ne]; exact he
      have HN : Hid (∀ j, j < k + 1 → tyEq s j = false) := by
       show ∀ j, _
       intro j hj
       by_cases e : j = k
       · subst e; rw [HE.out]; simpa using he
       · exact HNO.out j (by omega)
      clear he HE HNO; generalize Nm.ordS s (mnT k) = O at *; generalize mnN k = N at *; generalize mnT k = T at *; go_wp2_with (go_at_call 210; refine (hcmp _).mono ?_; rintro e w2 ⟨rfl, m, hw2⟩; have HB : Hid (Below w.heap.size w w2) := (by show Below _ _ _; rw [hw2]; exact Go.below_drewN (hbel.alloc hszb _) m); have hcell : w2.cell? ⟨wr.heap.size, 1, none⟩ = some (.int .i64 N) := (by rw [hw2]; simp); clear hw2)
      go_roundw
      case rel => exact ⟨k + 1, by omega, by go_num, HN, HB.out⟩
      case measure => simp [intOf]; omega
  · have hke : k = 19 := by omega
    subst hke; have HE : Hid (R = pairV (tyTail s)) := by show _ = _; rw [HR.out, ty_miss HNO.out]
    clear HNO HR; have hnb := fun W => readNumbered_any s ⟨#[84, 89, 80, 69]⟩ W hs
    have HT := Nm.hide (tyTail_nbd s)
    cases hn : nbdO s ⟨#[84, 89, 80, 69]⟩ with
    | none =>
      have HN : Hid (R = .tuple #[.int .i64 0, .int .i64 6]) := by show _ = _; rw [HE.out, HT.out, hn]; rfl
      rw [hn] at hnb; simp only [numV, Option.getD_none, Option.isSome_none] at hnb; clear hn HT; go_wp2_with (go_at_call 211; refine (hnb _).mono ?_; rintro e w2 ⟨rfl, m, hw2⟩; have hb2 : Below w.heap.size w w2 := (by rw [hw2]; exact Go.below_drewN hbel m); clear hw2)
      go_ret2; rw [HN.out]
      exact ⟨rfl, hb2⟩
    | some n =>
      rw [hn] at hnb; simp only [numV, Option.getD_some, Option.isSome_some] at hnb
      by_cases hle : n ≤ 65535
      · have HN : Hid (R = .tuple #[.int .i64 n, .int .i64 0]) := by show _ = _; rw [HE.out, HT.out, hn]; simp only; rw [if_pos hle]; rfl
        have hle' : (n : Int) ≤ 65535 := by omega
        clear hn HT; go_wp2_with (go_at_call 211; refine (hnb _).mono ?_; rintro e w2 ⟨rfl, m, hw2⟩; have hb2 : Below w.heap.size w w2 := (by rw [hw2]; exact Go.below_drewN hbel m); clear hw2)
        go_ret2; rw [HN.out]; exact ⟨rfl, hb2⟩
      · have HN : Hid (R = .tuple #[.int .i64 0, .int .i64 6]) := by show _ = _; rw [HE.out, HT.out, hn]; simp only; rw [if_neg hle]; rfl
        have hle' : 65535 < (n : Int) := by omega
        clear hn HT; go_wp2_with (go_at_call 211; refine (hnb _).mono ?_; rintro e w2 ⟨rfl, m, hw2⟩; have hb2 : Below w.heap.size w w2 := (by rw [hw2]; exact Go.below_drewN hbel m); clear hw2)
        go_ret2; rw [HN.out]; exact ⟨rfl, hb2⟩
end Go.Proofs.YtddabafaejahbaaGreatDoor
/- Setting a bit in a map's bytes: mathematics. -/
namespace Go.Proofs.YtddabafaejahbaaGreatDoor
open Go.RowKit
def b8 (b0 b1 b2 b3 b4 b5 b6 b7 : Bool) : Nat := (((((((0 * 2 + b0.toNat) * 2 + b1.toNat) * 2 + b2.toNat) * 2 + b3.toNat) * 2 + b4.toNat) * 2 + b5.toNat) * 2 + b6.toNat) * 2 + b7.toNat
theorem byteS_b8 (S : Nat → Bool) (k : Nat) : byteS S k = b8 (S (8 * k + 0)) (S (8 * k + 1)) (S (8 * k + 2)) (S (8 * k + 3)) (S (8 * k + 4)) (S (8 * k + 5)) (S (8 * k + 6)) (S (8 * k + 7)) := rfl
theorem b8_0 : ∀ b0 b1 b2 b3 b4 b5 b6 b7 : Bool, b8 true b1 b2 b3 b4 b5 b6 b7 = b8 b0 b1 b2 b3 b4 b5 b6 b7 ||| 128 := by decide
theorem b8_1 : ∀ b0 b1 b2 b3 b4 b5 b6 b7 : Bool, b8 b0 true b2 b3 b4 b5 b6 b7 = b8 b0 b1 b2 b3 b4 b5 b6 b7 ||| 64 := by decide
theorem b8_2 : ∀ b0 b1 b2 b3 b4 b5 b6 b7 : Bool, b8 b0 b1 true b3 b4 b5 b6 b7 = b8 b0 b1 b2 b3 b4 b5 b6 b7 ||| 32 := by decide
theorem b8_3 : ∀ b0 b1 b2 b3 b4 b5 b6 b7 : Bool, b8 b0 b1 b2 true b4 b5 b6 b7 = b8 b0 b1 b2 b3 b4 b5 b6 b7 ||| 16 := by decide
theorem b8_4 : ∀ b0 b1 b2 b3 b4 b5 b6 b7 : Bool, b8 b0 b1 b2 b3 true b5 b6 b7 = b8 b0 b1 b2 b3 b4 b5 b6 b7 ||| 8 := by decide
theorem b8_5 : ∀ b0 b1 b2 b3 b4 b5 b6 b7 : Bool, b8 b0 b1 b2 b3 b4 true b6 b7 = b8 b0 b1 b2 b3 b4 b5 b6 b7 ||| 4 := by decide
theorem b8_6 : ∀ b0 b1 b2 b3 b4 b5 b6 b7 : Bool, b8 b0 b1 b2 b3 b4 b5 true b7 = b8 b0 b1 b2 b3 b4 b5 b6 b7 ||| 2 := by decide
theorem b8_7 : ∀ b0 b1 b2 b3 b4 b5 b6 b7 : Bool, b8 b0 b1 b2 b3 b4 b5 b6 true = b8 b0 b1 b2 b3 b4 b5 b6 b7 ||| 1 := by decide
theorem byteS_or {S S' : Nat → Bool} {n : Nat} (h : ∀ j, S' j = if j = n then true else S j) : byteS S' (n / 8) = byteS S (n / 8) ||| 2 ^ (7 - n % 8) := by
 have hn : n = 8 * (n / 8) + n % 8 := by omega
 have hr : n % 8 < 8 := by omega
 generalize hk : n / 8 = k at *; generalize n % 8 = r at *; rw [byteS_b8, byteS_b8]
 have hother : ∀ i, i ≠ r → S' (8 * k + i) = S (8 * k + i) := by
  intro i hi; rw [h, if_neg (by omega)]
 have hself : S' (8 * k + r) = true := by rw [h, if_pos (by omega)]
 obtain rfl | rfl | rfl | rfl | rfl | rfl | rfl | rfl : r = 0 ∨ r = 1 ∨ r = 2 ∨ r = 3 ∨ r = 4 ∨ r = 5 ∨ r = 6 ∨ r = 7 := by omega
 · rw [hself, hother 1 (by decide), hother 2 (by decide), hother 3 (by decide), hother 4 (by decide), hother 5 (by decide), hother 6 (by decide), hother 7 (by decide)]; exact b8_0 _ _ _ _ _ _ _ _
 · rw [hself, hother 0 (by decide), hother 2 (by decide), hother 3 (by decide), hother 4 (by decide), hother 5 (by decide), hother 6 (by decide), hother 7 (by decide)]; exact b8_1 _ _ _ _ _ _ _ _
 · rw [hself, hother 0 (by decide), hother 1 (by decide), hother 3 (by decide), hother 4 (by decide), hother 5 (by decide), hother 6 (by decide), hother 7 (by decide)]; exact b8_2 _ _ _ _ _ _ _ _
 · rw [hself, hother 0 (by decide), hother 1 (by decide), hother 2 (by decide), hother 4 (by decide), hother 5 (by decide), hother 6 (by decide), hother 7 (by decide)]; exact b8_3 _ _ _ _ _ _ _ _
 · rw [hself, hother 0 (by decide), hother 1 (by decide), hother 2 (by decide), hother 3 (by decide), hother 5 (by decide), hother 6 (by decide), hother 7 (by decide)]; exact b8_4 _ _ _ _ _ _ _ _
 · rw [hself, hother 0 (by decide), hother 1 (by decide), hother 2 (by decide), hother 3 (by decide), hother 4 (by decide), hother 6 (by decide), hother 7 (by decide)]; exact b8_5 _ _ _ _ _ _ _ _
 · rw [hself, hother 0 (by decide), hother 1 (by decide), hother 2 (by decide), hother 3 (by decide), hother 4 (by decide), hother 5 (by decide), hother 7 (by decide)]; exact b8_6 _ _ _ _ _ _ _ _
 · rw [hself, hother 0 (by decide), hother 1 (by decide), hother 2 (by decide), hother 3 (by decide), hother 4 (by decide), hother 5 (by decide), hother 6 (by decide)]; exact b8_7 _ _ _ _ _ _ _ _
theorem byteS_else {S S' : Nat → Bool} {n k : Nat} (h : ∀ j, S' j = if j = n then true else S j) (hk : k ≠ n / 8) : byteS S' k = byteS S k := by
 have hj : ∀ i, i < 8 → S' (8 * k + i) = S (8 * k + i) := by
  intro i hi; rw [h, if_neg (by omega)]
 rw [byteS_b8, byteS_b8, hj 0 (by decide), hj 1 (by decide), hj 2 (by decide), hj 3 (by decide), hj 4 (by decide), hj 5 (by decide), hj 6 (by decide), hj 7 (by decide)]
theorem half_pow {r : Nat} (h : r < 8) : (128 : Int) / 2 ^ r = ((2 ^ (7 - r) : Nat) : Int) ∧ 2 ^ (7 - r) < 256 := by
 obtain rfl | rfl | rfl | rfl | rfl | rfl | rfl | rfl : r = 0 ∨ r = 1 ∨ r = 2 ∨ r = 3 ∨ r = 4 ∨ r = 5 ∨ r = 6 ∨ r = 7 := by omega
 all_goals exact ⟨by decide, by decide⟩
theorem or_bit {S S' : Nat → Bool} {n : Nat} (h : ∀ j, S' j = if j = n then true else S j) : bits .or .u8 ((byteS S (n / 8) : Nat) : Int) ((128 : Int) / 2 ^ (n % 8)) = ((byteS S' (n / 8) : Nat) : Int) := by
 obtain ⟨e1, e2⟩ := half_pow (r := n % 8) (by omega); rw [e1, u8_or_nat _ _ (byteS_lt _ _) e2, byteS_or h]
theorem byteS_none (k : Nat) : byteS (memB []) k = 0 := by
 rw [byteS_b8]; simp [memB_nil, b8]
theorem trim_stop {f : Nat → Nat} {m : Nat} (h : f m ≠ 0) : trim f (m + 1) = m + 1 := by rw [trim, if_neg h]
theorem trim_down {f : Nat → Nat} {m : Nat} (h : f m = 0) : trim f (m + 1) = trim f m := by rw [trim, if_pos h]
end Go.Proofs.YtddabafaejahbaaGreatDoor
/- Integers as cells. -/
namespace Go.Proofs.YtddabafaejahbaaGreatDoor
open Go.RowKit
def intCells (l : List Int) : List Value := l.map fun x => .int .i64 x
end Go.Proofs.YtddabafaejahbaaGreatDoor
/- impl.TypeMap by its contract. -/
namespace Go.Proofs.YtddabafaejahbaaGreatDoor
open Go.RowKit
def isZero : Value → Bool
 | .int .u8 0 => true
 | _ => false
theorem isZero_eq {x : Value} (h : isZero x = true) : x = .int .u8 0 := by
 unfold isZero at h
 split at h
 · rfl
 · cases h
theorem zero_ok : (match Tryz.prog.info? 271 with
 | some i => match i.zero with
   | some (.agg Z) => Z.size == 8192 && Z.toList.all isZero
   | _ => false
 | none => false) = true := by kernel_rfl
theorem zero_arr : ∃ Z : Array Value, Z.size = 8192 ∧ (∀ i, i < 8192 → Z[i]? = some (.int .u8 0)) ∧ ∀ w, (zeroValue 271).run Tryz.prog w = .ok (.agg Z) w := by
 have h := zero_ok
 split at h
 · rename_i i hi
   split at h
   · rename_i Z hz; rw [Bool.and_eq_true, beq_iff_eq, List.all_eq_true] at h; refine ⟨Z, h.1, ?_, ?_⟩
     · intro j hj; have hj' : j < Z.size := by omega
       rw [Array.getElem?_eq_getElem hj']; have := h.2 Z[j] (by rw [Array.mem_toList_iff]; exact Array.getElem_mem hj'); rw [isZero_eq this]
     · intro w; simp [zeroValue, typeInfo, hi, hz]
   · cases h
 · cases h
theorem Tryz.infoU8i : (Tryz.prog.info? 5).map (fun i => (i.zero, i.size, i.bytes)) = some (some (.int .u8 0), 1, 1) := by kernel_rfl
theorem arr_len : Tryz.prog.arrayLen 271 = 8192 := by kernel_rfl
theorem arr_elem : Tryz.prog.elem 271 = 5 := by kernel_rfl
theorem arr_slice {g p : Nat} (hp : p < 256) (W : World) : (Instr.sliceAt 271 (.pointer (some ⟨g, 0, none⟩)) (some (.int .i64 ((p : Int) * 32))) (some (.int .i64 (((p : Int) + 1) * 32))) none).run Tryz.prog W = .ok (.slice (some ⟨g, p * 32, none⟩) 32 (8192 - p * 32)) W := by
 obtain ⟨i0, hi, hz0, hz1, hz2⟩ := info_parts Tryz.infoU8i; have h := run_sliceAt_array_lh (P := Tryz.prog) W 271 ⟨g, 0, none⟩ (by rw [arr_len, arr_elem]; exact Tryz.underlying271) .i64 .i64 ((p : Int) * 32) (((p : Int) + 1) * 32) (by omega) (by omega) (by rw [arr_len]; omega); have hs : (sizeOf 5).run Tryz.prog W = .ok 1 W := by simp [sizeOf, typeInfo, hi, hz1]
 rw [h, arr_elem, hs, arr_len]; have e1 : ((p : Int) * 32).toNat = p * 32 := by omega
 have e2 : (((p : Int) + 1) * 32).toNat = p * 32 + 32 := by omega
 simp only [Result.andThen, slicedAt, e1, e2]; rw [if_neg (by omega), Nat.mul_one, Nm.addr_add, Nat.zero_add, show p * 32 + 32 - p * 32 = 32 by omega]
theorem arr_apart {w w1 : World} {B n g : Nat} {v : Value} {xs : List Value} {f : Nat → Value} (h : w.ownsRow B 5 1 v n xs) (hr : w.rowIs g 271 8192 f) (hg : w.grownBy w1 v.ownBlock) : w1.rowIs g 271 8192 f := by
 refine hr.of_block ?_; have hlt := hr.lt; obtain ⟨c, hb, _, _⟩ := hr; refine hg.block g hlt ?_
 rcases h.2 with ⟨rfl, _⟩ | ⟨g', cap, cur, rfl, _, hh, _⟩
 · simp [Value.ownBlock]
 · simp only [Value.ownBlock, ne_eq, Option.some.injEq]; intro e; subst e; rw [hb] at hh; simp at hh
theorem cell_new2i (w : World) (x y : Value) (e : Nat) : ∀ (j : Nat) (u : Value), [x, y][j]? = some u → (w.alloc (.cells #[x, y] e)).cell? ((⟨w.heap.size, 0, none⟩ : Addr).add j) = some u := by
 intro j u hj
 match j, hj with
 | 0, hj => simp at hj; subst hj; simp [Addr.add]
 | 1, hj => simp at hj; subst hj; simp [Addr.add]
theorem nil_str (W : World) : (convert 87 9 (.slice none 0 0)).run Tryz.prog W = .ok (.string ⟨#[]⟩) W := by
 rw [run_convert_bytes_string _ 87 9 5 _ _ _ Tryz.underlying87 Tryz.underlying5 Tryz.underlying9]; rfl
theorem bys_oneT {x : Value} {l : List UInt8} (h : x ∈ Nm.bys l) : x.oneCell' = true := by
 simp [Nm.bys] at h
 obtain ⟨c, _, rfl⟩ := h; rfl
theorem arr_news {w : World} {g p m : Nat} {S : Nat → Bool} (hr : w.rowIs g 271 8192 (fun j => .int .u8 ((byteS S j : Nat) : Int))) (hp : p < 256) (hm : m ≤ 32) : ∀ (j : Nat) (u : Value), (Nm.bys (blkB S p m))[j]? = some u → w.cell? ((⟨g, p * 32, none⟩ : Addr).add j) = some u := by
 intro j u hj; rw [Nm.bys, List.getElem?_map] at hj
 have hjm : j < m := by
  cases hq : (blkB S p m)[j]? with
  | none => rw [hq] at hj; cases hj
  | some c =>
    have := (List.getElem?_eq_some_iff.1 hq).1
    rwa [blkB_len] at this
 have e : (blkB S p m)[j]? = some (UInt8.ofNat (byteS S (32 * p + j))) := by simp [blkB, hjm]
 rw [e] at hj; rw [Nm.addr_add, hr.cell (i := p * 32 + j) (by omega), show p * 32 + j = 32 * p + j by omega]; have hb := byteS_lt S (32 * p + j); have : (UInt8.ofNat (byteS S (32 * p + j))).toNat = byteS S (32 * p + j) := by simp; omega
 simp only [Option.map_some, Option.some.injEq] at hj; rw [← hj, this]
set_option maxRecDepth 100000 in
set_option maxHeartbeats 8000000 in
theorem implTypeMap_any (v : Value) (l : List Int) (w : World) (h : CRow w v l.length 1 (intCells l)) (hl : l.length ≤ 1000000000) :
 Calls Tryz.prog 177 #[v] w fun e w' => e = .returned (.tuple #[.string (mapR l).1, .int .i64 (mapR l).2]) ∧ Below w.heap.size w w' := by
 obtain ⟨_, a, cap, rfl, hcap, hmx, hc⟩ := h; obtain ⟨i0, hi, hz0, hz1, hz2⟩ := info_parts Tryz.infoU8i; obtain ⟨Z, hZ, hZ0, hzv⟩ := zero_arr
 have hrow0 : (w.alloc (.cells Z 271)).rowIs w.heap.size 271 8192 (fun k => .int .u8 ((byteS (memB (l.take 0)) k : Nat) : Int)) := by
  have h1 := World.rowIs_alloc w Z 271 (fun _ => .int .u8 0) (fun i hi => hZ0 i (by omega)); rw [hZ] at h1; refine h1.congr (fun i _ => ?_); rw [List.take_zero, byteS_none]; rfl
 have hbel0 : Below w.heap.size w (w.alloc (.cells Z 271)) := (Below.refl _ _).alloc (Nat.le_refl _) _; clear hZ hZ0; go_enter Tryz.func177, Tryz.ntmps177; go_wp2
 go_loopw [12] (fun i wr => ∃ k : Nat, k ≤ l.length ∧ i = .int .i64 k ∧ Hid (∀ t ∈ l.take k, 0 ≤ t ∧ t ≤ 65535) ∧ wr.rowIs w.heap.size 271 8192 (fun j => .int .u8 ((byteS (memB (l.take k)) j : Nat) : Int)) ∧ Below w.heap.size w wr)
  (fun i _ => l.length - (intOf i).toNat)
 case atStart => exact ⟨0, Nat.zero_le _, rfl, by show ∀ t ∈ l.take 0, _; simp, hrow0, hbel0⟩
 case round =>
  obtain ⟨k, hk, rfl, HV, hrow, hbel⟩ := hrel; clear hrow0 hbel0 hzv
  by_cases hlt : k < l.length
  · have hlt' : (k : Int) < (l.length : Int) := by omega
    obtain ⟨t, ht⟩ : ∃ t, l[k]? = some t := ⟨_, List.getElem?_eq_getElem hlt⟩; obtain ⟨b, off, rfl, hcell⟩ := hc (by omega); have hcx0 := hcell k (.int .i64 t) (by simp [intCells, ht]); have hcx : wr.cell? ⟨b, off + k, none⟩ = some (.int .i64 t) := (hbel.cell (World.block_lt_of_cell? w _ hcx0)).trans hcx0
    by_cases hbad : t < 0 ∨ 65535 < t
    · have HR := Nm.hide (mapR_bad ht hbad); clear hc hcell hcx0 ht HV
      by_cases ht0 : t < 0
      · clear hbad; go_wp2; go_ret2; rw [HR.out]; exact ⟨rfl, hbel⟩
      · have ht1 : 65535 < t := by omega
        have ht2 : 0 ≤ t := by omega
        clear hbad; go_wp2; go_ret2; rw [HR.out]; exact ⟨rfl, hbel⟩
    · have ht1 : t ≤ 65535 := by omega
      have ht2 : 0 ≤ t := by omega
      obtain ⟨n, rfl⟩ := Int.eq_ofNat_of_zero_le ht2
      have hS : ∀ j, memB (l.take (k + 1)) j = if j = n then true else memB (l.take k) j := by
       intro j; have := memB_step ht j ht2; simpa using this
      have hix : n / 8 < 8192 := by omega
      have hix' : (n : Int) / 8 < 8192 := by omega
      have hj0 : (0 : Int) ≤ (n : Int) / 8 := by omega
      have htn : ((n : Int) / 8).toNat = n / 8 := by omega
      have hwj : IntKind.i64.wrap ((n : Int) / 8) = (n : Int) / 8 := Go.wrap_small _ (by omega) (by omega); have hwm : IntKind.i64.wrap ((n : Int) % 8) = (n : Int) % 8 := Go.wrap_small _ (by omega) (by omega); have hcn := hrow.cell hix; have hfn := hrow.frozen (n / 8); have hor := or_bit (n := n) hS
      have HROW : Hid ((wr.setCell ⟨w.heap.size, n / 8, none⟩ (.int .u8 (bits .or .u8 ((byteS (memB (l.take k)) (n / 8) : Nat) : Int) ((128 : Int) / 2 ^ (n % 8))))).rowIs w.heap.size 271 8192 (fun j => .int .u8 ((byteS (memB (l.take (k + 1))) j : Nat) : Int))) := by
       refine (hrow.set (n / 8) _).congr (fun j _ => ?_)
       by_cases e : j = n / 8
       · subst e; rw [if_pos rfl, hor]
       · rw [if_neg e, byteS_else hS e]
      have HB : Hid (Below w.heap.size w (wr.setCell ⟨w.heap.size, n / 8, none⟩ (.int .u8 (bits .or .u8 ((byteS (memB (l.take k)) (n / 8) : Nat) : Int) ((128 : Int) / 2 ^ (n % 8)))))) := hbel.setCell (Nat.le_refl _) _
      have HV2 : Hid (∀ t ∈ l.take (k + 1), 0 ≤ t ∧ t ≤ 65535) := by
       show ∀ t ∈ l.take (k + 1), _
       rw [Nm.take_step ht]; intro t' ht'
       rcases List.mem_append.1 ht' with h1 | h1
       · exact HV.out t' h1
       · simp at h1; subst h1; omega
      clear hc hcell hcx0 ht HV hbad hrow hS hor; go_wp2; go_region
      go_wp2; go_roundw
      case rel => exact ⟨k + 1, by omega, by go_num, HV2, HROW.out.drew, HB.out.drew⟩
      case measure => simp [intOf]; omega
  · have hlt' : (l.length : Int) ≤ (k : Int) := by omega
    have hv := HV.out; rw [List.take_of_length_le (by omega)] at hv hrow; have HR := Nm.hide (mapR_good hv); obtain ⟨w1, hw1⟩ : ∃ w1, w1 = wr := ⟨wr, rfl⟩; subst hw1; generalize memB l = S at *; have hg1 := hrow.lt; have hd1 : decide (k < l.length) = false := by simp; omega
    have hd2 : decide ((k : Int) < (l.length : Int)) = false := by simp; omega
    clear hc HV hv hlt; go_wp2
    go_loopw [7, 32] (fun o u wr => ∃ p : Nat, p ≤ 256 ∧ u = .int .i64 p ∧ wr.ownsRow (w.heap.size + 1) 5 1 o (outTo S p).length (Nm.bys (outTo S p)) ∧ wr.rowIs w.heap.size 271 8192 (fun j => .int .u8 ((byteS S j : Nat) : Int)) ∧ Below w.heap.size w wr)
     (fun _ u _ => 256 - (intOf u).toNat)
    case atStart => exact ⟨0, by omega, rfl, World.ownsRow_nil _ _ _ _, hrow, hbel⟩
    case round =>
     obtain ⟨p, hp, rfl, hown, hrow2, hbel2⟩ := hrel; clear hrow hbel hg1; have hg2 := hrow2.lt; have hol := outTo_len S p
     by_cases hpl : p < 256
     · have hpl' : (p : Int) < 256 := by omega
       have hsl0 := arr_slice (g := w.heap.size) hpl; obtain ⟨C, hC, hsl⟩ : ∃ C : Nat, 32 ≤ C ∧ C ≤ 8192 ∧ ∀ W : World, (Instr.sliceAt 271 (.pointer (some ⟨w.heap.size, 0, none⟩)) (some (.int .i64 ((p : Int) * 32))) (some (.int .i64 (((p : Int) + 1) * 32))) none).run Tryz.prog W = .ok (.slice (some ⟨w.heap.size, p * 32, none⟩) 32 C) W := ⟨8192 - p * 32, by omega, by omega, hsl0⟩; obtain ⟨hC2, hsl⟩ := hsl; clear hsl0; go_wp2
       go_loop [9] (fun bv => ∃ m : Nat, m ≤ 32 ∧ bv = .slice (some ⟨w.heap.size, p * 32, none⟩) m C ∧ Hid (blkN S p = trim (fun q => byteS S (32 * p + q)) m))
        (fun bv => match bv with | .slice _ m _ => m | _ => 0)
       case atStart => exact ⟨32, Nat.le_refl _, rfl, rfl⟩
       case round =>
        obtain ⟨m, hm, rfl, HT⟩ := hrel; clear hsl
        by_cases hm0 : m = 0
        · subst hm0; have hN : blkN S p = 0 := HT.out; have HO := Nm.hide (outTo_zero S hN); clear HT hN; go_wp2; go_roundw
          case rel => exact ⟨p + 1, by omega, by go_num, by rw [HO.out]; exact hown, hrow2, hbel2⟩
          case measure => simp [intOf]; omega
        · obtain ⟨q, rfl⟩ : ∃ q, m = q + 1 := ⟨m - 1, by omega⟩; have hq1 : (0 : Int) < (q : Int) + 1 := by omega
          have hcq : wr.cell? ⟨w.heap.size, p * 32 + q, none⟩ = some (.int .u8 ((byteS S (32 * p + q) : Nat) : Int)) := by
           rw [hrow2.cell (i := p * 32 + q) (by omega), show p * 32 + q = 32 * p + q by omega]
          by_cases hz : byteS S (32 * p + q) = 0
          · have HT2 : Hid (blkN S p = trim (fun q => byteS S (32 * p + q)) q) := by show _ = _; rw [HT.out, trim_down (f := fun q => byteS S (32 * p + q)) hz]
            simp only [hz] at hcq; clear HT; go_wp2
            go_round
            case rel => exact ⟨q, by omega, rfl, HT2⟩
            case measure => show q < q + 1; omega
          · have hN : blkN S p = q + 1 := by rw [HT.out, trim_stop (f := fun q => byteS S (32 * p + q)) hz]
            have hbz : (((byteS S (32 * p + q) : Nat) : Int) == 0) = false := by rw [beq_eq_false_iff_ne]; omega
            have hsz2 : w.heap.size + 1 ≤ wr.heap.size := by omega
            have hO := outTo_more S (w := p) (by omega); rw [hN] at hO; have hpb : (UInt8.ofNat p).toNat = p := by simp; omega
            have hqb : (UInt8.ofNat (q + 1)).toNat = q + 1 := by simp; omega
            have hO1 : Nm.bys (outTo S p) ++ [.int .u8 (p : Int), .int .u8 ((q : Int) + 1)] = Nm.bys (outTo S p ++ [UInt8.ofNat p, UInt8.ofNat (q + 1)]) := by
             rw [Nm.bys_append]; simp only [Nm.bys, List.map_cons, List.map_nil, hpb, hqb]; rfl
            have hO2 : Nm.bys (outTo S p ++ [UInt8.ofNat p, UInt8.ofNat (q + 1)]) ++ Nm.bys (blkB S p (q + 1)) = Nm.bys (outTo S (p + 1)) := by
             rw [← Nm.bys_append, hO, List.append_assoc]
            have hlen1 : (outTo S p ++ [UInt8.ofNat p, UInt8.ofNat (q + 1)]).length = (outTo S p).length + 2 := by simp
            have hlen2 : (outTo S (p + 1)).length = (outTo S p).length + 2 + (q + 1) := by rw [hO]; simp [blkB_len]; omega
            have HO1 := Nm.hide hO1; have HO2 := Nm.hide hO2; have HL2 := Nm.hide hlen2; have HB := Nm.hide (blkB_len S p (q + 1)); have hqi : (q : Int) + 1 < 256 := by omega
            clear HT hN hO hO1 hO2 hlen1 hlen2 hz hm0 hpb hqb; generalize (outTo S p).length = N0 at *; generalize outTo S p ++ [UInt8.ofNat p, UInt8.ofNat (q + 1)] = X1 at *; go_wp2_with (at_builtin; refine wpList_append_own _ rfl (.tmp 61) (.tmp 67) 87 rfl (w.heap.size + 1) 5 i0 (.int .u8 0) 1 1 Tryz.underlying87 hi hz0 hz1 hz2 rfl (by decide) _ _ _ rfl (hown.alloc _) ⟨wr.heap.size, 0, none⟩ 2 2 [.int .u8 (p : Int), .int .u8 ((q : Int) + 1)] rfl rfl (cell_new2i _ _ _ _) (by intro u hu; simp at hu; rcases hu with rfl | rfl <;> rfl) (by unfold maxLen; omega) (by omega) (by simp; omega) ?_)
            intro v' w6 hown6 hgrow _; rw [HO1.out] at hown6; have hr6 := arr_apart (hown.alloc _) (hrow2.alloc _) hgrow; have hb6 : Below w.heap.size w w6 := (hbel2.alloc (by omega) _).grown hgrow (by simp; omega) (fun z hz => Nat.le_of_succ_le (hown.lt z hz).1); have hz6 : w.heap.size + 1 ≤ w6.heap.size := by have := hgrow.size; simp at this; omega
            have hnews := arr_news (p := p) (m := q + 1) hr6 hpl (by omega); clear hgrow hown hrow2 hbel2 hcq; go_wp2_with (at_builtin; refine wpList_append_own _ rfl (.tmp 69) (.tmp 70) 87 rfl (w.heap.size + 1) 5 i0 (.int .u8 0) 1 1 Tryz.underlying87 hi hz0 hz1 hz2 rfl (by decide) _ _ _ rfl hown6 ⟨w.heap.size, p * 32, none⟩ (q + 1) C (Nm.bys (blkB S p (q + 1))) rfl (by rw [Nm.bys_length, HB.out, Nat.mul_one]) hnews (fun u hu => bys_oneT hu) (by unfold maxLen; omega) (by omega) hz6 ?_)
            intro v7 w7 hown7 hgrow7 _; rw [HO2.out] at hown7; have hr7 := arr_apart hown6 hr6 hgrow7; have hb7 : Below w.heap.size w w7 := hb6.grown hgrow7 (by omega) (fun z hz => Nat.le_of_succ_le (hown6.lt z hz).1); clear hgrow7 hown6 hr6 hb6; go_wp2; go_roundw
            case rel => exact ⟨p + 1, by omega, by go_num, by rw [HL2.out]; exact hown7, hr7, hb7⟩
            case measure => simp [intOf]; omega
     · have hpl' : (256 : Int) ≤ (p : Int) := by omega
       obtain rfl : p = 256 := by omega
       by_cases hn0 : (outTo S 256).length = 0
       · have he : outTo S 256 = [] := List.length_eq_zero_iff.1 hn0; have HE : Hid ((⟨(outTo S 256).toArray⟩ : ByteArray) = ⟨#[]⟩) := by show _ = _; rw [he]
         rcases hown.2 with ⟨rfl, _⟩ | ⟨g, cp, cur, rfl, _, _, h1, h2, _⟩
         · have hcv := nil_str wr; clear hown hn0 he; go_wp2; go_ret2; rw [HR.out, HE.out]; exact ⟨rfl, hbel2⟩
         · have hcv := run_convert_bytes_back (P := Tryz.prog) wr 87 9 5 ⟨g, 0, none⟩ cp [] Tryz.underlying87 Tryz.underlying5 Tryz.underlying9 (by intro j hj; simp at hj); rw [hn0]; have hcv : (convert 87 9 (.slice (some ⟨g, 0, none⟩) 0 cp)).run Tryz.prog wr = .ok (.string ⟨#[]⟩) wr := hcv; clear hown hn0 he; go_wp2; go_ret2; rw [HR.out, HE.out]; exact ⟨rfl, hbel2⟩
       · obtain ⟨g, cp, rfl, hcv⟩ := Nm.conv_own (P := Tryz.prog) (src := 87) (dst := 9) Tryz.underlying87 Tryz.underlying5 Tryz.underlying9 hown (by omega); obtain ⟨R, HRR, hcv⟩ : ∃ R, Hid (R = (⟨(outTo S 256).toArray⟩ : ByteArray)) ∧ (convert 87 9 (.slice (some ⟨g, 0, none⟩) (outTo S 256).length cp)).run Tryz.prog wr = .ok (.string R) wr := ⟨_, rfl, hcv⟩; clear hown hn0; go_wp2; go_ret2; rw [HR.out, ← HRR.out]; exact ⟨rfl, hbel2⟩
end Go.Proofs.YtddabafaejahbaaGreatDoor
/- impl.readTypes by its contract; the readers of forms. -/
namespace Go.Proofs.YtddabafaejahbaaGreatDoor
open Go.RowKit
set_option linter.unusedVariables false
theorem Tryz.infoI64r : (Tryz.prog.info? 2).map (fun i => (i.zero, i.size, i.bytes)) = some (some (.int .i64 0), 1, 8) := by kernel_rfl
/-- The types that words tell. -/
def tysR : List Wrd → List Int → Except Int (List Int)
 | [], ts => .ok ts
 | x :: r, ts => if x.2 = true then .error 15 else if (readTyS x.1).2 ≠ 0 then .error (readTyS x.1).2 else tysR r (ts ++ [(readTyS x.1).1])
def tysE : Except Int (List Int) → ByteArray × Int
 | .error c => (⟨#[]⟩, c)
 | .ok l => mapR l
set_option maxRecDepth 100000 in
set_option maxHeartbeats 4000000 in
theorem readTypes_any (v : Value) (ws : List Wrd) (w : World) (h : CRow w v ws.length 2 (wdVs ws)) (hn : ws.length ≤ 300) (hz : wsz ws ≤ 1048576) (hM : MnemAt w) :
 Calls Tryz.prog 130 #[v] w fun e w' => e = .returned (strV (tysE (tysR ws []))) ∧ Below w.heap.size w w' := by
 obtain ⟨i0, hi, hz0, hz1, hz2⟩ := info_parts Tryz.infoI64r; obtain ⟨R, HR⟩ : ∃ R, Hid (R = tysE (tysR ws [])) := ⟨_, rfl⟩; rw [← HR.out]; obtain ⟨_, a, cap, rfl, hcap, hmx, hcc⟩ := h; have HCC := Nm.hide hcc; have HM := Nm.hide hM; have HZ := Nm.hide hz; have HST : Hid (R = tysE (tysR (ws.drop 0) [])) := HR; clear hcc hM hz HR; go_enter Tryz.func130, Tryz.ntmps130; go_wp2
 go_loopw [4, 11] (fun v i wr => ∃ (k : Nat) (l : List Int), k ≤ ws.length ∧ i = .int .i64 k ∧ Hid (l.length = k) ∧ Hid (R = tysE (tysR (ws.drop k) l)) ∧ wr.ownsRow w.heap.size 2 1 v l.length (intCells l) ∧ Below w.heap.size w wr) (fun _ i _ => ws.length - (intOf i).toNat)
 case atStart => exact ⟨0, [], Nat.zero_le _, rfl, rfl, HST, World.ownsRow_nil _ _ _ _, Below.refl _ _⟩
 case round =>
  obtain ⟨k, l, hk, rfl, HLK, HA, hown, hbel⟩ := hrel; clear HST; have hsz := hbel.size
  by_cases hlt : k < ws.length
  · obtain ⟨x, hx⟩ : ∃ x, ws[k]? = some x := ⟨_, List.getElem?_eq_getElem hlt⟩; obtain ⟨b, off, rfl, hcell⟩ := HCC.out (by omega); have put : ∀ {g O : Nat} {z : Value}, w.cell? ⟨g, O, none⟩ = some z → wr.cell? ⟨g, O, none⟩ = some z := fun h => (hbel.cell (World.block_lt_of_cell? w _ h)).trans h
    have c0 : wr.cell? ⟨b, off + k * 2, none⟩ = some (.string x.1) := put (hcell _ _ (wdVs_at ws k 0 x hx (by decide))); have c1 : wr.cell? ⟨b, off + k * 2 + 1, none⟩ = some (.bool x.2) := put (hcell _ _ (wdVs_at ws k 1 x hx (by decide))); have i1 : (0 : Int) ≤ (k : Int) := by omega
    have i2 : (k : Int) < (ws.length : Int) := by omega
    have hxz := wsz_mem (List.mem_of_getElem? hx); have hzz := HZ.out; have hB1 := hbel.alloc hsz (.cells #[.string x.1, .bool x.2] 40); have hl3 : l.length ≤ 300 := by have := HLK.out; omega
    have hstep := HA.out; rw [drop_at hx, tysR] at hstep; have hT := fun W (hW : Below w.heap.size w W) => implReadType_any x.1 W (by omega) (HM.out.below hW)
    generalize hty : readTyS x.1 = T at *; clear hty; unfold pairV at hT; have hown1 := hown.alloc (.cells #[.string x.1, .bool x.2] 40)
    cases hq : x.2 with
    | true =>
      rw [hq] at c1; rw [hq, if_pos rfl] at hstep; have HN := Nm.hide hstep; clear hstep hcell put hx HA hT; go_wp2; go_ret2; rw [HN.out]
      exact ⟨rfl, hbel.alloc hsz _⟩
    | false =>
      rw [hq] at c1 hB1 hown1; rw [hq, if_neg (by decide)] at hstep
      by_cases h0 : T.2 = 0
      · rw [if_neg (by simpa using h0)] at hstep; have HN := Nm.hide hstep; rw [h0] at hT; clear hstep hcell put hx HA hq; generalize T.1 = t at *; go_wp2_with (first | (go_at_call 176; refine (hT _ hB1).mono ?_; rintro e w2 ⟨rfl, hb2⟩; have hown2 := own_below hown1 hb2; have hbel2 := Nm.below_two hB1 hb2; have hsz2 := hbel2.size) | (at_builtin; refine wpList_append_own _ rfl (.tmp 26) (.tmp 28) 44 rfl w.heap.size 2 i0 (.int .i64 0) 1 8 Tryz.underlying44 hi hz0 hz1 hz2 rfl (by decide) _ _ _ rfl (hown2.alloc _) ⟨w2.heap.size, 0, none⟩ 1 1 [.int .i64 t] rfl rfl (cell_new1 _ _ _) (Nm.one_cell _ rfl) (by unfold maxLen; omega) (by omega) (by simp; omega) ?_))
        intro v' w4 hown' hgrow _; have o4 : w4.ownsRow w.heap.size 2 1 v' (l ++ [t]).length (intCells (l ++ [t])) := by simpa [intCells] using hown'
        have b4 : Below w.heap.size w w4 := (hbel2.alloc hsz2 _).grown hgrow (by simp; omega) (fun q hq => (hown2.lt q hq).1); have HL4 : Hid ((l ++ [t]).length = k + 1) := by show _ = _; simp [HLK.out]
        clear hown' hgrow hown hbel; go_wp2; go_roundw
        case rel => exact ⟨k + 1, l ++ [t], by omega, by go_num, HL4, HN, o4, b4⟩
        case measure => simp [intOf]; omega
      · rw [if_pos h0] at hstep; have HN := Nm.hide hstep; have h0' : (T.2 == 0) = false := by simpa using h0
        clear hstep hcell put hx HA hq h0; go_wp2_with (go_at_call 176; refine (hT _ hB1).mono ?_; rintro e w2 ⟨rfl, hb2⟩)
        go_ret2; rw [HN.out]; exact ⟨rfl, Nm.below_two hB1 hb2⟩
  · have hkl : k = ws.length := by omega
    subst hkl; have i2 : ¬ (ws.length : Int) < (ws.length : Int) := by omega
    have HE : Hid (R = mapR l) := by show _ = _; rw [HA.out, List.drop_length, tysR, tysE]
    have hT := fun u W (hW : CRow W u l.length 1 (intCells l)) => implTypeMap_any u l W hW (by have := HLK.out; omega)
    have hcr := CRow.of_owns hown; clear HA HCC; go_wp2_with (go_at_call 177; refine (hT _ _ hcr).mono ?_; rintro e w2 ⟨rfl, hb2⟩)
    go_ret2; rw [HE.out]; exact ⟨rfl, Nm.below_two hbel hb2⟩
/-- Just these words. -/
def justR (ks : List Nat) (ws : List Wrd) (o : ByteArray) : ByteArray × Int := if ws.length ≠ ks.length then (⟨#[]⟩, 15) else eachS o ks ws ⟨#[]⟩
set_option maxRecDepth 100000 in
set_option maxHeartbeats 800000 in
theorem justRead_any (ks : List Nat) (ws : List Wrd) (o : ByteArray) (gc gf cap : Nat) (v : Value) (w : World) (hgc : w.cell? ⟨gc, 0, none⟩ = some (.slice (some ⟨gf, 0, none⟩) ks.length cap)) (hf : RForms w gf ks) (hv : CRow w v ws.length 2 (wdVs ws)) (hnm : ws.length ≤ 300) (hok : ∀ K ∈ ks, kindOK K) (hz : wsz ws ≤ 1048576) (ho : o.size ≤ 1048576) (hs : Reads w) :
 Calls Tryz.prog 110 #[v, .string o, .pointer (some ⟨gc, 0, none⟩)] w fun e w' => e = .returned (strV (justR ks ws o)) ∧ Below w.heap.size w w' := by
 by_cases hn : ks.length = ws.length
 · have hre := readEach_any ks ws o gf cap v w hf hv hn hnm hok hz ho hs; have hr : justR ks ws o = eachS o ks ws ⟨#[]⟩ := by rw [justR, if_neg (by omega)]
   rw [hr]; obtain ⟨_, av, cv, rfl, hcap, hmx, hcc⟩ := hv; have d1 : ((ws.length : Int) == (ks.length : Int)) = true := by rw [beq_iff_eq]; omega
   clear hr hn hcc hf hs hok; generalize eachS o ks ws ⟨#[]⟩ = R at *; unfold strV at *; go_enter Tryz.func110, Tryz.ntmps110; go_wp2_with (go_at_call 111; refine hre.mono ?_; rintro e w1 ⟨rfl, hb1⟩)
   go_ret2; exact ⟨rfl, hb1⟩
 · have hr : justR ks ws o = (⟨#[]⟩, 15) := by rw [justR, if_pos (by omega)]
   rw [hr]; obtain ⟨_, av, cv, rfl, hcap, hmx, hcc⟩ := hv; have d1 : ((ws.length : Int) == (ks.length : Int)) = false := by rw [beq_eq_false_iff_ne]; omega
   clear hr hn hcc hf hs hok; go_enter Tryz.func110, Tryz.ntmps110; go_wp2; go_ret2; exact ⟨rfl, Below.refl _ _⟩
/-- The words behind the first. -/
theorem wd_tail {w : World} {b off cap : Nat} {x : Wrd} {ws : List Wrd} (h : CRow w (.slice (some ⟨b, off, none⟩) (ws.length + 1) cap) (ws.length + 1) 2 (wdVs (x :: ws))) :
 ws.length + 1 ≤ cap ∧ CRow w (.slice (some ⟨b, off + 2, none⟩) ws.length (cap - 1)) ws.length 2 (wdVs ws) ∧ (cap = 1 → CRow w (.slice (some ⟨b, off, none⟩) 0 0) ws.length 2 (wdVs ws)) := by
 obtain ⟨hl, a, c, e, hcap, hmx, hc⟩ := h; cases e
 refine ⟨hcap, ⟨by rw [wdVs_len], _, _, rfl, by omega, by omega, fun hp => ⟨b, off + 2, rfl, ?_⟩⟩, fun h1 => ?_⟩
 · obtain ⟨b', off', e, hcell⟩ := hc (by omega); cases e
   intro i y hy
   have := hcell (2 + i) y (by
    show (wdV x ++ wdVs ws)[2 + i]? = some y
    rw [List.getElem?_append_right (by simp [wdV]), show 2 + i - (wdV x).length = i by simp [wdV]]
    exact hy)
   rw [← Nat.add_assoc] at this; exact this
 · have h0 : ws.length = 0 := by omega
   have e0 : ws = [] := List.length_eq_zero_iff.1 h0; subst e0; exact ⟨rfl, _, 0, rfl, Nat.le_refl _, by decide, fun h => absurd h (by simp)⟩
theorem wrap_u (n : Nat) (h : n ≤ 300) : IntKind.u64.wrap (n : Int) = (n : Int) := by
 have e : (n : Int) % 2 ^ 64 = (n : Int) := by omega
 simp [IntKind.wrap, IntKind.bits, IntKind.signed]
 omega
theorem and_u (n : Nat) (h : n ≤ 300) : bits .and .u64 (n : Int) 4294967295 = (n : Int) := by
 show IntKind.u64.wrap ((BitVec.ofInt 64 (n : Int) &&& BitVec.ofInt 64 4294967295).toNat : Int) = _
 have e2 : (BitVec.ofInt 64 4294967295).toNat = 2 ^ 32 - 1 := by decide
 have e1 : (BitVec.ofInt 64 (n : Int)).toNat = n := by rw [BitVec.toNat_ofInt]; omega
 rw [BitVec.toNat_and, e2, Nat.and_two_pow_sub_one_eq_mod, e1, Nat.mod_eq_of_lt (by omega)]; exact wrap_u n h
set_option maxRecDepth 100000 in
set_option maxHeartbeats 800000 in
theorem mul64_one (n : Nat) (w : World) (hn : n ≤ 300) : Calls Tryz.prog 209 #[.int .u64 1, .int .u64 (n : Int)] w fun e w' => e = .returned (.tuple #[.int .u64 0, .int .u64 (n : Int)]) ∧ w' = w := by
 have a1 : (n : Int) / 4294967296 = 0 := by omega
 have a2 : (n : Int) ≤ 300 := by omega
 have a3 : bits .and .u64 (n : Int) 4294967295 = (n : Int) := and_u n hn; have a4 : bits .and .u64 1 4294967295 = 1 := by decide
 have a5 : bits .and .u64 0 4294967295 = 0 := by decide
 have a6 : IntKind.u64.wrap (n : Int) = (n : Int) := wrap_u n hn; have a7 : IntKind.u64.wrap 0 = 0 := by decide
 go_enter Tryz.func209, Tryz.ntmps209; go_wp2; go_ret2; exact ⟨rfl, rfl⟩
set_option maxRecDepth 100000 in
set_option maxHeartbeats 800000 in
theorem mul_one_any (n : Nat) (w : World) (hn : n ≤ 300) : Calls Tryz.prog 174 #[.int .u64 1, .int .u64 (n : Int)] w fun e w' => e = .returned (.tuple #[.int .u64 0, .int .u64 (n : Int)]) ∧ w' = w := by
 have h1 := fun W => mul64_one n W hn
 have a2 : (n : Int) ≤ 300 := by omega
 go_enter Tryz.func174, Tryz.ntmps174; go_wp2_with (go_at_call 209; refine (h1 _).mono ?_; rintro e w1 ⟨rfl, hw⟩; obtain rfl := hw.symm; clear hw)
 go_ret2; exact ⟨rfl, rfl⟩
theorem run_copy_rowK {P : Program} (w : World) (dT sT ty elem : TypeId) (g o dLen dCap : Nat) (a : Addr) (sLen sCap : Nat) (cur : Array Value) (t : TypeId) (cs : List Value) (sz : Nat)
 (hu : P.underlying dT = some (.slice elem)) (hs : (P.info? elem).map (·.size) = some sz)
 (hg : w.heap[g]? = some (.cells cur t (0, 0))) (hn : cs.length = Nat.min sLen dLen * sz)
 (hsrc : ∀ j v, cs[j]? = some v → w.cell? (a.add j) = some v) (hfit : o + cs.length ≤ cur.size) (h1 : ∀ v ∈ cs, v.oneCell' = true) :
 (Builtin.copy_ #[dT, sT] ty #[.slice (some ⟨g, o, none⟩) dLen dCap, .slice (some a) sLen sCap]).run P w =
  .ok (goInt (Nat.min sLen dLen)) (w.setRow g (cur.toList.take o ++ cs ++ cur.toList.drop (o + cs.length)).toArray) := by
 have hl := run_loadCells_list (P := P) w a cs hsrc; have hst := run_storeCells_at P g o t cs 0 cur w hg (by simpa using hfit) h1
 cases hq : P.info? elem with
 | none => simp [hq] at hs
 | some i =>
   have hi : i.size = sz := by simpa [hq] using hs
   simp [Builtin.copy_, run_underlying hu, Builtin.lenOf, Builtin.firstCells, sizeOf, typeInfo, hq, hi, ← hn, hl, hst]
theorem setRow_blk {w : World} {g : Nat} {cur : Array Value} {t : TypeId} (hg : Blk w g cur t) (cs : Array Value) : Blk (w.setRow g cs) g cs t := by
 unfold Blk at *; have hlt := (Array.getElem?_eq_some_iff.1 hg).1; have he := (Array.getElem?_eq_some_iff.1 hg).2; simp [World.setRow, Array.getElem?_modify, hg]
theorem setRow_size (w : World) (g : Nat) (cs : Array Value) : (w.setRow g cs).heap.size = w.heap.size := by simp [World.setRow]
theorem setRow_grown (w : World) (g : Nat) (cs : Array Value) : w.grownBy (w.setRow g cs) (some g) :=
 ⟨rfl, rfl, rfl, by rw [setRow_size]; exact Nat.le_refl _, fun k hk hne => setRow_other w g k cs (fun e => hne (by rw [e]))⟩
end Go.Proofs.YtddabafaejahbaaGreatDoor
