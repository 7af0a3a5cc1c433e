/- WithSerial, the program's and the model's, by their contracts. -/
import Derived.Test.YtakonfkefoeenafBig
import Derived.Test.YtakonfkefoeenafSer2
import Derived.Deep.RegionHeld3
namespace Go.Proofs.Ytakonfkefoeenaf
open Go.RowKit
set_option linter.unusedVariables false

def withS (d : ByteArray) (n : Int) : ByteArray := (d.extract 0 (d.size - 20) ++ ⟨(put4 n).toArray⟩) ++ d.extract (d.size - 16) d.size
def withR (d : ByteArray) (n : Int) : ByteArray × Int :=
  if cutCode 6 d = 0 then (if n < 0 ∨ 4294967295 < n then (⟨#[]⟩, 32) else (withS d n, 0)) else (⟨#[]⟩, 7)

theorem with_bad {d : ByteArray} {n : Int} (h : cutCode 6 d ≠ 0) : withR d n = (⟨#[]⟩, 7) := by rw [withR, if_neg h]
theorem with_form {d : ByteArray} {n : Int} (h : cutCode 6 d = 0) (h1 : n < 0 ∨ 4294967295 < n) : withR d n = (⟨#[]⟩, 32) := by rw [withR, if_pos h, if_pos h1]
theorem with_good {d : ByteArray} {n : Int} (h : cutCode 6 d = 0) (h1 : ¬ (n < 0 ∨ 4294967295 < n)) : withR d n = (withS d n, 0) := by rw [withR, if_pos h, if_neg h1]

set_option maxRecDepth 100000 in
set_option maxHeartbeats 800000 in
theorem specWithSerial_any (d : ByteArray) (n : Int) (w : World) (hd : d.size ≤ 2000000) :
    Calls Try.prog 10 #[.string d, .int .i64 n] w fun e w' => e = .returned (.tuple #[.string (withR d n).1, .int .i64 (withR d n).2]) ∧ Below w.heap.size w w' := by
  have hcall := fun w => specCheckData_any 6 d w
  by_cases hq : cutCode 6 d = 0
  · have hz := soa_size hq
    rw [hq] at hcall
    by_cases hn : n < 0 ∨ 4294967295 < n
    · have HR := Nm.hide (with_form hq hn)
      clear hq
      by_cases hn0 : n < 0
      · clear hn
        go_enter Try.func10, Try.ntmps10
        go_wp2_with (go_at_call 26; refine (hcall _).mono ?_; rintro e w1 ⟨rfl, hb1⟩)
        go_ret2
        rw [HR.out]
        exact ⟨rfl, hb1⟩
      · have hn1 : 4294967295 < n := by omega
        have hn2 : 0 ≤ n := by omega
        clear hn
        go_enter Try.func10, Try.ntmps10
        go_wp2_with (go_at_call 26; refine (hcall _).mono ?_; rintro e w1 ⟨rfl, hb1⟩)
        go_ret2
        rw [HR.out]
        exact ⟨rfl, hb1⟩
    · have HR := Nm.hide (with_good hq hn)
      have hn0 : 0 ≤ n := by omega
      have hn1 : n ≤ 4294967295 := by omega
      have hput := fun w => l02Put_any n w hn0 hn1
      have h1 : (20 : Int) ≤ (d.size : Int) := by omega
      have h2 : (16 : Int) ≤ (d.size : Int) := by omega
      have h3 : 20 ≤ d.size := by omega
      have h4 : 16 ≤ d.size := by omega
      have b1 : (0 : Int) ≤ (d.size : Int) - 20 := by omega
      have b2 : (d.size : Int) - 20 ≤ (d.size : Int) := by omega
      have b3 : (0 : Int) ≤ (d.size : Int) - 16 := by omega
      have b4 : (d.size : Int) - 16 ≤ (d.size : Int) := by omega
      have hw1 : IntKind.i64.wrap ((d.size : Int) - 20) = (d.size : Int) - 20 := Go.wrap_small _ (by omega) (by omega)
      have hw2 : IntKind.i64.wrap ((d.size : Int) - 16) = (d.size : Int) - 16 := Go.wrap_small _ (by omega) (by omega)
      have hS : Hid (withS d n = (d.extract 0 (d.size - 20) ++ ⟨(put4 n).toArray⟩) ++ d.extract (d.size - 16) d.size) := rfl
      have hp4 : (⟨(put4 n).toArray⟩ : ByteArray).size = 4 := rfl
      generalize (⟨(put4 n).toArray⟩ : ByteArray) = P4 at *
      have hs1 : ∀ w, (Go.Op.stringOp .add (d.extract 0 (d.size - 20)) P4).run Try.prog w = .ok (.string (d.extract 0 (d.size - 20) ++ P4)) w := fun w => run_string_add_sum w _ _ (by simp; omega)
      have hs2 : ∀ w, (Go.Op.stringOp .add (d.extract 0 (d.size - 20) ++ P4) (d.extract (d.size - 16) d.size)).run Try.prog w = .ok (.string (d.extract 0 (d.size - 20) ++ P4 ++ d.extract (d.size - 16) d.size)) w := fun w => run_string_add_sum w _ _ (by simp; omega)
      have hs3 : ∀ w, (Go.Op.stringOp .add (d.extract 0 ((d.size : Int) - 20).toNat) P4).run Try.prog w = .ok (.string (d.extract 0 (d.size - 20) ++ P4)) w := fun w => by rw [show ((d.size : Int) - 20).toNat = d.size - 20 by omega]; exact hs1 w
      have hs4 : ∀ w, (Go.Op.stringOp .add (d.extract 0 (d.size - 20) ++ P4) (d.extract ((d.size : Int) - 16).toNat d.size)).run Try.prog w = .ok (.string (d.extract 0 (d.size - 20) ++ P4 ++ d.extract (d.size - 16) d.size)) w := fun w => by rw [show ((d.size : Int) - 16).toNat = d.size - 16 by omega]; exact hs2 w
      have hput2 : ∀ W : World, Below w.heap.size w W → Calls Try.prog 30 #[.int .i64 n, .int .i64 4] W fun e w' => e = .returned (.string P4) ∧ Below w.heap.size w w' := by
        intro W hS
        refine (hput W).mono ?_
        rintro e w' ⟨rfl, hb⟩
        exact ⟨rfl, Nm.below_two hS hb⟩
      clear hput
      clear hq hn
      go_enter Try.func10, Try.ntmps10
      go_wp2_with (go_at_call 26; refine (hcall _).mono ?_; rintro e w1 ⟨rfl, hb1⟩)
      have hS0 : Below w.heap.size w w1.drew := hb1.drew
      go_region_held3 (fun w' => Below w.heap.size w w') (first | assumption | exact hS0) ((first | (go_at_call 30; refine (hput2 _ (by first | assumption | exact hS0)).mono ?_; rintro e w' ⟨rfl, hS1⟩)))
      go_wp2
      go_ret2
      rw [HR.out, hS.out]
      exact ⟨rfl, hS1⟩
  · have HR := Nm.hide (with_bad (n := n) hq)
    have hb : (cutCode 6 d != 0) = true := by rw [bne_iff_ne]; exact hq
    generalize cutCode 6 d = c at *
    clear hq
    go_enter Try.func10, Try.ntmps10
    go_wp2_with (go_at_call 26; refine (hcall _).mono ?_; rintro e w1 ⟨rfl, hb1⟩)
    go_ret2
    rw [HR.out]
    exact ⟨rfl, hb1⟩

set_option maxRecDepth 100000 in
set_option maxHeartbeats 800000 in
theorem implWithSerial_any (d : ByteArray) (n : Int) (w : World) (hd : d.size ≤ 2000000) :
    Calls Try.prog 11 #[.string d, .int .i64 n] w fun e w' => e = .returned (.tuple #[.string (withR d n).1, .int .i64 (withR d n).2]) ∧ Below w.heap.size w w' := by
  have hcall := fun w => implCheckData_any 6 d w hd
  by_cases hq : cutCode 6 d = 0
  · have hz := soa_size hq
    rw [hq] at hcall
    by_cases hn : n < 0 ∨ 4294967295 < n
    · have HR := Nm.hide (with_form hq hn)
      clear hq
      by_cases hn0 : n < 0
      · clear hn
        go_enter Try.func11, Try.ntmps11
        go_wp2_with (go_at_call 28; refine (hcall _).mono ?_; rintro e w1 ⟨rfl, hb1⟩)
        go_ret2
        rw [HR.out]
        exact ⟨rfl, hb1⟩
      · have hn1 : 4294967295 < n := by omega
        have hn2 : 0 ≤ n := by omega
        clear hn
        go_enter Try.func11, Try.ntmps11
        go_wp2_with (go_at_call 28; refine (hcall _).mono ?_; rintro e w1 ⟨rfl, hb1⟩)
        go_ret2
        rw [HR.out]
        exact ⟨rfl, hb1⟩
    · have HR := Nm.hide (with_good hq hn)
      have hn0 : 0 ≤ n := by omega
      have hn1 : n ≤ 4294967295 := by omega
      have hput := fun w => bigBytes4_any n w hn0 hn1
      have h1 : (20 : Int) ≤ (d.size : Int) := by omega
      have h2 : (16 : Int) ≤ (d.size : Int) := by omega
      have h3 : 20 ≤ d.size := by omega
      have h4 : 16 ≤ d.size := by omega
      have b1 : (0 : Int) ≤ (d.size : Int) - 20 := by omega
      have b2 : (d.size : Int) - 20 ≤ (d.size : Int) := by omega
      have b3 : (0 : Int) ≤ (d.size : Int) - 16 := by omega
      have b4 : (d.size : Int) - 16 ≤ (d.size : Int) := by omega
      have hw1 : IntKind.i64.wrap ((d.size : Int) - 20) = (d.size : Int) - 20 := Go.wrap_small _ (by omega) (by omega)
      have hw2 : IntKind.i64.wrap ((d.size : Int) - 16) = (d.size : Int) - 16 := Go.wrap_small _ (by omega) (by omega)
      have hS : Hid (withS d n = (d.extract 0 (d.size - 20) ++ ⟨(put4 n).toArray⟩) ++ d.extract (d.size - 16) d.size) := rfl
      have hp4 : (⟨(put4 n).toArray⟩ : ByteArray).size = 4 := rfl
      generalize (⟨(put4 n).toArray⟩ : ByteArray) = P4 at *
      have hs1 : ∀ w, (Go.Op.stringOp .add (d.extract 0 (d.size - 20)) P4).run Try.prog w = .ok (.string (d.extract 0 (d.size - 20) ++ P4)) w := fun w => run_string_add_sum w _ _ (by simp; omega)
      have hs2 : ∀ w, (Go.Op.stringOp .add (d.extract 0 (d.size - 20) ++ P4) (d.extract (d.size - 16) d.size)).run Try.prog w = .ok (.string (d.extract 0 (d.size - 20) ++ P4 ++ d.extract (d.size - 16) d.size)) w := fun w => run_string_add_sum w _ _ (by simp; omega)
      have hs3 : ∀ w, (Go.Op.stringOp .add (d.extract 0 ((d.size : Int) - 20).toNat) P4).run Try.prog w = .ok (.string (d.extract 0 (d.size - 20) ++ P4)) w := fun w => by rw [show ((d.size : Int) - 20).toNat = d.size - 20 by omega]; exact hs1 w
      have hs4 : ∀ w, (Go.Op.stringOp .add (d.extract 0 (d.size - 20) ++ P4) (d.extract ((d.size : Int) - 16).toNat d.size)).run Try.prog w = .ok (.string (d.extract 0 (d.size - 20) ++ P4 ++ d.extract (d.size - 16) d.size)) w := fun w => by rw [show ((d.size : Int) - 16).toNat = d.size - 16 by omega]; exact hs2 w
      have b5 : (0 : Int) ≤ (d.size : Int) - 20 + 4 := by omega
      have b6 : (d.size : Int) - 20 + 4 ≤ (d.size : Int) := by omega
      have hw3 : IntKind.i64.wrap ((d.size : Int) - 20 + 4) = (d.size : Int) - 20 + 4 := Go.wrap_small _ (by omega) (by omega)
      have hs5 : ∀ w, (Go.Op.stringOp .add (d.extract 0 (d.size - 20) ++ P4) (d.extract ((d.size : Int) - 20 + 4).toNat d.size)).run Try.prog w = .ok (.string (d.extract 0 (d.size - 20) ++ P4 ++ d.extract (d.size - 16) d.size)) w := fun w => by rw [show ((d.size : Int) - 20 + 4).toNat = d.size - 16 by omega]; exact hs2 w
      have hs6 : ∀ w, (Go.Op.stringOp .add (d.extract 0 (d.size - 20) ++ P4) (d.extract (d.size - 20 + 4) d.size)).run Try.prog w = .ok (.string (d.extract 0 (d.size - 20) ++ P4 ++ d.extract (d.size - 16) d.size)) w := fun w => by rw [show d.size - 20 + 4 = d.size - 16 by omega]; exact hs2 w
      have hput2 : ∀ W : World, Below w.heap.size w W → Calls Try.prog 31 #[.int .i64 n, .int .i64 4] W fun e w' => e = .returned (.string P4) ∧ Below w.heap.size w w' := by
        intro W hS
        refine (hput W).mono ?_
        rintro e w' ⟨rfl, hb⟩
        exact ⟨rfl, Nm.below_two hS hb⟩
      clear hput
      clear hq hn
      go_enter Try.func11, Try.ntmps11
      go_wp2_with (go_at_call 28; refine (hcall _).mono ?_; rintro e w1 ⟨rfl, hb1⟩)
      have hS0 : Below w.heap.size w w1.drew := hb1.drew
      go_region_held3 (fun w' => Below w.heap.size w w') (first | assumption | exact hS0) ((first | (go_at_call 31; refine (hput2 _ (by first | assumption | exact hS0)).mono ?_; rintro e w' ⟨rfl, hS1⟩)))
      go_wp2
      go_ret2
      rw [HR.out, hS.out]
      exact ⟨rfl, hS1⟩
  · have HR := Nm.hide (with_bad (n := n) hq)
    have hb : (cutCode 6 d != 0) = true := by rw [bne_iff_ne]; exact hq
    generalize cutCode 6 d = c at *
    clear hq
    go_enter Try.func11, Try.ntmps11
    go_wp2_with (go_at_call 28; refine (hcall _).mono ?_; rintro e w1 ⟨rfl, hb1⟩)
    go_ret2
    rw [HR.out]
    exact ⟨rfl, hb1⟩
end Go.Proofs.Ytakonfkefoeenaf
