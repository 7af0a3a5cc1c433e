/- SameName, the program's and the model's, by their contracts. -/
import Derived.Test.YthaddbobochjhadCmp
import Derived.Test.YthaddbobochjhadFold
namespace Go.Proofs.Ythaddbobochjhad
open Go.RowKit

theorem bless_self : ∀ l : List UInt8, Op.bytesLess l l = false := by
  intro l
  induction l with
  | nil => rfl
  | cons x l ih => simp [Op.bytesLess, ih]

theorem ordL_zero (a b : List UInt8) : Nm.ordL a b = 0 ↔ a = b := by
  constructor
  · intro h
    by_cases h1 : Op.bytesLess a b = true
    · rw [Nm.ordL, if_pos h1] at h; omega
    · rw [Nm.ordL, if_neg h1] at h
      by_cases h2 : a = b
      · exact h2
      · rw [if_neg h2] at h; omega
  · intro h
    subst h
    rw [Nm.ordL, if_neg (by simp [bless_self]), if_pos rfl]

def sameS (a b : ByteArray) : Bool := (Nm.split a).isSome && (Nm.split b).isSome && decide (Nm.ordS a b = 0)

theorem same_left {a b : ByteArray} (h : Nm.split a = none) : sameS a b = false := by simp [sameS, h]
theorem same_right {a b : ByteArray} (h : Nm.split b = none) : sameS a b = false := by simp [sameS, h]
theorem same_some {a b : ByteArray} {xs ys : List ByteArray} (ha : Nm.split a = some xs) (hb : Nm.split b = some ys) : sameS a b = decide (Nm.ordS a b = 0) := by simp [sameS, ha, hb]

theorem small_pos {a : ByteArray} {xs : List ByteArray} (h : Nm.split a = some xs) : (Nm.small a).toList.isEmpty = false := by
  apply Nm.tl_not_empty
  rw [Nm.small_size]
  have := Nm.split_size h
  omega

theorem small_eq (a b : ByteArray) : ((Nm.small a).toList == (Nm.small b).toList) = decide (Nm.ordS a b = 0) := by
  rw [Bool.eq_iff_iff]
  simp only [beq_iff_eq, decide_eq_true_eq, Nm.ordS, ordL_zero]
  rw [ByteArray.toList_eq, ByteArray.toList_eq, Nm.small_data, Nm.small_data]

set_option maxRecDepth 100000 in
set_option maxHeartbeats 800000 in
theorem implSameName_any (a b : ByteArray) (w : World) (ha : a.size ≤ maxLen) (hb : b.size ≤ maxLen) :
    Calls Try.prog 5 #[.string a, .string b] w fun e w' => e = .returned (.bool (sameS a b)) ∧ Below w.heap.size w w' := by
  have hsa := implNameOK_any a w ha
  have hsb := fun W => implNameOK_any b W hb
  cases hqa : Nm.split a with
  | none =>
    have HA := Nm.hide (same_left (b := b) hqa)
    rw [hqa] at hsa
    clear hqa
    go_enter Try.func5, Try.ntmps5
    go_wp2_with fail
    refine hsa.mono ?_
    rintro e w1 ⟨rfl, hbel⟩
    go_wp2
    go_ret
    rw [HA.out]
    exact ⟨rfl, hbel⟩
  | some xs =>
    have hza := Nm.split_size hqa
    rw [hqa] at hsa
    cases hqb : Nm.split b with
    | none =>
      have HA := Nm.hide (same_right (a := a) hqb)
      rw [hqb] at hsb
      clear hqa hqb
      go_enter Try.func5, Try.ntmps5
      go_wp2_with fail
      refine hsa.mono ?_
      rintro e w1 ⟨rfl, hbel⟩
      go_wp2_with fail
      refine (hsb _).mono ?_
      rintro e w2 ⟨rfl, hbel2⟩
      go_wp2
      go_ret
      rw [HA.out]
      exact ⟨rfl, Nm.below_two hbel hbel2⟩
    | some ys =>
      have HA := Nm.hide (same_some hqa hqb)
      have hcf := fun W => compareFolded_any a b W (by omega)
      rw [hqb] at hsb
      clear hqa hqb
      generalize Nm.ordS a b = o at *
      have HD : Hid ((o == 0) = decide (o = 0)) := by show _ = _; rw [Bool.eq_iff_iff]; simp
      go_enter Try.func5, Try.ntmps5
      go_wp2_with fail
      refine hsa.mono ?_
      rintro e w1 ⟨rfl, hbel⟩
      go_wp2_with fail
      refine (hsb _).mono ?_
      rintro e w2 ⟨rfl, hbel2⟩
      go_wp2_with fail
      refine (hcf _).mono ?_
      rintro e w3 ⟨rfl, m, rfl⟩
      go_wp2
      go_ret
      rw [HA.out, ← HD.out]
      exact ⟨rfl, Go.below_drewN (Nm.below_two hbel hbel2) _⟩

set_option maxRecDepth 100000 in
set_option maxHeartbeats 800000 in
theorem specSameName_any (a b : ByteArray) (w : World) (ha : a.size ≤ maxLen) (hb : b.size ≤ maxLen) :
    Calls Try.prog 4 #[.string a, .string b] w fun e w' => e = .returned (.bool (sameS a b)) ∧ Below w.heap.size w w' := by
  have hsa := specFoldName_any a w ha
  have hsb := fun W => specFoldName_any b W hb
  cases hqa : Nm.split a with
  | none =>
    have HA := Nm.hide (same_left (b := b) hqa)
    rw [Nm.foldS_none hqa] at hsa
    have he : (ByteArray.empty).toList.isEmpty = true := Nm.tl_empty rfl
    clear hqa
    go_enter Try.func4, Try.ntmps4
    go_wp2_with fail
    refine hsa.mono ?_
    rintro e w1 ⟨rfl, hbel⟩
    go_wp2
    go_ret
    rw [HA.out]
    exact ⟨rfl, hbel⟩
  | some xs =>
    rw [Nm.foldS_some hqa] at hsa
    have he := small_pos hqa
    cases hqb : Nm.split b with
    | none =>
      have HA := Nm.hide (same_right (a := a) hqb)
      rw [Nm.foldS_none hqb] at hsb
      have hne : ((Nm.small a).toList == (ByteArray.empty).toList) = false := by
        rw [beq_eq_false_iff_ne]
        intro e
        rw [e] at he
        rw [Nm.tl_empty rfl] at he
        simp at he
      clear hqa hqb
      generalize Nm.small a = x at *
      go_enter Try.func4, Try.ntmps4
      go_wp2_with fail
      refine hsa.mono ?_
      rintro e w1 ⟨rfl, hbel⟩
      go_wp2_with fail
      refine (hsb _).mono ?_
      rintro e w2 ⟨rfl, hbel2⟩
      go_wp2
      go_ret
      rw [HA.out]
      exact ⟨rfl, Nm.below_two hbel hbel2⟩
    | some ys =>
      have HA := Nm.hide (same_some hqa hqb)
      have HE := Nm.hide (small_eq a b)
      rw [Nm.foldS_some hqb] at hsb
      clear hqa hqb
      generalize Nm.small a = x at *
      generalize Nm.small b = y at *
      go_enter Try.func4, Try.ntmps4
      go_wp2_with fail
      refine hsa.mono ?_
      rintro e w1 ⟨rfl, hbel⟩
      go_wp2_with fail
      refine (hsb _).mono ?_
      rintro e w2 ⟨rfl, hbel2⟩
      go_wp2
      go_ret
      rw [HA.out, ← HE.out]
      exact ⟨rfl, Nm.below_two hbel hbel2⟩
end Go.Proofs.Ythaddbobochjhad
