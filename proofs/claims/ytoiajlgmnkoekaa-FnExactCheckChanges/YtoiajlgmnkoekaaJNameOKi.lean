import Derived.Test.YtoiajlgmnkoekaaNameSz
import Derived.Test.YtoiajlgmnkoekaaJMapM
import Derived.Test.YtoiajlgmnkoekaaRows
import Derived.WalkSpells
import Derived.WalkLawsBesides
/- impl.NameOK by its contract. -/
namespace Go.Proofs.Ytoiajlgmnkoekaa
open Go.RowKit

theorem nok_true {s : ByteArray} (h : (Nm.split s).isSome = true) : Dt.sz .nm s = some s.size := by
  obtain ⟨h1, h2⟩ := (Dt.name_iff s).1 h
  rw [Dt.sz, if_neg h1, h2]
theorem nok_false {s : ByteArray} (h : (Nm.split s).isSome = false) : Dt.sz .nm s = none ∨ ∃ n, Dt.sz .nm s = some n ∧ n ≠ s.size := by
  by_cases h0 : (Dt.nameAtS s).size = 0
  · left; rw [Dt.sz, if_pos h0]
  · right
    refine ⟨_, by rw [Dt.sz, if_neg h0], ?_⟩
    intro e
    rw [(Dt.name_iff s).2 ⟨h0, e⟩] at h
    simp at h

set_option maxRecDepth 100000 in
set_option maxHeartbeats 400000 in
theorem implNameOK_same (s : ByteArray) (w : World) :
    Calls Try.prog 21 #[.string s] w fun e w' => e = .returned (.bool (Nm.split s).isSome) ∧ w' = w := by
  have hcall := nameSize_any s
  cases hq : (Nm.split s).isSome with
  | true =>
    rw [nok_true hq] at hcall
    simp only [szV, Option.getD_some, Option.isSome_some] at hcall
    clear hq
    go_enter Try.func21, Try.ntmps21
    go_wp2_with (go_at_call 29; refine (hcall _).mono ?_; rintro e w1 ⟨rfl, rfl⟩)
    go_ret
    exact ⟨rfl, rfl⟩
  | false =>
    rcases nok_false hq with h | ⟨n, h, hn⟩
    · rw [h] at hcall
      simp only [szV, Option.getD_none, Option.isSome_none] at hcall
      clear hq h
      go_enter Try.func21, Try.ntmps21
      go_wp2_with (go_at_call 29; refine (hcall _).mono ?_; rintro e w1 ⟨rfl, rfl⟩)
      go_ret
      exact ⟨rfl, rfl⟩
    · rw [h] at hcall
      simp only [szV, Option.getD_some, Option.isSome_some] at hcall
      have hb : ((n : Int) == (s.size : Int)) = false := by rw [beq_eq_false_iff_ne]; omega
      have hb2 : (n == s.size) = false := by rw [beq_eq_false_iff_ne]; omega
      clear hq h
      go_enter Try.func21, Try.ntmps21
      go_wp2_with (go_at_call 29; refine (hcall _).mono ?_; rintro e w1 ⟨rfl, rfl⟩)
      go_ret
      exact ⟨rfl, rfl⟩

theorem implNameOK_any (s : ByteArray) (w : World) (_ : s.size ≤ maxLen) :
    Calls Try.prog 21 #[.string s] w fun e w' => e = .returned (.bool (Nm.split s).isSome) ∧ Below w.heap.size w w' := by
  refine (implNameOK_same s w).mono ?_
  rintro e w' ⟨rfl, rfl⟩
  exact ⟨rfl, Below.refl _ _⟩
end Go.Proofs.Ytoiajlgmnkoekaa
/- impl.foldByte by its contract. -/
namespace Go.Proofs.Ytoiajlgmnkoekaa
open Go.RowKit

theorem ret_u8 {a b : Int} (h : a = b) : Ending.returned (.int .u8 a) = .returned (.int .u8 b) := by rw [h]

set_option maxRecDepth 100000 in
set_option maxHeartbeats 400000 in
theorem foldByte_any (c : UInt8) (w : World) :
    Calls Try.prog 54 #[.int .u8 c.toNat] w fun e w' => e = .returned (.int .u8 (Nm.low c).toNat) ∧ w' = w := by
  have hcl : (c.toNat : Int) < 256 := by have := c.toNat_lt; omega
  by_cases hup : 65 ≤ c.toNat ∧ c.toNat ≤ 90
  · have HL := Nm.hide (Nm.low_up hup)
    have d1 : decide ((65 : Int) ≤ (c.toNat : Int)) = true := by simp; omega
    have d2 : decide ((c.toNat : Int) ≤ 90) = true := by simp; omega
    have hb1 : (c.toNat : Int) ≤ 90 := by omega
    clear hup
    go_enter Try.func54, Try.ntmps54
    go_wp2
    go_ret
    rw [HL.out]
    exact ⟨rfl, rfl⟩
  · have HL := Nm.hide (Nm.low_id hup)
    by_cases hlo : 65 ≤ c.toNat
    · have d1 : decide ((65 : Int) ≤ (c.toNat : Int)) = true := by simp; omega
      have d2 : decide ((c.toNat : Int) ≤ 90) = false := by simp; omega
      clear hup
      go_enter Try.func54, Try.ntmps54
      go_wp2
      go_ret
      rw [HL.out]
      exact ⟨rfl, rfl⟩
    · have d1 : decide ((65 : Int) ≤ (c.toNat : Int)) = false := by simp; omega
      clear hup
      go_enter Try.func54, Try.ntmps54
      go_wp2
      go_ret
      rw [HL.out]
      exact ⟨rfl, rfl⟩

end Go.Proofs.Ytoiajlgmnkoekaa
