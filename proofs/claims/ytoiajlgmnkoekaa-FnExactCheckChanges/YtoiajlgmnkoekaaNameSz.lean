import Derived.Test.YtoiajlgmnkoekaaPiece2
import Derived.Test.YtoiajlgmnkoekaaRows
import Derived.WalkSpells
import Derived.WalkLawsBesides
/- impl.nameSize by its contract. -/
namespace Go.Proofs.Ytoiajlgmnkoekaa
open Go.RowKit

/-- A size and whether there is one, as Go tells them. -/
def szV (o : Option Nat) : Value := .tuple #[.int .i64 ((o.getD 0 : Nat) : Int), .bool o.isSome]

theorem nsz_none {s : ByteArray} {i : Nat} (h : Dt.nameAtS s = Dt.nameF 256 s i) (h1 : Dt.nameF 256 s i = ByteArray.empty) : szV (Dt.sz .nm s) = .tuple #[.int .i64 0, .bool false] := by
  have : (Dt.nameAtS s).size = 0 := by rw [h, h1]; rfl
  rw [Dt.sz, if_pos this]; rfl
theorem nsz_zero {s : ByteArray} {i : Nat} (h : Dt.nameAtS s = Dt.nameF 256 s i) (h1 : i < s.size) (h2 : i < 255) (h0 : s[i].toNat = 0) : szV (Dt.sz .nm s) = .tuple #[.int .i64 ((i : Int) + 1), .bool true] := by
  have e : Dt.nameF 256 s i = s.extract 0 (i + 1) := by rw [Dt.nameF, dif_pos ⟨h1, h2⟩, if_pos h0]
  have e1 : (Dt.nameAtS s).size = i + 1 := by rw [h, e]; simp; omega
  rw [Dt.sz, if_neg (by omega), e1]; rfl
theorem nsz_step {s : ByteArray} {i : Nat} (h : Dt.nameAtS s = Dt.nameF 256 s i) (h1 : i < s.size) (h2 : i < 255) (h0 : s[i].toNat ≠ 0) (h3 : s[i].toNat ≤ 63) : Dt.nameAtS s = Dt.nameF 256 s (i + (1 + s[i].toNat)) := by
  rw [h, Dt.nameF, dif_pos ⟨h1, h2⟩, if_neg h0, if_neg (by omega), show i + s[i].toNat + 1 = i + (1 + s[i].toNat) by omega]
  exact Dt.nameF_enough _ _ _ _ (by omega) (by omega)
theorem nsz_big {s : ByteArray} {i : Nat} (h1 : i < s.size) (h2 : i < 255) (h0 : 63 < s[i].toNat) : Dt.nameF 256 s i = ByteArray.empty := by
  rw [Dt.nameF, dif_pos ⟨h1, h2⟩, if_neg (by omega), if_pos h0]
theorem nsz_end {s : ByteArray} {i : Nat} (h : ¬ (i < s.size ∧ i < 255)) : Dt.nameF 256 s i = ByteArray.empty := by
  rw [Dt.nameF, dif_neg h]

set_option maxRecDepth 100000 in
set_option maxHeartbeats 800000 in
theorem nameSize_any (s : ByteArray) (w : World) :
    Calls Try.prog 29 #[.string s] w fun e w' => e = .returned (szV (Dt.sz .nm s)) ∧ w' = w := by
  have H0 : Dt.nameAtS s = Dt.nameF 256 s 0 := rfl
  go_enter Try.func29, Try.ntmps29
  go_wp2
  go_loop [4] (fun v => ∃ i : Nat, i < 255 ∧ v = .int .i64 i ∧ Dt.nameAtS s = Dt.nameF 256 s i) (fun v => 400 - (intOf v).toNat)
  case atStart => exact ⟨0, by omega, rfl, H0⟩
  case round =>
    obtain ⟨i, hi, rfl, hn⟩ := hrel
    clear H0
    by_cases h1 : i < s.size
    · have h1' : (i : Int) < (s.size : Int) := by omega
      have hc : (s[i].toNat : Int) < 256 := by have := s[i].toNat_lt; omega
      by_cases h3 : s[i].toNat = 0
      · have HN := Nm.hide (nsz_zero hn h1 hi h3)
        have h3' : ((s[i].toNat : Int) == 0) = true := by rw [beq_iff_eq]; omega
        clear hn h3
        go_wp2
        go_ret2
        rw [HN.out]
        exact ⟨rfl, rfl⟩
      · have h3' : ((s[i].toNat : Int) == 0) = false := by rw [beq_eq_false_iff_ne]; omega
        have h3'' : (0 : Int) < (s[i].toNat : Int) := by omega
        by_cases h4 : 63 < s[i].toNat
        · have HN := Nm.hide (nsz_none hn (nsz_big h1 hi h4))
          have h4' : (63 : Int) < (s[i].toNat : Int) := by omega
          clear hn h3
          go_wp2_with (go_at_call 41; go_in)
          go_ret2
          rw [HN.out]
          exact ⟨rfl, rfl⟩
        · have h4' : (s[i].toNat : Int) ≤ 63 := by omega
          have hst := nsz_step hn h1 hi h3 (by omega)
          by_cases h5 : 255 ≤ i + (1 + s[i].toNat)
          · have HN := Nm.hide (nsz_none hst (nsz_end (by omega)))
            have h5' : (255 : Int) ≤ (i : Int) + (1 + (s[i].toNat : Int)) := by omega
            clear hn h3 hst
            go_wp2_with (go_at_call 41; go_in)
            go_ret2
            rw [HN.out]
            exact ⟨rfl, rfl⟩
          · have HN := Nm.hide hst
            have h5' : (i : Int) + (1 + (s[i].toNat : Int)) < 255 := by omega
            clear hn h3 hst
            go_wp2_with (go_at_call 41; go_in)
            go_round
            case rel => exact ⟨i + (1 + s[i].toNat), by omega, by go_num, HN.out⟩
            case measure => simp [intOf]; omega
    · have HN := Nm.hide (nsz_none hn (nsz_end (by omega)))
      have h1' : (s.size : Int) ≤ (i : Int) := by omega
      clear hn
      go_wp2
      go_ret2
      rw [HN.out]
      exact ⟨rfl, rfl⟩
end Go.Proofs.Ytoiajlgmnkoekaa
