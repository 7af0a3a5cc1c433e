import Derived.Test.YtephbegencpllaaGreatDoorJMath
import Derived.Test.YtephbegencpllaaGreatDoorRows
import Derived.WalkSpells
import Derived.WalkLawsBesides
import Derived.Shelf.Strings.Builder1
import Derived.Shelf.Strings.Builder2
import Derived.Shelf.Strings.OnBuilder
import Derived.Shelf.Small.Strs
import Derived.Shelf.Strconv.Itoa0
import Derived.Shelf.Strconv.Itoa1
import Derived.Shelf.LaysM
import Derived.Shelf.Strconv.Itoa2
import Derived.Shelf.Strconv.Itoa3
import Derived.Shelf.Strconv.Itoa4
import Derived.Shelf.Strings.Search1
import Derived.Shelf.Strings.Search2
import Derived.Shelf.Strings.Search3
import Derived.Shelf.Strings.Cut
import Derived.Shelf.Strings.Count
import Derived.Shelf.Strings.Shaped
import Derived.Shelf.Strings.Split
import Derived.Shelf.Strings.SplitShaped
import Derived.Shelf.Bits.Mul64
import Derived.Shelf.Unicode.DecodeSlow
import Derived.Test.YtephbegencpllaaGreatDoorProg
/- The model's small functions of data, by their contracts. -/
namespace Go.Proofs.YtephbegencpllaaGreatDoor
open Go.RowKit

set_option maxRecDepth 100000 in
set_option maxHeartbeats 800000 in
theorem l02Alnum_any (c : UInt8) (w : World) :
    Calls Tryz.prog 25 #[.int .u8 c.toNat] w fun e w' => e = .returned (.bool (Dt.alnumB c)) ∧ w' = w := by
  have key : ∀ b, Dt.alnumB c = b → Hid (Dt.alnumB c = b) := fun _ h => h
  by_cases h1 : 48 ≤ c.toNat
  · by_cases h2 : c.toNat ≤ 57
    · have HA := key true (by simp [Dt.alnumB, h1, h2])
      have d1 : (48 : Int) ≤ (c.toNat : Int) := by omega
      have d2 : (c.toNat : Int) ≤ 57 := by omega
      go_enter Tryz.func25, Tryz.ntmps25
      go_wp2
      go_ret
      rw [HA.out]
      exact ⟨rfl, rfl⟩
    · by_cases h3 : 97 ≤ c.toNat
      · by_cases h4 : c.toNat ≤ 122
        · have HA := key true (by simp [Dt.alnumB, h1, h2, h3, h4])
          have d1 : (48 : Int) ≤ (c.toNat : Int) := by omega
          have d2 : (57 : Int) < (c.toNat : Int) := by omega
          have e2 : decide ((c.toNat : Int) ≤ 57) = false := by simp; omega
          have d3 : (97 : Int) ≤ (c.toNat : Int) := by omega
          have d4 : (c.toNat : Int) ≤ 122 := by omega
          go_enter Tryz.func25, Tryz.ntmps25
          go_wp2
          go_ret
          rw [HA.out]
          exact ⟨rfl, rfl⟩
        · have HA := key false (by simp [Dt.alnumB]; omega)
          have d1 : (48 : Int) ≤ (c.toNat : Int) := by omega
          have d2 : (57 : Int) < (c.toNat : Int) := by omega
          have e2 : decide ((c.toNat : Int) ≤ 57) = false := by simp; omega
          have d3 : (97 : Int) ≤ (c.toNat : Int) := by omega
          have d4 : (122 : Int) < (c.toNat : Int) := by omega
          have e4 : decide ((c.toNat : Int) ≤ 122) = false := by simp; omega
          have d5 : (65 : Int) ≤ (c.toNat : Int) := by omega
          have d6 : (90 : Int) < (c.toNat : Int) := by omega
          have e6 : decide ((c.toNat : Int) ≤ 90) = false := by simp; omega
          go_enter Tryz.func25, Tryz.ntmps25
          go_wp2
          go_ret
          rw [HA.out]
          exact ⟨rfl, rfl⟩
      · by_cases h5 : 65 ≤ c.toNat ∧ c.toNat ≤ 90
        · have HA := key true (by simp [Dt.alnumB]; omega)
          have d1 : (48 : Int) ≤ (c.toNat : Int) := by omega
          have d2 : (57 : Int) < (c.toNat : Int) := by omega
          have e2 : decide ((c.toNat : Int) ≤ 57) = false := by simp; omega
          have d3 : (c.toNat : Int) < 97 := by omega
          have d5 : (65 : Int) ≤ (c.toNat : Int) := by omega
          have d6 : (c.toNat : Int) ≤ 90 := by omega
          go_enter Tryz.func25, Tryz.ntmps25
          go_wp2
          go_ret
          rw [HA.out]
          exact ⟨rfl, rfl⟩
        · have HA := key false (by simp [Dt.alnumB]; omega)
          have d1 : (48 : Int) ≤ (c.toNat : Int) := by omega
          have d2 : (57 : Int) < (c.toNat : Int) := by omega
          have e2 : decide ((c.toNat : Int) ≤ 57) = false := by simp; omega
          have d3 : (c.toNat : Int) < 97 := by omega
          by_cases h6 : 65 ≤ c.toNat
          · have d5 : (65 : Int) ≤ (c.toNat : Int) := by omega
            have d6 : (90 : Int) < (c.toNat : Int) := by omega
            have e6 : decide ((c.toNat : Int) ≤ 90) = false := by simp; omega
            go_enter Tryz.func25, Tryz.ntmps25
            go_wp2
            go_ret
            rw [HA.out]
            exact ⟨rfl, rfl⟩
          · have d5 : (c.toNat : Int) < 65 := by omega
            go_enter Tryz.func25, Tryz.ntmps25
            go_wp2
            go_ret
            rw [HA.out]
            exact ⟨rfl, rfl⟩
  · have HA := key false (by simp [Dt.alnumB]; omega)
    have d1 : (c.toNat : Int) < 48 := by omega
    have d3 : (c.toNat : Int) < 97 := by omega
    have d5 : (c.toNat : Int) < 65 := by omega
    go_enter Tryz.func25, Tryz.ntmps25
    go_wp2
    go_ret
    rw [HA.out]
    exact ⟨rfl, rfl⟩

set_option maxRecDepth 100000 in
set_option maxHeartbeats 800000 in
theorem l02Form_any (t : Int) (w : World) :
    Calls Tryz.prog 7 #[.int .i64 t] w fun e w' => e = .returned (.string (Dt.formS t)) ∧ w' = w := by
  by_cases h : t = 1 ∨ t = 2 ∨ t = 5 ∨ t = 6 ∨ t = 12 ∨ t = 13 ∨ t = 15 ∨ t = 16 ∨ t = 28 ∨ t = 33 ∨ t = 35 ∨ t = 39 ∨ t = 47 ∨ t = 257
  · rcases h with rfl | rfl | rfl | rfl | rfl | rfl | rfl | rfl | rfl | rfl | rfl | rfl | rfl | rfl
    all_goals
      go_enter Tryz.func7, Tryz.ntmps7
      go_wp2
      go_ret
      exact ⟨rfl, rfl⟩
  · have HA : Hid (Dt.formS t = ⟨#[42]⟩) := by
      show _ = _
      unfold Dt.formS
      simp only [show ¬ t = 1 by omega, show ¬ (t = 2 ∨ t = 5 ∨ t = 12 ∨ t = 39) by omega, show ¬ t = 6 by omega, show ¬ t = 13 by omega, show ¬ t = 15 by omega, show ¬ t = 16 by omega, show ¬ t = 28 by omega, show ¬ t = 33 by omega, show ¬ t = 35 by omega, show ¬ t = 47 by omega, show ¬ t = 257 by omega, if_false]
    have b1 : (t == 1) = false := by rw [beq_eq_false_iff_ne]; omega
    have b2 : (t == 2) = false := by rw [beq_eq_false_iff_ne]; omega
    have b3 : (t == 5) = false := by rw [beq_eq_false_iff_ne]; omega
    have b4 : (t == 6) = false := by rw [beq_eq_false_iff_ne]; omega
    have b5 : (t == 12) = false := by rw [beq_eq_false_iff_ne]; omega
    have b6 : (t == 13) = false := by rw [beq_eq_false_iff_ne]; omega
    have b7 : (t == 15) = false := by rw [beq_eq_false_iff_ne]; omega
    have b8 : (t == 16) = false := by rw [beq_eq_false_iff_ne]; omega
    have b9 : (t == 28) = false := by rw [beq_eq_false_iff_ne]; omega
    have b10 : (t == 33) = false := by rw [beq_eq_false_iff_ne]; omega
    have b11 : (t == 35) = false := by rw [beq_eq_false_iff_ne]; omega
    have b12 : (t == 39) = false := by rw [beq_eq_false_iff_ne]; omega
    have b13 : (t == 47) = false := by rw [beq_eq_false_iff_ne]; omega
    have b14 : (t == 257) = false := by rw [beq_eq_false_iff_ne]; omega
    clear h
    go_enter Tryz.func7, Tryz.ntmps7
    go_wp2
    go_ret
    rw [HA.out]
    exact ⟨rfl, rfl⟩
theorem txt_short {s : ByteArray} (h : 0 < s.size) (h1 : s.size < s[0].toNat + 1) : Dt.txtS s = ByteArray.empty := by
  rw [Dt.txtS, dif_pos h, if_neg (by omega)]
theorem txt_good {s : ByteArray} (h : 0 < s.size) (h1 : s[0].toNat + 1 ≤ s.size) : Dt.txtS s = s.extract 0 (s[0].toNat + 1) := by
  rw [Dt.txtS, dif_pos h, if_pos h1]
theorem txt_none {s : ByteArray} (h : s.size = 0) : Dt.txtS s = ByteArray.empty := by
  rw [Dt.txtS, dif_neg (by omega)]

set_option maxRecDepth 100000 in
set_option maxHeartbeats 800000 in
theorem l02Text_any (s : ByteArray) (w : World) (hs : s.size ≤ maxLen) :
    Calls Tryz.prog 24 #[.string s] w fun e w' => e = .returned (.string (Dt.txtS s)) ∧ w' = w := by
  unfold maxLen at hs
  by_cases h0 : s.size = 0
  · have HA := Nm.hide (txt_none h0)
    have he : s = ByteArray.empty := by
      apply ByteArray.ext
      exact Array.eq_empty_of_size_eq_zero h0
    subst he
    go_enter Tryz.func24, Tryz.ntmps24
    go_wp2
    go_ret
    rw [HA.out]
    exact ⟨rfl, rfl⟩
  · have hp : 0 < s.size := by omega
    have hp' : (0 : Int) < (s.size : Int) := by omega
    have he : (s.toList == []) = false := by
      rw [beq_eq_false_iff_ne, ByteArray.toList_eq]
      intro e
      have h9 := congrArg List.length e
      rw [Array.length_toList] at h9
      exact h0 h9
    have hc : (s[0].toNat : Int) < 256 := by have := s[0].toNat_lt; omega
    by_cases h1 : s.size < s[0].toNat + 1
    · have HA := Nm.hide (txt_short hp h1)
      have h1' : (s.size : Int) < (s[0].toNat : Int) + 1 := by omega
      go_enter Tryz.func24, Tryz.ntmps24
      go_wp2
      go_ret
      rw [HA.out]
      exact ⟨rfl, rfl⟩
    · have HA := Nm.hide (txt_good hp (by omega))
      have h1' : (s[0].toNat : Int) + 1 ≤ (s.size : Int) := by omega
      go_enter Tryz.func24, Tryz.ntmps24
      go_wp2
      go_ret
      rw [HA.out]
      exact ⟨rfl, rfl⟩
end Go.Proofs.YtephbegencpllaaGreatDoor
/- Contracts of the library at this dump. -/
namespace Go.Proofs
open Go.Shelf
def Tryz.lays156_ren : Go.Shelf.Ren := ⟨fun | 156 => 46 | 165 => 91 | 166 => 92 | 169 => 93 | 240 => 116 | 241 => 117 | 276 => 137 | 277 => 138 | n => n, fun | 31 => 27 | 9 => 9 | 3 => 3 | 4 => 4 | 0 => 0 | 20 => 20 | 72 => 99 | 76 => 103 | 70 => 97 | 37 => 48 | 75 => 102 | 127 => 139 | 164 => 160 | 5 => 5 | 80 => 105 | n => n, fun | n => n⟩
theorem Tryz.lays156 : Go.Proofs.Lays.n156 Tryz.prog Tryz.lays156_ren := {
  mixed := by kernel_rfl
  f156 := Tryz.func46.trans (congrArg some (by kernel_rfl))
  f165 := Tryz.func91.trans (congrArg some (by kernel_rfl))
  f166 := Tryz.func92.trans (congrArg some (by kernel_rfl))
  f169 := Tryz.func93.trans (congrArg some (by kernel_rfl))
  f240 := Tryz.func116.trans (congrArg some (by kernel_rfl))
  f241 := Tryz.func117.trans (congrArg some (by kernel_rfl))
  f276 := Tryz.func137.trans (congrArg some (by kernel_rfl))
  f277 := Tryz.func138.trans (congrArg some (by kernel_rfl))
  t0 := Tryz.underlying0
  a0 := Tryz.isAgg0
  z0 := Tryz.sizeOf0
  v0 := Tryz.zeroValue0
  t3 := Tryz.underlying3
  a3 := Tryz.isAgg3
  z3 := Tryz.sizeOf3
  v3 := Tryz.zeroValue3
  t4 := Tryz.underlying4
  a4 := Tryz.isAgg4
  z4 := Tryz.sizeOf4
  v4 := Tryz.zeroValue4
  t9 := Tryz.underlying9
  a9 := Tryz.isAgg9
  z9 := Tryz.sizeOf9
  v9 := Tryz.zeroValue9
  t20 := Tryz.underlying20
  a20 := Tryz.isAgg20
  z20 := Tryz.sizeOf20
  v20 := Tryz.zeroValue20
  t31 := Tryz.underlying27
  a31 := Tryz.isAgg27
  z31 := Tryz.sizeOf27
  v31 := Tryz.zeroValue27
  t37 := Tryz.underlying48
  a37 := Tryz.isAgg48
  z37 := Tryz.sizeOf48
  v37 := Tryz.zeroValue48
  t70 := Tryz.underlying97
  a70 := Tryz.isAgg97
  z70 := Tryz.sizeOf97
  v70 := Tryz.zeroValue97
  t72 := Tryz.underlying99
  a72 := Tryz.isAgg99
  z72 := Tryz.sizeOf99
  v72 := Tryz.zeroValue99
  t75 := Tryz.underlying102
  a75 := Tryz.isAgg102
  z75 := Tryz.sizeOf102
  v75 := Tryz.zeroValue102
  t76 := Tryz.underlying103
  a76 := Tryz.isAgg103
  z76 := Tryz.sizeOf103
  v76 := Tryz.zeroValue103
  t127 := Tryz.underlying139
  a127 := Tryz.isAgg139
  z127 := Tryz.sizeOf139
  v127 := Tryz.zeroValue139
  t164 := Tryz.underlying160
  a164 := Tryz.isAgg160
  z164 := Tryz.sizeOf160
  v164 := Tryz.zeroValue160 }
theorem Tryz.Builder_Extra_156 : Builder.Extra Tryz.prog Tryz.lays156_ren := {
  sizeBuilder := by kernel_rfl
  liesBuilder := by kernel_rfl
  t5 := Tryz.underlying5
  a5 := Tryz.isAgg5
  z5 := Tryz.sizeOf5
  v5 := Tryz.zeroValue5
  infoByte := by kernel_rfl
  cellsByte := by kernel_rfl
  sizeByte := by kernel_rfl
  neB5 := by decide }
open Go.RowKit in
theorem Tryz.strings_Join_none (a : Option Addr) (c : Nat) (sep : ByteArray) (w : World) :
    Calls Tryz.prog 46 #[.slice a 0 c, .string sep] w fun e w' => e = .returned (.string ⟨#[]⟩) ∧ w' = w := Any.strings_Join_none Tryz.lays156 Tryz.Builder_Extra_156 a c sep w
open Go.RowKit in
theorem Tryz.strings_Join (bk o c : Nat) (xs : List ByteArray) (sep : ByteArray) (w : World) (hcells : ∀ (j : Nat) x, xs[j]? = some x → w.cell? ⟨bk, o + j, none⟩ = some (.string x)) (hbk : bk < w.heap.size) (hN : xs.length ≤ 140737488355328) (hcap : xs.length ≤ c) (hlen : (Lib.join (xs.map (·.data.toList)) sep.data.toList).length ≤ 140737488355328) :
    Calls Tryz.prog 46 #[.slice (some ⟨bk, o, none⟩) xs.length c, .string sep] w fun e w' => e = .returned (.string ⟨(Lib.join (xs.map (·.data.toList)) sep.data.toList).toArray⟩) ∧ Below w.heap.size w w' := Any.strings_Join Tryz.lays156 Tryz.Builder_Extra_156 bk o c xs sep w hcells hbk hN hcap hlen
end Go.Proofs
