import Derived.Test.YtechmpdfbpehiaaGreatDoorJMath
import Derived.Test.YtechmpdfbpehiaaGreatDoorRows
import Derived.WalkSpells
import Derived.WalkLawsBesides
import Derived.Shelf.Strings.Builder1
import Derived.Shelf.Strings.Builder2
import Derived.Shelf.Strings.OnBuilder
import Derived.Shelf.Small.Strs
import Derived.Shelf.Strconv.Itoa0
import Derived.Shelf.Strconv.Itoa1
import Derived.Shelf.LaysM
import Derived.Shelf.Strconv.Itoa2
import Derived.Shelf.Strconv.Itoa3
import Derived.Shelf.Strconv.Itoa4
import Derived.Shelf.Strings.Search1
import Derived.Shelf.Strings.Search2
import Derived.Shelf.Strings.Search3
import Derived.Shelf.Strings.Cut
import Derived.Shelf.Strings.Count
import Derived.Shelf.Strings.Shaped
import Derived.Shelf.Strings.Split
import Derived.Shelf.Strings.SplitShaped
import Derived.Shelf.Bits.Mul64
import Derived.Shelf.Unicode.DecodeSlow
import Derived.Shelf.Unicode.DecodeAny
import Derived.Ground.Names2Prog
import Derived.Shelf.Slices.SearchI
import Derived.Test.YtechmpdfbpehiaaGreatDoorProg
import Derived.Test.YtechmpdfbpehiaaGreatDoorJV4T
import Derived.Test.YtechmpdfbpehiaaGreatDoorJIShowT
import Derived.Lib.AppendIntMem
import Derived.Lib.ItoaMem
import Derived.Deep.AppendLies
/- The model's small functions of data, by their contracts. -/
namespace Go.Proofs.YtechmpdfbpehiaaGreatDoor
open Go.RowKit

set_option maxRecDepth 100000 in
set_option maxHeartbeats 800000 in
theorem l02Alnum_any (c : UInt8) (w : World) :
    Calls Tryz.prog 49 #[.int .u8 c.toNat] w fun e w' => e = .returned (.bool (Dt.alnumB c)) ∧ w' = w := by
  have key : ∀ b, Dt.alnumB c = b → Hid (Dt.alnumB c = b) := fun _ h => h
  by_cases h1 : 48 ≤ c.toNat
  · by_cases h2 : c.toNat ≤ 57
    · have HA := key true (by simp [Dt.alnumB, h1, h2])
      have d1 : (48 : Int) ≤ (c.toNat : Int) := by omega
      have d2 : (c.toNat : Int) ≤ 57 := by omega
      go_enter Tryz.func49, Tryz.ntmps49
      go_wp2
      go_ret
      rw [HA.out]
      exact ⟨rfl, rfl⟩
    · by_cases h3 : 97 ≤ c.toNat
      · by_cases h4 : c.toNat ≤ 122
        · have HA := key true (by simp [Dt.alnumB, h1, h2, h3, h4])
          have d1 : (48 : Int) ≤ (c.toNat : Int) := by omega
          have d2 : (57 : Int) < (c.toNat : Int) := by omega
          have e2 : decide ((c.toNat : Int) ≤ 57) = false := by simp; omega
          have d3 : (97 : Int) ≤ (c.toNat : Int) := by omega
          have d4 : (c.toNat : Int) ≤ 122 := by omega
          go_enter Tryz.func49, Tryz.ntmps49
          go_wp2
          go_ret
          rw [HA.out]
          exact ⟨rfl, rfl⟩
        · have HA := key false (by simp [Dt.alnumB]; omega)
          have d1 : (48 : Int) ≤ (c.toNat : Int) := by omega
          have d2 : (57 : Int) < (c.toNat : Int) := by omega
          have e2 : decide ((c.toNat : Int) ≤ 57) = false := by simp; omega
          have d3 : (97 : Int) ≤ (c.toNat : Int) := by omega
          have d4 : (122 : Int) < (c.toNat : Int) := by omega
          have e4 : decide ((c.toNat : Int) ≤ 122) = false := by simp; omega
          have d5 : (65 : Int) ≤ (c.toNat : Int) := by omega
          have d6 : (90 : Int) < (c.toNat : Int) := by omega
          have e6 : decide ((c.toNat : Int) ≤ 90) = false := by simp; omega
          go_enter Tryz.func49, Tryz.ntmps49
          go_wp2
          go_ret
          rw [HA.out]
          exact ⟨rfl, rfl⟩
      · by_cases h5 : 65 ≤ c.toNat ∧ c.toNat ≤ 90
        · have HA := key true (by simp [Dt.alnumB]; omega)
          have d1 : (48 : Int) ≤ (c.toNat : Int) := by omega
          have d2 : (57 : Int) < (c.toNat : Int) := by omega
          have e2 : decide ((c.toNat : Int) ≤ 57) = false := by simp; omega
          have d3 : (c.toNat : Int) < 97 := by omega
          have d5 : (65 : Int) ≤ (c.toNat : Int) := by omega
          have d6 : (c.toNat : Int) ≤ 90 := by omega
          go_enter Tryz.func49, Tryz.ntmps49
          go_wp2
          go_ret
          rw [HA.out]
          exact ⟨rfl, rfl⟩
        · have HA := key false (by simp [Dt.alnumB]; omega)
          have d1 : (48 : Int) ≤ (c.toNat : Int) := by omega
          have d2 : (57 : Int) < (c.toNat : Int) := by omega
          have e2 : decide ((c.toNat : Int) ≤ 57) = false := by simp; omega
          have d3 : (c.toNat : Int) < 97 := by omega
          by_cases h6 : 65 ≤ c.toNat
          · have d5 : (65 : Int) ≤ (c.toNat : Int) := by omega
            have d6 : (90 : Int) < (c.toNat : Int) := by omega
            have e6 : decide ((c.toNat : Int) ≤ 90) = false := by simp; omega
            go_enter Tryz.func49, Tryz.ntmps49
            go_wp2
            go_ret
            rw [HA.out]
            exact ⟨rfl, rfl⟩
          · have d5 : (c.toNat : Int) < 65 := by omega
            go_enter Tryz.func49, Tryz.ntmps49
            go_wp2
            go_ret
            rw [HA.out]
            exact ⟨rfl, rfl⟩
  · have HA := key false (by simp [Dt.alnumB]; omega)
    have d1 : (c.toNat : Int) < 48 := by omega
    have d3 : (c.toNat : Int) < 97 := by omega
    have d5 : (c.toNat : Int) < 65 := by omega
    go_enter Tryz.func49, Tryz.ntmps49
    go_wp2
    go_ret
    rw [HA.out]
    exact ⟨rfl, rfl⟩

set_option maxRecDepth 100000 in
set_option maxHeartbeats 800000 in
theorem l02Form_any (t : Int) (w : World) :
    Calls Tryz.prog 27 #[.int .i64 t] w fun e w' => e = .returned (.string (Dt.formS t)) ∧ w' = w := by
  by_cases h : t = 1 ∨ t = 2 ∨ t = 5 ∨ t = 6 ∨ t = 12 ∨ t = 13 ∨ t = 15 ∨ t = 16 ∨ t = 28 ∨ t = 33 ∨ t = 35 ∨ t = 39 ∨ t = 47 ∨ t = 257
  · rcases h with rfl | rfl | rfl | rfl | rfl | rfl | rfl | rfl | rfl | rfl | rfl | rfl | rfl | rfl
    all_goals
      go_enter Tryz.func27, Tryz.ntmps27
      go_wp2
      go_ret
      exact ⟨rfl, rfl⟩
  · have HA : Hid (Dt.formS t = ⟨#[42]⟩) := by
      show _ = _
      unfold Dt.formS
      simp only [show ¬ t = 1 by omega, show ¬ (t = 2 ∨ t = 5 ∨ t = 12 ∨ t = 39) by omega, show ¬ t = 6 by omega, show ¬ t = 13 by omega, show ¬ t = 15 by omega, show ¬ t = 16 by omega, show ¬ t = 28 by omega, show ¬ t = 33 by omega, show ¬ t = 35 by omega, show ¬ t = 47 by omega, show ¬ t = 257 by omega, if_false]
    have b1 : (t == 1) = false := by rw [beq_eq_false_iff_ne]; omega
    have b2 : (t == 2) = false := by rw [beq_eq_false_iff_ne]; omega
    have b3 : (t == 5) = false := by rw [beq_eq_false_iff_ne]; omega
    have b4 : (t == 6) = false := by rw [beq_eq_false_iff_ne]; omega
    have b5 : (t == 12) = false := by rw [beq_eq_false_iff_ne]; omega
    have b6 : (t == 13) = false := by rw [beq_eq_false_iff_ne]; omega
    have b7 : (t == 15) = false := by rw [beq_eq_false_iff_ne]; omega
    have b8 : (t == 16) = false := by rw [beq_eq_false_iff_ne]; omega
    have b9 : (t == 28) = false := by rw [beq_eq_false_iff_ne]; omega
    have b10 : (t == 33) = false := by rw [beq_eq_false_iff_ne]; omega
    have b11 : (t == 35) = false := by rw [beq_eq_false_iff_ne]; omega
    have b12 : (t == 39) = false := by rw [beq_eq_false_iff_ne]; omega
    have b13 : (t == 47) = false := by rw [beq_eq_false_iff_ne]; omega
    have b14 : (t == 257) = false := by rw [beq_eq_false_iff_ne]; omega
    clear h
    go_enter Tryz.func27, Tryz.ntmps27
    go_wp2
    go_ret
    rw [HA.out]
    exact ⟨rfl, rfl⟩
theorem txt_short {s : ByteArray} (h : 0 < s.size) (h1 : s.size < s[0].toNat + 1) : Dt.txtS s = ByteArray.empty := by
  rw [Dt.txtS, dif_pos h, if_neg (by omega)]
theorem txt_good {s : ByteArray} (h : 0 < s.size) (h1 : s[0].toNat + 1 ≤ s.size) : Dt.txtS s = s.extract 0 (s[0].toNat + 1) := by
  rw [Dt.txtS, dif_pos h, if_pos h1]
theorem txt_none {s : ByteArray} (h : s.size = 0) : Dt.txtS s = ByteArray.empty := by
  rw [Dt.txtS, dif_neg (by omega)]

set_option maxRecDepth 100000 in
set_option maxHeartbeats 800000 in
theorem l02Text_any (s : ByteArray) (w : World) (hs : s.size ≤ maxLen) :
    Calls Tryz.prog 48 #[.string s] w fun e w' => e = .returned (.string (Dt.txtS s)) ∧ w' = w := by
  unfold maxLen at hs
  by_cases h0 : s.size = 0
  · have HA := Nm.hide (txt_none h0)
    have he : s = ByteArray.empty := by
      apply ByteArray.ext
      exact Array.eq_empty_of_size_eq_zero h0
    subst he
    go_enter Tryz.func48, Tryz.ntmps48
    go_wp2
    go_ret
    rw [HA.out]
    exact ⟨rfl, rfl⟩
  · have hp : 0 < s.size := by omega
    have hp' : (0 : Int) < (s.size : Int) := by omega
    have he : (s.toList == []) = false := by
      rw [beq_eq_false_iff_ne, ByteArray.toList_eq]
      intro e
      have h9 := congrArg List.length e
      rw [Array.length_toList] at h9
      exact h0 h9
    have hc : (s[0].toNat : Int) < 256 := by have := s[0].toNat_lt; omega
    by_cases h1 : s.size < s[0].toNat + 1
    · have HA := Nm.hide (txt_short hp h1)
      have h1' : (s.size : Int) < (s[0].toNat : Int) + 1 := by omega
      go_enter Tryz.func48, Tryz.ntmps48
      go_wp2
      go_ret
      rw [HA.out]
      exact ⟨rfl, rfl⟩
    · have HA := Nm.hide (txt_good hp (by omega))
      have h1' : (s[0].toNat : Int) + 1 ≤ (s.size : Int) := by omega
      go_enter Tryz.func48, Tryz.ntmps48
      go_wp2
      go_ret
      rw [HA.out]
      exact ⟨rfl, rfl⟩
end Go.Proofs.YtechmpdfbpehiaaGreatDoor
/- Contracts of the library at this dump. -/
namespace Go.Proofs
open Go.Shelf
def Tryz.lays156_ren : Go.Shelf.Ren := ⟨fun | 156 => 61 | 165 => 83 | 166 => 20 | 169 => 23 | 240 => 41 | 241 => 124 | 276 => 55 | 277 => 148 | n => n, fun | 31 => 55 | 9 => 9 | 3 => 3 | 4 => 4 | 0 => 0 | 20 => 20 | 72 => 46 | 76 => 49 | 70 => 43 | 37 => 44 | 75 => 48 | 127 => 67 | 164 => 77 | 5 => 5 | 80 => 53 | n => n, fun | n => n⟩
theorem Tryz.lays156 : Go.Proofs.Lays.n156 Tryz.prog Tryz.lays156_ren := {
  mixed := by kernel_rfl
  f156 := Tryz.func61.trans (congrArg some (by kernel_rfl))
  f165 := Tryz.func83.trans (congrArg some (by kernel_rfl))
  f166 := Tryz.func20.trans (congrArg some (by kernel_rfl))
  f169 := Tryz.func23.trans (congrArg some (by kernel_rfl))
  f240 := Tryz.func41.trans (congrArg some (by kernel_rfl))
  f241 := Tryz.func124.trans (congrArg some (by kernel_rfl))
  f276 := Tryz.func55.trans (congrArg some (by kernel_rfl))
  f277 := Tryz.func148.trans (congrArg some (by kernel_rfl))
  t0 := Tryz.underlying0
  a0 := Tryz.isAgg0
  z0 := Tryz.sizeOf0
  v0 := Tryz.zeroValue0
  t3 := Tryz.underlying3
  a3 := Tryz.isAgg3
  z3 := Tryz.sizeOf3
  v3 := Tryz.zeroValue3
  t4 := Tryz.underlying4
  a4 := Tryz.isAgg4
  z4 := Tryz.sizeOf4
  v4 := Tryz.zeroValue4
  t9 := Tryz.underlying9
  a9 := Tryz.isAgg9
  z9 := Tryz.sizeOf9
  v9 := Tryz.zeroValue9
  t20 := Tryz.underlying20
  a20 := Tryz.isAgg20
  z20 := Tryz.sizeOf20
  v20 := Tryz.zeroValue20
  t31 := Tryz.underlying55
  a31 := Tryz.isAgg55
  z31 := Tryz.sizeOf55
  v31 := Tryz.zeroValue55
  t37 := Tryz.underlying44
  a37 := Tryz.isAgg44
  z37 := Tryz.sizeOf44
  v37 := Tryz.zeroValue44
  t70 := Tryz.underlying43
  a70 := Tryz.isAgg43
  z70 := Tryz.sizeOf43
  v70 := Tryz.zeroValue43
  t72 := Tryz.underlying46
  a72 := Tryz.isAgg46
  z72 := Tryz.sizeOf46
  v72 := Tryz.zeroValue46
  t75 := Tryz.underlying48
  a75 := Tryz.isAgg48
  z75 := Tryz.sizeOf48
  v75 := Tryz.zeroValue48
  t76 := Tryz.underlying49
  a76 := Tryz.isAgg49
  z76 := Tryz.sizeOf49
  v76 := Tryz.zeroValue49
  t127 := Tryz.underlying67
  a127 := Tryz.isAgg67
  z127 := Tryz.sizeOf67
  v127 := Tryz.zeroValue67
  t164 := Tryz.underlying77
  a164 := Tryz.isAgg77
  z164 := Tryz.sizeOf77
  v164 := Tryz.zeroValue77 }
theorem Tryz.Builder_Extra_156 : Builder.Extra Tryz.prog Tryz.lays156_ren := {
  sizeBuilder := by kernel_rfl
  liesBuilder := by kernel_rfl
  t5 := Tryz.underlying5
  a5 := Tryz.isAgg5
  z5 := Tryz.sizeOf5
  v5 := Tryz.zeroValue5
  infoByte := by kernel_rfl
  cellsByte := by kernel_rfl
  sizeByte := by kernel_rfl
  neB5 := by decide }
open Go.RowKit in
theorem Tryz.strings_Join_none (a : Option Addr) (c : Nat) (sep : ByteArray) (w : World) :
    Calls Tryz.prog 61 #[.slice a 0 c, .string sep] w fun e w' => e = .returned (.string ⟨#[]⟩) ∧ w' = w := Any.strings_Join_none Tryz.lays156 Tryz.Builder_Extra_156 a c sep w
open Go.RowKit in
theorem Tryz.strings_Join (bk o c : Nat) (xs : List ByteArray) (sep : ByteArray) (w : World) (hcells : ∀ (j : Nat) x, xs[j]? = some x → w.cell? ⟨bk, o + j, none⟩ = some (.string x)) (hbk : bk < w.heap.size) (hN : xs.length ≤ 140737488355328) (hcap : xs.length ≤ c) (hlen : (Lib.join (xs.map (·.data.toList)) sep.data.toList).length ≤ 140737488355328) :
    Calls Tryz.prog 61 #[.slice (some ⟨bk, o, none⟩) xs.length c, .string sep] w fun e w' => e = .returned (.string ⟨(Lib.join (xs.map (·.data.toList)) sep.data.toList).toArray⟩) ∧ Below w.heap.size w w' := Any.strings_Join Tryz.lays156 Tryz.Builder_Extra_156 bk o c xs sep w hcells hbk hN hcap hlen
end Go.Proofs
/- Contracts of the library at this dump. -/
namespace Go.Proofs
open Go.Shelf
def Tryz.laysM171_ren : Go.Shelf.Ren := ⟨fun | 171 => 59 | 243 => 82 | 246 => 62 | 283 => 84 | 284 => 85 | 285 => 86 | 286 => 87 | 129 => 126 | 317 => 125 | 318 => 127 | 319 => 128 | 320 => 129 | 337 => 149 | 338 => 150 | n => n, fun | 3 => 3 | 9 => 9 | 2 => 2 | 4 => 4 | 171 => 112 | 0 => 0 | 53 => 113 | 37 => 44 | 5 => 5 | 173 => 116 | 212 => 150 | 51 => 151 | 20 => 20 | 213 => 152 | 46 => 71 | 232 => 186 | 233 => 187 | n => n, fun | 17 => 1 | 18 => 3 | 19 => 4 | n => n⟩
theorem Tryz.laysM171 : Go.Proofs.LaysM.n171 Tryz.prog Tryz.laysM171_ren := {
  mixed := by kernel_rfl
  f129 := Tryz.func126.trans (congrArg some (by kernel_rfl))
  f171 := Tryz.func59.trans (congrArg some (by kernel_rfl))
  f243 := Tryz.func82.trans (congrArg some (by kernel_rfl))
  f246 := Tryz.func62.trans (congrArg some (by kernel_rfl))
  f283 := Tryz.func84.trans (congrArg some (by kernel_rfl))
  f284 := Tryz.func85.trans (congrArg some (by kernel_rfl))
  f285 := Tryz.func86.trans (congrArg some (by kernel_rfl))
  f286 := Tryz.func87.trans (congrArg some (by kernel_rfl))
  f317 := Tryz.func125.trans (congrArg some (by kernel_rfl))
  f318 := Tryz.func127.trans (congrArg some (by kernel_rfl))
  f319 := Tryz.func128.trans (congrArg some (by kernel_rfl))
  f320 := Tryz.func129.trans (congrArg some (by kernel_rfl))
  f337 := Tryz.func149.trans (congrArg some (by kernel_rfl))
  f338 := Tryz.func150.trans (congrArg some (by kernel_rfl))
  t0 := Tryz.underlying0
  a0 := Tryz.isAgg0
  z0 := Tryz.sizeOf0
  v0 := Tryz.zeroValue0
  t2 := Tryz.underlying2
  a2 := Tryz.isAgg2
  z2 := Tryz.sizeOf2
  v2 := Tryz.zeroValue2
  t3 := Tryz.underlying3
  a3 := Tryz.isAgg3
  z3 := Tryz.sizeOf3
  v3 := Tryz.zeroValue3
  t4 := Tryz.underlying4
  a4 := Tryz.isAgg4
  z4 := Tryz.sizeOf4
  v4 := Tryz.zeroValue4
  t5 := Tryz.underlying5
  a5 := Tryz.isAgg5
  z5 := Tryz.sizeOf5
  v5 := Tryz.zeroValue5
  t9 := Tryz.underlying9
  a9 := Tryz.isAgg9
  z9 := Tryz.sizeOf9
  v9 := Tryz.zeroValue9
  t20 := Tryz.underlying20
  a20 := Tryz.isAgg20
  z20 := Tryz.sizeOf20
  v20 := Tryz.zeroValue20
  t37 := Tryz.underlying44
  a37 := Tryz.isAgg44
  z37 := Tryz.sizeOf44
  v37 := Tryz.zeroValue44
  t46 := Tryz.underlying71
  a46 := Tryz.isAgg71
  z46 := Tryz.sizeOf71
  v46 := Tryz.zeroValue71
  t51 := Tryz.underlying151
  a51 := Tryz.isAgg151
  z51 := Tryz.sizeOf151
  v51 := Tryz.zeroValue151
  t53 := Tryz.underlying113
  a53 := Tryz.isAgg113
  z53 := Tryz.sizeOf113
  v53 := Tryz.zeroValue113
  t171 := Tryz.underlying112
  a171 := Tryz.isAgg112
  z171 := Tryz.sizeOf112
  v171 := Tryz.zeroValue112
  t173 := Tryz.underlying116
  a173 := Tryz.isAgg116
  z173 := Tryz.sizeOf116
  v173 := Tryz.zeroValue116
  t212 := Tryz.underlying150
  a212 := Tryz.isAgg150
  z212 := Tryz.sizeOf150
  v212 := Tryz.zeroValue150
  t213 := Tryz.underlying152
  a213 := Tryz.isAgg152
  z213 := Tryz.sizeOf152
  t232 := Tryz.underlying186
  a232 := Tryz.isAgg186
  z232 := Tryz.sizeOf186
  v232 := Tryz.zeroValue186
  t233 := Tryz.underlying187
  a233 := Tryz.isAgg187
  z233 := Tryz.sizeOf187
  v233 := Tryz.zeroValue187
  g17 := by kernel_rfl
  g18 := by kernel_rfl
  g19 := by kernel_rfl
  i0 := by kernel_rfl
  i2 := by kernel_rfl
  i3 := by kernel_rfl
  i4 := by kernel_rfl
  i5 := by kernel_rfl
  i9 := by kernel_rfl
  i20 := by kernel_rfl
  i37 := by kernel_rfl
  i46 := by kernel_rfl
  i51 := by kernel_rfl
  i53 := by kernel_rfl
  i171 := by kernel_rfl
  i173 := by kernel_rfl
  i212 := by kernel_rfl
  i232 := by kernel_rfl
  i233 := by kernel_rfl
  m17 := by kernel_rfl
  m18 := by kernel_rfl
  m19 := by kernel_rfl }
open Go.RowKit Go.Sort Go.Lib in
theorem Tryz.strconv_Itoa (n : Int) (h0 : -9223372036854775808 ≤ n) (h1 : n ≤ 9223372036854775807) (w : World) (htab : Lib.TabIs Tryz.prog w "internal/strconv.uint64pow10" .u64 Lib.pow10Tab) :
    Calls Tryz.prog 59 #[.int .i64 n] w fun e w' => e = .returned (.string ⟨(Lib.itoa n).toArray⟩) ∧ ∃ k os, w' = grow (w.drewN k) os := Any.strconv_Itoa Tryz.laysM171 n h0 h1 w htab
end Go.Proofs
/- impl.ShowV4 by its contract. -/
namespace Go.Proofs.YtechmpdfbpehiaaGreatDoor
open Go.RowKit

theorem itoa_any (n : Nat) (w : World) (hn : n < 9223372036854775808) (htab : PowTab w) :
    Calls Tryz.prog 59 #[.int .i64 (n : Int)] w fun e w' => e = .returned (.string (decS n)) ∧ Below w.heap.size w w' := by
  refine (Tryz.strconv_Itoa (n : Int) (by omega) (by omega) w htab).mono ?_
  rintro e w' ⟨rfl, k, os, rfl⟩
  have he : (⟨(Lib.itoa (n : Int)).toArray⟩ : ByteArray) = decS n := by rw [Lib.itoa_nonneg, dec_lib]; rfl
  rw [he]
  exact ⟨rfl, Lib.below_grow _ w (Nat.le_refl _) k os⟩

set_option maxRecDepth 100000 in
set_option maxHeartbeats 2000000 in
theorem implShowV4_any (s : ByteArray) (w : World) (hT : PowTab w) :
    Calls Tryz.prog 75 #[.string s] w fun e w' => e = .returned (.tuple #[.string (showV4S s).1, .int .i64 (showV4S s).2]) ∧ Below w.heap.size w w' := by
  by_cases h4 : s.size = 4
  · have HR : Hid (showV4S s = (⟨(v4Text s).toArray⟩, 0)) := by show _ = _; rw [showV4S, if_pos h4]
    obtain ⟨i0, hi, hz0, hz1, hz2⟩ := info_parts Tryz.infoStr
    have hn4 : ((s.size : Int) != 4) = false := by simp; omega
    have HH4 := Nm.hide h4
    have hs4 : (s.size : Int) ≤ 4 := by omega
    have hs4' : s.size ≤ 4 := by omega
    clear h4
    go_enter Tryz.func75, Tryz.ntmps75
    go_wp2
    go_loopw [4, 11] (fun v i wr => ∃ (k : Nat) (ls : List ByteArray), k ≤ s.size ∧ i = .int .i64 k ∧ Hid (ls = v4Parts (s.data.toList.take k)) ∧ ls.length ≤ k ∧ wr.ownsRow w.heap.size 9 1 v ls.length (ls.map Value.string) ∧ Below w.heap.size w wr)
      (fun _ i _ => s.size - (intOf i).toNat)
    case atStart => exact ⟨0, [], Nat.zero_le _, rfl, rfl, Nat.le_refl _, World.ownsRow_nil _ _ _ _, Below.refl _ _⟩
    case round =>
      obtain ⟨k, ls, hk, rfl, HL, hll, hown, hbel⟩ := hrel
      have hsz := hbel.size
      by_cases hlt : k < s.size
      · have hlt' : (k : Int) < (s.size : Int) := by omega
        have hc : (s[k].toNat : Int) < 256 := by have := s[k].toNat_lt; omega
        have HN := Nm.hide (v4Parts_step (Nm.get_data hlt))
        have hit := itoa_any s[k].toNat wr (by have := s[k].toNat_lt; omega) (hT.below hbel)
        generalize decS s[k].toNat = D at *
        go_wp2_with (first | (go_at_call 59; refine hit.mono ?_; rintro e w3 ⟨rfl, hb3⟩; have hown3 := own_below hown hb3; have hbel3 := Nm.below_two hbel hb3; have hsz3 := hbel3.size; clear hb3) | (at_builtin; refine wpList_append_own _ rfl (.tmp 14) (.tmp 20) 55 rfl w.heap.size 9 i0 (.string ByteArray.empty) 1 16 Tryz.underlying55 hi hz0 hz1 hz2 rfl (by decide) _ _ _ rfl (hown3.alloc _) ⟨w3.heap.size, 0, none⟩ 1 1 [.string D] rfl rfl (cell_new1 _ _ _) (Nm.one_cell _ rfl) (by unfold maxLen; omega) (by omega) (by simp; omega) ?_))
        intro v' w4 hown' hgrow _
        have RR := own_step (x := D) hsz3 hown3 hbel3 _ hown' hgrow
        clear hown' hgrow hown3 hbel3 hown hbel
        go_wp2
        go_roundw
        case rel => exact ⟨k + 1, ls ++ [D], by omega, by go_num, by show _ = _; rw [HN.out, HL.out], by simp; omega, RR.1, RR.2⟩
        case measure => simp [intOf]; omega
      · have hke : k = s.size := by omega
        have HE : Hid (ls = v4Parts s.data.toList) := by show _ = _; rw [HL.out, hke, List.take_of_length_le (by simp)]
        have hl4 : ls.length = 4 := by rw [HE.out, v4Parts]; simp; exact HH4.out
        obtain ⟨a, cap, rfl, hcap, hmx, hnl, hc⟩ := Nm.SRow.of_owns hown
        obtain ⟨b, off, rfl, hcell⟩ := hc (by intro e; rw [e] at hl4; simp at hl4)
        have hx20 : ∀ x ∈ ls, x.size ≤ 20 := by
          intro x hx
          rw [HE.out, v4Parts] at hx
          obtain ⟨c, _, rfl⟩ := List.mem_map.1 hx
          exact dec_small c.toNat_lt
        have hjl := join_len ls hx20
        obtain ⟨x0, hx0⟩ : ∃ x0, ls[0]? = some x0 := ⟨_, List.getElem?_eq_getElem (by omega)⟩
        have hbk : b < wr.heap.size := World.block_lt_of_cell? wr _ (hcell 0 x0 hx0)
        have hj := Tryz.strings_Join b off cap ls ⟨#[46]⟩ wr hcell hbk (by omega) hcap (by show (Lib.join _ [46]).length ≤ _; omega)
        have HJ : Hid ((⟨(Lib.join (ls.map (·.data.toList)) (⟨#[46]⟩ : ByteArray).data.toList).toArray⟩ : ByteArray) = ⟨(v4Text s).toArray⟩) := by
          show _ = _
          rw [HE.out]
          exact v4_joined s
        rw [HJ.out, hl4] at hj
        rw [hl4]
        clear hown hcell hc hnl hjl hx20 hcap hl4
        generalize (⟨(v4Text s).toArray⟩ : ByteArray) = T at *
        go_wp2_with (go_at_call 61; refine hj.mono ?_; rintro e w2 ⟨rfl, hb2⟩)
        go_ret2
        rw [HR.out]
        exact ⟨rfl, Nm.below_two hbel hb2⟩
  · have HR : Hid (showV4S s = (⟨#[]⟩, 7)) := by show _ = _; rw [showV4S, if_neg h4]
    have hn4 : ((s.size : Int) != 4) = true := by simp; omega
    go_enter Tryz.func75, Tryz.ntmps75
    go_wp2
    go_ret2
    rw [HR.out]
    exact ⟨rfl, Below.refl _ _⟩
end Go.Proofs.YtechmpdfbpehiaaGreatDoor
/- impl.joinWords by its contract. -/
namespace Go.Proofs.YtechmpdfbpehiaaGreatDoor
open Go.RowKit

/-- Words with a blank between each two. -/
def joinS (ls : List ByteArray) : ByteArray := ⟨(Lib.join (ls.map (·.data.toList)) [32]).toArray⟩

set_option maxRecDepth 100000 in
set_option maxHeartbeats 1000000 in
theorem joinWords_any (v : Value) (ls : List ByteArray) (w : World) {B : Nat} (hown : w.ownsRow B 9 1 v ls.length (ls.map Value.string)) (hlen : (joinS ls).size ≤ 1000000000) (hl : ls.length ≤ 100000000) :
    Calls Tryz.prog 44 #[v] w fun e w' => e = .returned (.string (joinS ls)) ∧ Below w.heap.size w w' := by
  have hsz : (Lib.join (ls.map (·.data.toList)) [32]).length ≤ 1000000000 := hlen
  rcases hown.2 with ⟨rfl, h0⟩ | ⟨g, cap, cur, rfl, hb, hg, hnc, hm, hcs, ht⟩
  · have hls : ls = [] := List.eq_nil_of_length_eq_zero h0
    subst hls
    have hj := Tryz.strings_Join_none none 0 ⟨#[32]⟩ w
    have HE : Hid (joinS [] = ⟨#[]⟩) := rfl
    go_enter Tryz.func44, Tryz.ntmps44
    go_wp2_with (go_at_call 61; refine hj.mono ?_; rintro e w2 ⟨rfl, hw⟩; obtain rfl : w = w2 := hw.symm; clear hw)
    go_ret
    rw [HE.out]
    exact ⟨rfl, Below.refl _ _⟩
  · have hcell : ∀ (j : Nat) (x : ByteArray), ls[j]? = some x → w.cell? ⟨g, 0 + j, none⟩ = some (.string x) := by
      intro j x hx
      have := hown.cells (g := g) rfl j (.string x) (by rw [List.getElem?_map, hx]; rfl)
      rw [Nm.addr_add] at this
      exact this
    have hj := Tryz.strings_Join g 0 cap ls ⟨#[32]⟩ w hcell (Array.getElem?_eq_some_iff.1 hg).1 (by omega) hnc (by show (Lib.join _ [32]).length ≤ _; omega)
    have HE : Hid ((⟨(Lib.join (ls.map (·.data.toList)) [32]).toArray⟩ : ByteArray) = joinS ls) := rfl
    rw [show (⟨#[32]⟩ : ByteArray).data.toList = [32] from rfl, HE.out] at hj
    clear hcell hlen hsz HE hown ht
    generalize joinS ls = J at *
    go_enter Tryz.func44, Tryz.ntmps44
    go_wp2_with (go_at_call 61; refine hj.mono ?_; rintro e w2 ⟨rfl, hb2⟩)
    go_ret
    exact ⟨rfl, hb2⟩
end Go.Proofs.YtechmpdfbpehiaaGreatDoor
