import Derived.Test.YtjokdmmlofbknaaDoorJIGrp
import Derived.Test.YtjokdmmlofbknaaDoorJFoldB
import Derived.Test.YtjokdmmlofbknaaDoorJJoin
import Derived.Shelf.Strings.Builder1
import Derived.Shelf.Strings.Builder2
import Derived.Shelf.Strings.OnBuilder
import Derived.Shelf.Strconv.Itoa0
import Derived.Shelf.Strconv.Itoa1
import Derived.Shelf.LaysM
import Derived.Shelf.Strconv.Itoa2
import Derived.Shelf.Strconv.Itoa3
import Derived.Shelf.Strconv.Itoa4
import Derived.Shelf.Strings.Search1
import Derived.Shelf.Strings.Search2
import Derived.Shelf.Strings.Search3
import Derived.Shelf.Strings.Cut
import Derived.Shelf.Strings.Count
import Derived.Shelf.Strings.Shaped
import Derived.Shelf.Strings.Split
import Derived.Shelf.Strings.SplitShaped
import Derived.Shelf.Unicode.DecodeSlow
import Derived.Test.YtjokdmmlofbknaaDoorProg
/- impl.readNumber by its contract. -/
namespace Go.Proofs.YtjokdmmlofbknaaDoor
open Go.RowKit

set_option maxRecDepth 100000 in
set_option maxHeartbeats 800000 in
theorem readNumber_any (s : ByteArray) (most : Nat) (w : World) (hm : most ≤ 17) :
    Calls Tryd.prog 32 #[.string s, .int .i64 (most : Int)] w fun e w' => e = .returned (numV (numO s most)) ∧ w' = w := by
  by_cases h1 : s.size < 1
  · have HN : Hid (numV (numO s most) = .tuple #[.int .i64 0, .bool false]) := by show _ = _; rw [numO_len (by omega)]; rfl
    obtain ⟨h1', _⟩ := beq_empty (s := s) (by omega)
    go_enter Tryd.func32, Tryd.ntmps32
    go_wp2
    go_ret2
    rw [HN.out]
    exact ⟨rfl, rfl⟩
  obtain ⟨h1', _⟩ := not_empty (s := s) (by omega)
  by_cases h2 : most < s.size
  · have HN : Hid (numV (numO s most) = .tuple #[.int .i64 0, .bool false]) := by show _ = _; rw [numO_len (by omega)]; rfl
    have h2' : (most : Int) < (s.size : Int) := by omega
    go_enter Tryd.func32, Tryd.ntmps32
    go_wp2
    go_ret2
    rw [HN.out]
    exact ⟨rfl, rfl⟩
  have h2' : (s.size : Int) ≤ (most : Int) := by omega
  go_enter Tryd.func32, Tryd.ntmps32
  go_wp2
  go_loop [6, 18] (fun u v => ∃ k : Nat, k ≤ s.size ∧ v = .int .i64 k ∧ u = .int .i64 ((numD (s.data.toList.take k) : Nat) : Int) ∧ ∀ j, j < k → (hj : j < s.size) → Nm.digB s[j] = true) (fun _ v => s.size - (intOf v).toNat)
  case atStart => exact ⟨0, Nat.zero_le _, rfl, rfl, fun j h => by omega⟩
  case round =>
    obtain ⟨k, hk, rfl, rfl, hd⟩ := hrel
    by_cases hlt : k < s.size
    · have hlt' : (k : Int) < (s.size : Int) := by omega
      have hdig := isDigit_any s[k]
      have hlim := numD_take hk hd
      have hp17 : 10 ^ k ≤ 10 ^ 17 := Nat.pow_le_pow_right (by decide) (by omega)
      have hp : (10 : Nat) ^ 17 = 100000000000000000 := by decide
      have hb : numD (s.data.toList.take k) < 100000000000000000 := by omega
      clear hlim hp17 hp
      cases hD : Nm.digB s[k] with
      | false =>
        have HN : Hid (numV (numO s most) = .tuple #[.int .i64 0, .bool false]) := by show _ = _; rw [numO_bad hlt hD]; rfl
        rw [hD] at hdig
        clear hD hd
        generalize numD (s.data.toList.take k) = m at *
        go_wp2_with (go_at_call 49; refine (hdig _).mono ?_; rintro e w1 ⟨rfl, hw⟩; obtain rfl : w = w1 := hw.symm; clear hw)
        go_ret2
        rw [HN.out]
        exact ⟨rfl, rfl⟩
      | true =>
        have hc : 48 ≤ s[k].toNat ∧ s[k].toNat ≤ 57 := by simp [Nm.digB] at hD; omega
        have hc1 : (48 : Int) ≤ (s[k].toNat : Int) := by omega
        have hc2 : (s[k].toNat : Int) ≤ 57 := by omega
        have e1 : s.data.toList.take (k + 1) = s.data.toList.take k ++ [s[k]] := Nm.take_step (Nm.get_data hlt)
        have e2 := numD_snoc (s.data.toList.take k) s[k]
        rw [← e1] at e2
        have HD : Hid (∀ j, j < k + 1 → (hj : j < s.size) → Nm.digB s[j] = true) := by
          show ∀ j, _
          intro j hj hjs
          by_cases e : j = k
          · subst e; exact hD
          · exact hd j (by omega) hjs
        have HV : Hid (((numD (s.data.toList.take (k + 1)) : Nat) : Int) = (numD (s.data.toList.take k) : Int) * 10 + ((s[k].toNat : Int) - 48)) := by
          show _ = _
          rw [e2]; omega
        rw [hD] at hdig
        clear hD hd e1 e2
        generalize numD (s.data.toList.take k) = m at *
        go_wp2_with (go_at_call 49; refine (hdig _).mono ?_; rintro e w1 ⟨rfl, hw⟩; obtain rfl : w = w1 := hw.symm; clear hw)
        go_round
        case rel => exact ⟨k + 1, by omega, by go_num, by rw [HV.out]; go_num, HD.out⟩
        case measure => simp [intOf]; omega
    · have hlt' : (s.size : Int) ≤ (k : Int) := by omega
      have hks : k = s.size := by omega
      have HN : Hid (numV (numO s most) = .tuple #[.int .i64 ((numD (s.data.toList.take k) : Nat) : Int), .bool true]) := by
        show _ = _
        rw [numO_good (by omega) (by omega) (fun j hj => hd j (by omega) hj), hks, List.take_of_length_le (by simp)]; rfl
      clear hd
      generalize numD (s.data.toList.take k) = m at *
      go_wp2
      go_ret2
      rw [HN.out]
      exact ⟨rfl, rfl⟩
end Go.Proofs.YtjokdmmlofbknaaDoor
/- Contracts of the library at this dump. -/
namespace Go.Proofs
open Go.Shelf
def Tryd.laysM147_ren : Go.Shelf.Ren := ⟨fun | 147 => 31 | 221 => 48 | 268 => 63 | 138 => 64 | 143 => 65 | 195 => 79 | 197 => 80 | 218 => 81 | 219 => 61 | 260 => 86 | 217 => 75 | 225 => 76 | 224 => 77 | 267 => 78 | 266 => 84 | 314 => 85 | n => n, fun | 9 => 9 | 3 => 3 | 31 => 45 | 4 => 4 | 0 => 0 | 105 => 132 | 21 => 21 | 5 => 5 | 46 => 77 | 119 => 139 | 139 => 142 | 138 => 141 | 146 => 135 | 51 => 124 | n => n, fun | 1 => 2 | 3 => 5 | 4 => 6 | n => n⟩
theorem Tryd.laysM147 : Go.Proofs.LaysM.n147 Tryd.prog Tryd.laysM147_ren := {
  mixed := by kernel_rfl
  f138 := Tryd.func64.trans (congrArg some (by kernel_rfl))
  f143 := Tryd.func65.trans (congrArg some (by kernel_rfl))
  f147 := Tryd.func31.trans (congrArg some (by kernel_rfl))
  f195 := Tryd.func79.trans (congrArg some (by kernel_rfl))
  f197 := Tryd.func80.trans (congrArg some (by kernel_rfl))
  f217 := Tryd.func75.trans (congrArg some (by kernel_rfl))
  f218 := Tryd.func81.trans (congrArg some (by kernel_rfl))
  f219 := Tryd.func61.trans (congrArg some (by kernel_rfl))
  f221 := Tryd.func48.trans (congrArg some (by kernel_rfl))
  f224 := Tryd.func77.trans (congrArg some (by kernel_rfl))
  f225 := Tryd.func76.trans (congrArg some (by kernel_rfl))
  f260 := Tryd.func86.trans (congrArg some (by kernel_rfl))
  f266 := Tryd.func84.trans (congrArg some (by kernel_rfl))
  f267 := Tryd.func78.trans (congrArg some (by kernel_rfl))
  f268 := Tryd.func63.trans (congrArg some (by kernel_rfl))
  f314 := Tryd.func85.trans (congrArg some (by kernel_rfl))
  t0 := Tryd.underlying0
  a0 := Tryd.isAgg0
  z0 := Tryd.sizeOf0
  v0 := Tryd.zeroValue0
  t3 := Tryd.underlying3
  a3 := Tryd.isAgg3
  z3 := Tryd.sizeOf3
  v3 := Tryd.zeroValue3
  t4 := Tryd.underlying4
  a4 := Tryd.isAgg4
  z4 := Tryd.sizeOf4
  v4 := Tryd.zeroValue4
  t5 := Tryd.underlying5
  a5 := Tryd.isAgg5
  z5 := Tryd.sizeOf5
  v5 := Tryd.zeroValue5
  t9 := Tryd.underlying9
  a9 := Tryd.isAgg9
  z9 := Tryd.sizeOf9
  v9 := Tryd.zeroValue9
  t21 := Tryd.underlying21
  a21 := Tryd.isAgg21
  z21 := Tryd.sizeOf21
  v21 := Tryd.zeroValue21
  t31 := Tryd.underlying45
  a31 := Tryd.isAgg45
  z31 := Tryd.sizeOf45
  v31 := Tryd.zeroValue45
  t46 := Tryd.underlying77
  a46 := Tryd.isAgg77
  z46 := Tryd.sizeOf77
  v46 := Tryd.zeroValue77
  t51 := Tryd.underlying124
  a51 := Tryd.isAgg124
  z51 := Tryd.sizeOf124
  v51 := Tryd.zeroValue124
  t105 := Tryd.underlying132
  a105 := Tryd.isAgg132
  z105 := Tryd.sizeOf132
  v105 := Tryd.zeroValue132
  t119 := Tryd.underlying139
  a119 := Tryd.isAgg139
  z119 := Tryd.sizeOf139
  t138 := Tryd.underlying141
  a138 := Tryd.isAgg141
  z138 := Tryd.sizeOf141
  v138 := Tryd.zeroValue141
  t139 := Tryd.underlying142
  a139 := Tryd.isAgg142
  z139 := Tryd.sizeOf142
  v139 := Tryd.zeroValue142
  t146 := Tryd.underlying135
  a146 := Tryd.isAgg135
  z146 := Tryd.sizeOf135
  v146 := Tryd.zeroValue135
  g1 := by kernel_rfl
  g3 := by kernel_rfl
  g4 := by kernel_rfl
  i0 := by kernel_rfl
  i3 := by kernel_rfl
  i4 := by kernel_rfl
  i5 := by kernel_rfl
  i9 := by kernel_rfl
  i21 := by kernel_rfl
  i31 := by kernel_rfl
  i46 := by kernel_rfl
  i51 := by kernel_rfl
  i105 := by kernel_rfl
  i138 := by kernel_rfl
  i139 := by kernel_rfl
  i146 := by kernel_rfl
  m1 := by kernel_rfl
  s1_3 := fun w h => Go.Proofs.cell_of_shapedOpen_int (zero := #[.int .i64 0]) (t := 3) h (of_decide_eq_true (by kernel_rfl)) (by kernel_rfl) rfl (by kernel_rfl) (by kernel_rfl) Tryd.underlying3
  m3 := by kernel_rfl
  m4 := by kernel_rfl }
open Go.RowKit Go.Lib in
theorem Tryd.strings_SplitN_shaped (s sep : ByteArray) (n : Nat) (w : World) (h : w.ShapedOpen Tryd.prog) (hs : s.size < 4294967281) (h1 : 1 ≤ sep.size) (hn : 1 ≤ n) (hn63 : n ≤ 9223372036854775807) :
    Calls Tryd.prog 31 #[.string s, .string sep, .int .i64 n] w fun e w' =>
      e = .returned (.slice (some ⟨w.heap.size, 0, none⟩) (Lib.splitB sep 0 (min n (s.size + 1) - 1) s).length (min n (s.size + 1))) ∧ w' = w.alloc (.cells (Lib.cellsOf (Lib.splitB sep 0 (min n (s.size + 1) - 1) s) (min n (s.size + 1))) 9) := Any.strings_SplitN_shaped Tryd.laysM147 s sep n w h hs h1 hn hn63
end Go.Proofs
