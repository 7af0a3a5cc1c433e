import Derived.Shelf.Strings.Builder1
import Derived.Shelf.Strings.Builder2
import Derived.Shelf.Strings.OnBuilder
import Derived.Shelf.Small.Strs
import Derived.Shelf.Strconv.Itoa0
import Derived.Shelf.Strconv.Itoa1
import Derived.Shelf.LaysM
import Derived.Shelf.Strconv.Itoa2
import Derived.Shelf.Strconv.Itoa3
import Derived.Shelf.Strconv.Itoa4
import Derived.Shelf.Strings.Search1
import Derived.Shelf.Strings.Search2
import Derived.Shelf.Strings.Search3
import Derived.Shelf.Strings.Cut
import Derived.Shelf.Strings.Count
import Derived.Shelf.Strings.Shaped
import Derived.Shelf.Strings.Split
import Derived.Shelf.Strings.SplitShaped
import Derived.Shelf.Bits.Mul64
import Derived.Shelf.Unicode.DecodeSlow
import Derived.Test.YtephbegencpllaaGreatDoorProg
import Derived.Test.YtephbegencpllaaGreatDoorJCutM
import Derived.Test.YtephbegencpllaaGreatDoorJTxtM
import Derived.Test.YtephbegencpllaaGreatDoorRows
import Derived.WalkSpells
import Derived.WalkLawsBesides
import Derived.Test.YtephbegencpllaaGreatDoorJMath
import Derived.Test.YtephbegencpllaaGreatDoorJData1
import Derived.Lib.AppendIntMem
import Derived.Lib.ItoaMem
import Derived.Deep.AppendLies
/- Contracts of the library at this dump. -/
namespace Go.Proofs
open Go.Shelf
def Tryz.laysM171_ren : Go.Shelf.Ren := ⟨fun | 171 => 21 | 243 => 47 | 246 => 94 | 283 => 118 | 284 => 119 | 285 => 120 | 286 => 121 | 129 => 140 | 317 => 139 | 318 => 141 | 319 => 142 | 320 => 143 | 337 => 154 | 338 => 155 | n => n, fun | 3 => 3 | 9 => 9 | 2 => 2 | 4 => 4 | 171 => 140 | 0 => 0 | 53 => 141 | 37 => 48 | 5 => 5 | 173 => 144 | 212 => 165 | 51 => 152 | 20 => 20 | 213 => 166 | 46 => 50 | 232 => 176 | 233 => 177 | n => n, fun | 17 => 1 | 18 => 3 | 19 => 4 | n => n⟩
theorem Tryz.laysM171 : Go.Proofs.LaysM.n171 Tryz.prog Tryz.laysM171_ren := {
  mixed := by kernel_rfl
  f129 := Tryz.func140.trans (congrArg some (by kernel_rfl))
  f171 := Tryz.func21.trans (congrArg some (by kernel_rfl))
  f243 := Tryz.func47.trans (congrArg some (by kernel_rfl))
  f246 := Tryz.func94.trans (congrArg some (by kernel_rfl))
  f283 := Tryz.func118.trans (congrArg some (by kernel_rfl))
  f284 := Tryz.func119.trans (congrArg some (by kernel_rfl))
  f285 := Tryz.func120.trans (congrArg some (by kernel_rfl))
  f286 := Tryz.func121.trans (congrArg some (by kernel_rfl))
  f317 := Tryz.func139.trans (congrArg some (by kernel_rfl))
  f318 := Tryz.func141.trans (congrArg some (by kernel_rfl))
  f319 := Tryz.func142.trans (congrArg some (by kernel_rfl))
  f320 := Tryz.func143.trans (congrArg some (by kernel_rfl))
  f337 := Tryz.func154.trans (congrArg some (by kernel_rfl))
  f338 := Tryz.func155.trans (congrArg some (by kernel_rfl))
  t0 := Tryz.underlying0
  a0 := Tryz.isAgg0
  z0 := Tryz.sizeOf0
  v0 := Tryz.zeroValue0
  t2 := Tryz.underlying2
  a2 := Tryz.isAgg2
  z2 := Tryz.sizeOf2
  v2 := Tryz.zeroValue2
  t3 := Tryz.underlying3
  a3 := Tryz.isAgg3
  z3 := Tryz.sizeOf3
  v3 := Tryz.zeroValue3
  t4 := Tryz.underlying4
  a4 := Tryz.isAgg4
  z4 := Tryz.sizeOf4
  v4 := Tryz.zeroValue4
  t5 := Tryz.underlying5
  a5 := Tryz.isAgg5
  z5 := Tryz.sizeOf5
  v5 := Tryz.zeroValue5
  t9 := Tryz.underlying9
  a9 := Tryz.isAgg9
  z9 := Tryz.sizeOf9
  v9 := Tryz.zeroValue9
  t20 := Tryz.underlying20
  a20 := Tryz.isAgg20
  z20 := Tryz.sizeOf20
  v20 := Tryz.zeroValue20
  t37 := Tryz.underlying48
  a37 := Tryz.isAgg48
  z37 := Tryz.sizeOf48
  v37 := Tryz.zeroValue48
  t46 := Tryz.underlying50
  a46 := Tryz.isAgg50
  z46 := Tryz.sizeOf50
  v46 := Tryz.zeroValue50
  t51 := Tryz.underlying152
  a51 := Tryz.isAgg152
  z51 := Tryz.sizeOf152
  v51 := Tryz.zeroValue152
  t53 := Tryz.underlying141
  a53 := Tryz.isAgg141
  z53 := Tryz.sizeOf141
  v53 := Tryz.zeroValue141
  t171 := Tryz.underlying140
  a171 := Tryz.isAgg140
  z171 := Tryz.sizeOf140
  v171 := Tryz.zeroValue140
  t173 := Tryz.underlying144
  a173 := Tryz.isAgg144
  z173 := Tryz.sizeOf144
  v173 := Tryz.zeroValue144
  t212 := Tryz.underlying165
  a212 := Tryz.isAgg165
  z212 := Tryz.sizeOf165
  v212 := Tryz.zeroValue165
  t213 := Tryz.underlying166
  a213 := Tryz.isAgg166
  z213 := Tryz.sizeOf166
  t232 := Tryz.underlying176
  a232 := Tryz.isAgg176
  z232 := Tryz.sizeOf176
  v232 := Tryz.zeroValue176
  t233 := Tryz.underlying177
  a233 := Tryz.isAgg177
  z233 := Tryz.sizeOf177
  v233 := Tryz.zeroValue177
  g17 := by kernel_rfl
  g18 := by kernel_rfl
  g19 := by kernel_rfl
  i0 := by kernel_rfl
  i2 := by kernel_rfl
  i3 := by kernel_rfl
  i4 := by kernel_rfl
  i5 := by kernel_rfl
  i9 := by kernel_rfl
  i20 := by kernel_rfl
  i37 := by kernel_rfl
  i46 := by kernel_rfl
  i51 := by kernel_rfl
  i53 := by kernel_rfl
  i171 := by kernel_rfl
  i173 := by kernel_rfl
  i212 := by kernel_rfl
  i232 := by kernel_rfl
  i233 := by kernel_rfl
  m17 := by kernel_rfl
  m18 := by kernel_rfl
  m19 := by kernel_rfl }
open Go.RowKit Go.Sort Go.Lib in
theorem Tryz.strconv_Itoa (n : Int) (h0 : -9223372036854775808 ≤ n) (h1 : n ≤ 9223372036854775807) (w : World) (htab : Lib.TabIs Tryz.prog w "internal/strconv.uint64pow10" .u64 Lib.pow10Tab) :
    Calls Tryz.prog 21 #[.int .i64 n] w fun e w' => e = .returned (.string ⟨(Lib.itoa n).toArray⟩) ∧ ∃ k os, w' = grow (w.drewN k) os := Any.strconv_Itoa Tryz.laysM171 n h0 h1 w htab
end Go.Proofs
/- impl.ShowV4 by its contract. -/
namespace Go.Proofs.YtephbegencpllaaGreatDoor
open Go.RowKit

theorem itoa_any (n : Nat) (w : World) (hn : n < 9223372036854775808) (htab : PowTab w) :
    Calls Tryz.prog 21 #[.int .i64 (n : Int)] w fun e w' => e = .returned (.string (decS n)) ∧ Below w.heap.size w w' := by
  refine (Tryz.strconv_Itoa (n : Int) (by omega) (by omega) w htab).mono ?_
  rintro e w' ⟨rfl, k, os, rfl⟩
  have he : (⟨(Lib.itoa (n : Int)).toArray⟩ : ByteArray) = decS n := by rw [Lib.itoa_nonneg, dec_lib]; rfl
  rw [he]
  exact ⟨rfl, Lib.below_grow _ w (Nat.le_refl _) k os⟩

set_option maxRecDepth 100000 in
set_option maxHeartbeats 2000000 in
theorem implShowV4_any (s : ByteArray) (w : World) (hT : PowTab w) :
    Calls Tryz.prog 39 #[.string s] w fun e w' => e = .returned (.tuple #[.string (showV4S s).1, .int .i64 (showV4S s).2]) ∧ Below w.heap.size w w' := by
  by_cases h4 : s.size = 4
  · have HR : Hid (showV4S s = (⟨(v4Text s).toArray⟩, 0)) := by show _ = _; rw [showV4S, if_pos h4]
    obtain ⟨i0, hi, hz0, hz1, hz2⟩ := info_parts Tryz.infoStr
    have hn4 : ((s.size : Int) != 4) = false := by simp; omega
    have HH4 := Nm.hide h4
    have hs4 : (s.size : Int) ≤ 4 := by omega
    have hs4' : s.size ≤ 4 := by omega
    clear h4
    go_enter Tryz.func39, Tryz.ntmps39
    go_wp2
    go_loopw [4, 11] (fun v i wr => ∃ (k : Nat) (ls : List ByteArray), k ≤ s.size ∧ i = .int .i64 k ∧ Hid (ls = v4Parts (s.data.toList.take k)) ∧ ls.length ≤ k ∧ wr.ownsRow w.heap.size 9 1 v ls.length (ls.map Value.string) ∧ Below w.heap.size w wr)
      (fun _ i _ => s.size - (intOf i).toNat)
    case atStart => exact ⟨0, [], Nat.zero_le _, rfl, rfl, Nat.le_refl _, World.ownsRow_nil _ _ _ _, Below.refl _ _⟩
    case round =>
      obtain ⟨k, ls, hk, rfl, HL, hll, hown, hbel⟩ := hrel
      have hsz := hbel.size
      by_cases hlt : k < s.size
      · have hlt' : (k : Int) < (s.size : Int) := by omega
        have hc : (s[k].toNat : Int) < 256 := by have := s[k].toNat_lt; omega
        have HN := Nm.hide (v4Parts_step (Nm.get_data hlt))
        have hit := itoa_any s[k].toNat wr (by have := s[k].toNat_lt; omega) (hT.below hbel)
        generalize decS s[k].toNat = D at *
        go_wp2_with (first | (go_at_call 21; refine hit.mono ?_; rintro e w3 ⟨rfl, hb3⟩; have hown3 := own_below hown hb3; have hbel3 := Nm.below_two hbel hb3; have hsz3 := hbel3.size; clear hb3) | (at_builtin; refine wpList_append_own _ rfl (.tmp 14) (.tmp 20) 27 rfl w.heap.size 9 i0 (.string ByteArray.empty) 1 16 Tryz.underlying27 hi hz0 hz1 hz2 rfl (by decide) _ _ _ rfl (hown3.alloc _) ⟨w3.heap.size, 0, none⟩ 1 1 [.string D] rfl rfl (cell_new1 _ _ _) (Nm.one_cell _ rfl) (by unfold maxLen; omega) (by omega) (by simp; omega) ?_))
        intro v' w4 hown' hgrow _
        have RR := own_step (x := D) hsz3 hown3 hbel3 _ hown' hgrow
        clear hown' hgrow hown3 hbel3 hown hbel
        go_wp2
        go_roundw
        case rel => exact ⟨k + 1, ls ++ [D], by omega, by go_num, by show _ = _; rw [HN.out, HL.out], by simp; omega, RR.1, RR.2⟩
        case measure => simp [intOf]; omega
      · have hke : k = s.size := by omega
        have HE : Hid (ls = v4Parts s.data.toList) := by show _ = _; rw [HL.out, hke, List.take_of_length_le (by simp)]
        have hl4 : ls.length = 4 := by rw [HE.out, v4Parts]; simp; exact HH4.out
        obtain ⟨a, cap, rfl, hcap, hmx, hnl, hc⟩ := Nm.SRow.of_owns hown
        obtain ⟨b, off, rfl, hcell⟩ := hc (by intro e; rw [e] at hl4; simp at hl4)
        have hx20 : ∀ x ∈ ls, x.size ≤ 20 := by
          intro x hx
          rw [HE.out, v4Parts] at hx
          obtain ⟨c, _, rfl⟩ := List.mem_map.1 hx
          exact dec_small c.toNat_lt
        have hjl := join_len ls hx20
        obtain ⟨x0, hx0⟩ : ∃ x0, ls[0]? = some x0 := ⟨_, List.getElem?_eq_getElem (by omega)⟩
        have hbk : b < wr.heap.size := World.block_lt_of_cell? wr _ (hcell 0 x0 hx0)
        have hj := Tryz.strings_Join b off cap ls ⟨#[46]⟩ wr hcell hbk (by omega) hcap (by show (Lib.join _ [46]).length ≤ _; omega)
        have HJ : Hid ((⟨(Lib.join (ls.map (·.data.toList)) (⟨#[46]⟩ : ByteArray).data.toList).toArray⟩ : ByteArray) = ⟨(v4Text s).toArray⟩) := by
          show _ = _
          rw [HE.out]
          exact v4_joined s
        rw [HJ.out, hl4] at hj
        rw [hl4]
        clear hown hcell hc hnl hjl hx20 hcap hl4
        generalize (⟨(v4Text s).toArray⟩ : ByteArray) = T at *
        go_wp2_with (go_at_call 46; refine hj.mono ?_; rintro e w2 ⟨rfl, hb2⟩)
        go_ret2
        rw [HR.out]
        exact ⟨rfl, Nm.below_two hbel hb2⟩
  · have HR : Hid (showV4S s = (⟨#[]⟩, 7)) := by show _ = _; rw [showV4S, if_neg h4]
    have hn4 : ((s.size : Int) != 4) = true := by simp; omega
    go_enter Tryz.func39, Tryz.ntmps39
    go_wp2
    go_ret2
    rw [HR.out]
    exact ⟨rfl, Below.refl _ _⟩
end Go.Proofs.YtephbegencpllaaGreatDoor
/- impl.joinWords by its contract. -/
namespace Go.Proofs.YtephbegencpllaaGreatDoor
open Go.RowKit

/-- Words with a blank between each two. -/
def joinS (ls : List ByteArray) : ByteArray := ⟨(Lib.join (ls.map (·.data.toList)) [32]).toArray⟩

set_option maxRecDepth 100000 in
set_option maxHeartbeats 1000000 in
theorem joinWords_any (v : Value) (ls : List ByteArray) (w : World) {B : Nat} (hown : w.ownsRow B 9 1 v ls.length (ls.map Value.string)) (hlen : (joinS ls).size ≤ 1000000000) (hl : ls.length ≤ 100000000) :
    Calls Tryz.prog 20 #[v] w fun e w' => e = .returned (.string (joinS ls)) ∧ Below w.heap.size w w' := by
  have hsz : (Lib.join (ls.map (·.data.toList)) [32]).length ≤ 1000000000 := hlen
  rcases hown.2 with ⟨rfl, h0⟩ | ⟨g, cap, cur, rfl, hb, hg, hnc, hm, hcs, ht⟩
  · have hls : ls = [] := List.eq_nil_of_length_eq_zero h0
    subst hls
    have hj := Tryz.strings_Join_none none 0 ⟨#[32]⟩ w
    have HE : Hid (joinS [] = ⟨#[]⟩) := rfl
    go_enter Tryz.func20, Tryz.ntmps20
    go_wp2_with (go_at_call 46; refine hj.mono ?_; rintro e w2 ⟨rfl, hw⟩; obtain rfl : w = w2 := hw.symm; clear hw)
    go_ret
    rw [HE.out]
    exact ⟨rfl, Below.refl _ _⟩
  · have hcell : ∀ (j : Nat) (x : ByteArray), ls[j]? = some x → w.cell? ⟨g, 0 + j, none⟩ = some (.string x) := by
      intro j x hx
      have := hown.cells (g := g) rfl j (.string x) (by rw [List.getElem?_map, hx]; rfl)
      rw [Nm.addr_add] at this
      exact this
    have hj := Tryz.strings_Join g 0 cap ls ⟨#[32]⟩ w hcell (Array.getElem?_eq_some_iff.1 hg).1 (by omega) hnc (by show (Lib.join _ [32]).length ≤ _; omega)
    have HE : Hid ((⟨(Lib.join (ls.map (·.data.toList)) [32]).toArray⟩ : ByteArray) = joinS ls) := rfl
    rw [show (⟨#[32]⟩ : ByteArray).data.toList = [32] from rfl, HE.out] at hj
    clear hcell hlen hsz HE hown ht
    generalize joinS ls = J at *
    go_enter Tryz.func20, Tryz.ntmps20
    go_wp2_with (go_at_call 46; refine hj.mono ?_; rintro e w2 ⟨rfl, hb2⟩)
    go_ret
    exact ⟨rfl, hb2⟩
end Go.Proofs.YtephbegencpllaaGreatDoor
