/- impl.ShowV4 by its contract. -/
import Derived.Test.YtakonfkefoeenaaDoorV4T
import Derived.Test.YtakonfkefoeenaaDoorPowT
import Derived.Test.YtakonfkefoeenaaDoorRows
import Derived.WalkSpells
import Derived.WalkLawsBesides
import Derived.Test.YtakonfkefoeenaaDoorOwnS
import Derived.Test.YtakonfkefoeenaaDoorShelfJ
import Derived.Lib.AppendIntMem
import Derived.Lib.ItoaMem
import Derived.Deep.AppendLies
namespace Go.Proofs.YtakonfkefoeenaaDoor
open Go.RowKit

theorem itoa_any (n : Nat) (w : World) (hn : n < 9223372036854775808) (htab : PowTab w) :
    Calls Tryd.prog 7 #[.int .i64 (n : Int)] w fun e w' => e = .returned (.string (decS n)) ∧ Below w.heap.size w w' := by
  refine (Tryd.strconv_Itoa (n : Int) (by omega) (by omega) w htab).mono ?_
  rintro e w' ⟨rfl, k, os, rfl⟩
  have he : (⟨(Lib.itoa (n : Int)).toArray⟩ : ByteArray) = decS n := by rw [Lib.itoa_nonneg, dec_lib]; rfl
  rw [he]
  exact ⟨rfl, Lib.below_grow _ w (Nat.le_refl _) k os⟩

set_option maxRecDepth 100000 in
set_option maxHeartbeats 2000000 in
theorem implShowV4_any (s : ByteArray) (w : World) (hT : PowTab w) :
    Calls Tryd.prog 5 #[.string s] w fun e w' => e = .returned (.tuple #[.string (showV4S s).1, .int .i64 (showV4S s).2]) ∧ Below w.heap.size w w' := by
  by_cases h4 : s.size = 4
  · have HR : Hid (showV4S s = (⟨(v4Text s).toArray⟩, 0)) := by show _ = _; rw [showV4S, if_pos h4]
    obtain ⟨i0, hi, hz0, hz1, hz2⟩ := info_parts Tryd.infoStr
    have hn4 : ((s.size : Int) != 4) = false := by simp; omega
    have HH4 := Nm.hide h4
    have hs4 : (s.size : Int) ≤ 4 := by omega
    have hs4' : s.size ≤ 4 := by omega
    clear h4
    go_enter Tryd.func5, Tryd.ntmps5
    go_wp2
    go_loopw [4, 11] (fun v i wr => ∃ (k : Nat) (ls : List ByteArray), k ≤ s.size ∧ i = .int .i64 k ∧ Hid (ls = v4Parts (s.data.toList.take k)) ∧ ls.length ≤ k ∧ wr.ownsRow w.heap.size 9 1 v ls.length (ls.map Value.string) ∧ Below w.heap.size w wr)
      (fun _ i _ => s.size - (intOf i).toNat)
    case atStart => exact ⟨0, [], Nat.zero_le _, rfl, rfl, Nat.le_refl _, World.ownsRow_nil _ _ _ _, Below.refl _ _⟩
    case round =>
      obtain ⟨k, ls, hk, rfl, HL, hll, hown, hbel⟩ := hrel
      have hsz := hbel.size
      by_cases hlt : k < s.size
      · have hlt' : (k : Int) < (s.size : Int) := by omega
        have hc : (s[k].toNat : Int) < 256 := by have := s[k].toNat_lt; omega
        have HN := Nm.hide (v4Parts_step (Nm.get_data hlt))
        have hit := itoa_any s[k].toNat wr (by have := s[k].toNat_lt; omega) (hT.below hbel)
        generalize decS s[k].toNat = D at *
        go_wp2_with (first | (go_at_call 7; refine hit.mono ?_; rintro e w3 ⟨rfl, hb3⟩; have hown3 := own_below hown hb3; have hbel3 := Nm.below_two hbel hb3; have hsz3 := hbel3.size; clear hb3) | (at_builtin; refine wpList_append_own _ rfl (.tmp 14) (.tmp 20) 26 rfl w.heap.size 9 i0 (.string ByteArray.empty) 1 16 Tryd.underlying26 hi hz0 hz1 hz2 rfl (by decide) _ _ _ rfl (hown3.alloc _) ⟨w3.heap.size, 0, none⟩ 1 1 [.string D] rfl rfl (cell_new1 _ _ _) (Nm.one_cell _ rfl) (by unfold maxLen; omega) (by omega) (by simp; omega) ?_))
        intro v' w4 hown' hgrow _
        have RR := own_step (x := D) hsz3 hown3 hbel3 _ hown' hgrow
        clear hown' hgrow hown3 hbel3 hown hbel
        go_wp2
        go_roundw
        case rel => exact ⟨k + 1, ls ++ [D], by omega, by go_num, by show _ = _; rw [HN.out, HL.out], by simp; omega, RR.1, RR.2⟩
        case measure => simp [intOf]; omega
      · have hke : k = s.size := by omega
        have HE : Hid (ls = v4Parts s.data.toList) := by show _ = _; rw [HL.out, hke, List.take_of_length_le (by simp)]
        have hl4 : ls.length = 4 := by rw [HE.out, v4Parts]; simp; exact HH4.out
        obtain ⟨a, cap, rfl, hcap, hmx, hnl, hc⟩ := Nm.SRow.of_owns hown
        obtain ⟨b, off, rfl, hcell⟩ := hc (by intro e; rw [e] at hl4; simp at hl4)
        have hx20 : ∀ x ∈ ls, x.size ≤ 20 := by
          intro x hx
          rw [HE.out, v4Parts] at hx
          obtain ⟨c, _, rfl⟩ := List.mem_map.1 hx
          exact dec_small c.toNat_lt
        have hjl := join_len ls hx20
        obtain ⟨x0, hx0⟩ : ∃ x0, ls[0]? = some x0 := ⟨_, List.getElem?_eq_getElem (by omega)⟩
        have hbk : b < wr.heap.size := World.block_lt_of_cell? wr _ (hcell 0 x0 hx0)
        have hj := Tryd.strings_Join b off cap ls ⟨#[46]⟩ wr hcell hbk (by omega) hcap (by show (Lib.join _ [46]).length ≤ _; omega)
        have HJ : Hid ((⟨(Lib.join (ls.map (·.data.toList)) (⟨#[46]⟩ : ByteArray).data.toList).toArray⟩ : ByteArray) = ⟨(v4Text s).toArray⟩) := by
          show _ = _
          rw [HE.out]
          exact v4_joined s
        rw [HJ.out, hl4] at hj
        rw [hl4]
        clear hown hcell hc hnl hjl hx20 hcap hl4
        generalize (⟨(v4Text s).toArray⟩ : ByteArray) = T at *
        go_wp2_with (go_at_call 8; refine hj.mono ?_; rintro e w2 ⟨rfl, hb2⟩)
        go_ret2
        rw [HR.out]
        exact ⟨rfl, Nm.below_two hbel hb2⟩
  · have HR : Hid (showV4S s = (⟨#[]⟩, 7)) := by show _ = _; rw [showV4S, if_neg h4]
    have hn4 : ((s.size : Int) != 4) = true := by simp; omega
    go_enter Tryd.func5, Tryd.ntmps5
    go_wp2
    go_ret2
    rw [HR.out]
    exact ⟨rfl, Below.refl _ _⟩
end Go.Proofs.YtakonfkefoeenaaDoor
