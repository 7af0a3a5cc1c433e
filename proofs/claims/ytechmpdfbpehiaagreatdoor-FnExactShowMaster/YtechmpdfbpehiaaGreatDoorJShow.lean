import Derived.Test.YtechmpdfbpehiaaGreatDoorJMath
import Derived.Test.YtechmpdfbpehiaaGreatDoorJNameSz
import Derived.Deep.AppendLies
import Derived.Test.YtechmpdfbpehiaaGreatDoorRows
import Derived.WalkSpells
import Derived.WalkLawsBesides
import Derived.Laws.OwnMore
/- impl.ShowName and what it calls, by their contracts. -/
namespace Go.Proofs.YtechmpdfbpehiaaGreatDoor
open Go.RowKit

theorem idx_run (s : ByteArray) (c : Int) (w : World) : (callFunc 151 #[.string s, .int .u8 c]).run Tryz.prog w = .ok (.value (.int .i64 (firstIdx s c.toNat.toUInt8))) w := by
  rw [run_callFunc_extern Tryz.func151 (by kernel_rfl) (by kernel_rfl) (by kernel_rfl) (e := Extern.BytealgIndexByte.indexByte) (by kernel_rfl), run_indexByte_string]
  rfl

theorem ret_bool {a b : Bool} (h : a = b) : Ending.returned (.bool a) = .returned (.bool b) := by rw [h]

set_option maxRecDepth 100000 in
set_option maxHeartbeats 400000 in
theorem isMark_any (c : UInt8) (w : World) :
    Calls Tryz.prog 66 #[.int .u8 c.toNat] w fun e w' => e = .returned (.bool (Nm.markB c)) ∧ w' = w := by
  have hi := idx_run ⟨#[46, 92, 34, 59, 40, 41, 64, 36]⟩ (c.toNat : Int)
  rw [Nm.u8_back] at hi
  have hm := Nm.mark_idx c
  generalize firstIdx ⟨#[46, 92, 34, 59, 40, 41, 64, 36]⟩ c = f at *
  have HM : Hid (decide (0 ≤ f) = Nm.markB c) := hm
  clear hm
  go_enter Tryz.func66, Tryz.ntmps66
  go_wp2
  go_ret
  rw [← HM.out]
  exact ⟨rfl, rfl⟩

set_option maxRecDepth 100000 in
set_option maxHeartbeats 800000 in
theorem showByte_any (v : Value) (n B : Nat) (l : List UInt8) (c : UInt8) (w : World) (hown : w.ownsRow B 5 1 v n (Nm.bys l)) (hB : B ≤ w.heap.size) (hn : n ≤ 1000000000) :
    Calls Tryz.prog 57 #[v, .int .u8 c.toNat] w fun e w' => ∃ v', e = .returned v' ∧ w'.ownsRow B 5 1 v' (n + (Nm.showB c).length) (Nm.bys (l ++ Nm.showB c)) ∧ Below B w w' := by
  obtain ⟨j0, hj, k0, k1, k2⟩ := info_parts Tryz.infoU8
  have him := isMark_any c w
  have hcl : (c.toNat : Int) < 256 := by have := c.toNat_lt; omega
  cases hm : Nm.markB c with
  | true =>
    have HS : Hid (Nm.showB c = [92] ++ [c]) := Nm.showB_mark hm
    rw [hm] at him
    clear hm
    go_enter Tryz.func57, Tryz.ntmps57
    go_wp2_with fail
    refine him.mono ?_
    rintro e w1 ⟨rfl, rfl⟩
    go_wp2_with (first | (at_builtin; refine wpList_append_own _ rfl (.tmp 15) (.tmp 16) 44 rfl B 5 j0 (.int .u8 0) 1 1 Tryz.underlying44 hj k0 k1 k2 rfl (by decide) _ _ _ rfl (hown.alloc _) ⟨w1.heap.size, 0, none⟩ 1 1 [.int .u8 92] rfl rfl (cell_one_new _ _ _) (Nm.one_cell _ rfl) (by unfold maxLen; omega) (by omega) (by simp; omega) ?_; intro va wa hown1 hgrow1 hnl1; clear hnl1; have R1 := Nm.bys_step (x := [92]) (by simp; omega) (hown.alloc _) ((Below.refl B w1).alloc hB _) hown1 hgrow1; clear hown1 hgrow1; have hsa := R1.2.size) | (at_builtin; refine wpList_append_own _ rfl (.tmp 18) (.tmp 20) 44 rfl B 5 j0 (.int .u8 0) 1 1 Tryz.underlying44 hj k0 k1 k2 rfl (by decide) _ _ _ rfl (R1.1.alloc _) ⟨wa.heap.size, 0, none⟩ 1 1 [.int .u8 (c.toNat : Int)] rfl rfl (cell_one_new _ _ _) (Nm.one_cell _ rfl) (by unfold maxLen; omega) (by omega) (by simp; omega) ?_; intro vb wb hown2 hgrow2 hnl2; clear hnl2; have R2 := Nm.bys_step (x := [c]) (by simp; omega) (R1.1.alloc _) (R1.2.alloc (by omega) _) hown2 hgrow2; clear hown2 hgrow2))
    go_ret
    rw [HS.out, ← List.append_assoc]
    exact ⟨_, rfl, R2.1, R2.2⟩
  | false =>
    rw [hm] at him
    by_cases hp : 33 ≤ c.toNat ∧ c.toNat ≤ 126
    · have HS : Hid (Nm.showB c = [c]) := Nm.showB_plain hm hp
      have d1 : decide ((33 : Int) ≤ (c.toNat : Int)) = true := by simp; omega
      have d2 : decide ((c.toNat : Int) ≤ 126) = true := by simp; omega
      clear hm hp
      go_enter Tryz.func57, Tryz.ntmps57
      go_wp2_with fail
      refine him.mono ?_
      rintro e w1 ⟨rfl, rfl⟩
      go_wp2_with (at_builtin; refine wpList_append_own _ rfl (.tmp 18) (.tmp 20) 44 rfl B 5 j0 (.int .u8 0) 1 1 Tryz.underlying44 hj k0 k1 k2 rfl (by decide) _ _ _ rfl (hown.alloc _) ⟨w1.heap.size, 0, none⟩ 1 1 [.int .u8 (c.toNat : Int)] rfl rfl (cell_one_new _ _ _) (Nm.one_cell _ rfl) (by unfold maxLen; omega) (by omega) (by simp; omega) ?_; intro vb wb hown2 hgrow2 hnl2; clear hnl2; have R2 := Nm.bys_step (x := [c]) (by simp; omega) (hown.alloc _) ((Below.refl B w1).alloc hB _) hown2 hgrow2; clear hown2 hgrow2)
      go_ret
      rw [HS.out]
      exact ⟨_, rfl, R2.1, R2.2⟩
    · have HS : Hid (Nm.showB c = 92 :: Nm.threeL c) := Nm.showB_num hm hp
      by_cases hlow : 33 ≤ c.toNat
      · have d1 : decide ((33 : Int) ≤ (c.toNat : Int)) = true := by simp; omega
        have d2 : decide ((c.toNat : Int) ≤ 126) = false := by simp; omega
        clear hm hp
        go_enter Tryz.func57, Tryz.ntmps57
        go_wp2_with fail
        refine him.mono ?_
        rintro e w1 ⟨rfl, rfl⟩
        go_wp2_with (go_at_call 67; refine (showNumber_any _ n B l c _ hown hB (by omega)).mono ?_; rintro e w2 ⟨v2, rfl, o2, b2⟩)
        go_ret
        rw [HS.out]
        exact ⟨_, rfl, o2, b2⟩
      · have d1 : decide ((33 : Int) ≤ (c.toNat : Int)) = false := by simp; omega
        clear hm hp
        go_enter Tryz.func57, Tryz.ntmps57
        go_wp2_with fail
        refine him.mono ?_
        rintro e w1 ⟨rfl, rfl⟩
        go_wp2_with (go_at_call 67; refine (showNumber_any _ n B l c _ hown hB (by omega)).mono ?_; rintro e w2 ⟨v2, rfl, o2, b2⟩)
        go_ret
        rw [HS.out]
        exact ⟨_, rfl, o2, b2⟩

set_option maxRecDepth 100000 in
set_option maxHeartbeats 1600000 in
theorem implShowName_any (s : ByteArray) (w : World) (hs : s.size ≤ maxLen) :
    Calls Tryz.prog 42 #[.string s] w fun e w' => e = .returned (.tuple #[.string (Nm.showS s).1, .int .i64 (Nm.showS s).2]) ∧ Below w.heap.size w w' := by
  have hsp := splitName_any s w hs
  obtain ⟨j0, hj, k0, k1, k2⟩ := info_parts Tryz.infoU8
  cases hq : Nm.split s with
  | none =>
    have HA := Nm.hide (Nm.showS_none hq)
    rw [hq] at hsp
    clear hq
    go_enter Tryz.func42, Tryz.ntmps42
    go_wp2_with fail
    refine hsp.mono ?_
    rintro e w1 ⟨v, rfl, hown, hbel⟩
    go_wp2
    go_ret2
    rw [HA.out]
    exact ⟨rfl, hbel⟩
  | some ls =>
    have hz := Nm.split_size hq
    rw [hq] at hsp
    by_cases hn : ls = []
    · subst hn
      have HA := Nm.hide (Nm.showS_root hq)
      clear hq
      go_enter Tryz.func42, Tryz.ntmps42
      go_wp2_with fail
      refine hsp.mono ?_
      rintro e w1 ⟨v, rfl, hown, hbel⟩
      obtain ⟨a, cap, rfl, hcap, hmx, hnl, hc⟩ := Nm.SRow.of_owns hown
      simp only [Option.getD_some, List.length_nil] at hown hcap
      have h0 : ((0 : Int) == 0) = true := rfl
      go_wp2
      go_ret2
      rw [HA.out]
      exact ⟨rfl, hbel⟩
    · have HA := Nm.hide (Nm.showS_some hq hn)
      have hpos := Nm.showL_pos hn
      clear hq
      have hlp : 0 < ls.length := List.length_pos_iff.2 hn
      have hne0 : ((ls.length : Int) == 0) = false := by rw [beq_eq_false_iff_ne]; omega
      have hll := Nm.length_le_wsum ls
      go_enter Tryz.func42, Tryz.ntmps42
      go_wp2_with fail
      refine hsp.mono ?_
      rintro e w1 ⟨v, rfl, hown, hbel⟩
      obtain ⟨a, cap, rfl, hcap, hmx, hnl, hc⟩ := Nm.SRow.of_owns hown
      simp only [Option.getD_some] at hown hcap hc
      obtain ⟨b, off, rfl, hcell⟩ := hc hn
      clear hown hc hnl hsp
      go_wp2
      go_loopw [6, 22] (fun v i wr => ∃ (k n : Nat) (l : List UInt8), k ≤ ls.length ∧ i = .int .i64 k ∧ wr.ownsRow w1.heap.size 5 1 v n (Nm.bys l) ∧ Hid (l = Nm.showL (ls.take k)) ∧ Below w1.heap.size w1 wr)
        (fun _ i _ => ls.length - (intOf i).toNat)
      case atStart => exact ⟨0, 0, [], Nat.zero_le _, rfl, World.ownsRow_nil _ _ _ _, rfl, Below.refl _ _⟩
      case round =>
        obtain ⟨k, n, l, hk, rfl, hown, HL, hbw⟩ := hrel
        have hln : n = l.length := by have := hown.1; rw [Nm.bys_length] at this; omega
        have hw := Nm.wsum_take_le ls k
        have hlb := Nm.showL_length (ls.take k)
        rw [← HL.out] at hlb
        by_cases hlt : k < ls.length
        · obtain ⟨x, hx⟩ : ∃ x, ls[k]? = some x := ⟨_, List.getElem?_eq_getElem hlt⟩
          have hcx : wr.cell? ⟨b, off + k, none⟩ = some (.string x) := (hbw.cell (World.block_lt_of_cell? w1 _ (hcell k x hx))).trans (hcell k x hx)
          have HP := Nm.hide (Nm.showL_step hx)
          have hws := Nm.wsum_step hx
          have hw1 := Nm.wsum_take_le ls (k + 1)
          have hxs : x.size ≤ 255 := by omega
          have hn4 : n ≤ 1020 := by omega
          have HLN := Nm.hide hln
          clear hx hcell hws hw1 hln hlb
          go_wp2
          go_loopw [6, 28] (fun v i wi => ∃ (j m : Nat) (l2 : List UInt8), j ≤ x.size ∧ i = .int .i64 j ∧ wi.ownsRow w1.heap.size 5 1 v m (Nm.bys l2) ∧ Hid (l2 = l ++ Nm.showX (x.data.toList.take j)) ∧ m ≤ 1020 + 4 * j ∧ Below w1.heap.size w1 wi)
            (fun _ i _ => x.size - (intOf i).toNat)
          case atStart => exact ⟨0, n, l, Nat.zero_le _, rfl, hown, by show _ = _; simp [Nm.showX], by omega, hbw⟩
          case round =>
            obtain ⟨j, m, l2, hj2, rfl, hown2, HL2, hm2, hbw2⟩ := hrel
            have hsz2 := hbw2.size
            clear hown hbw hcx
            by_cases hjl : j < x.size
            · have HX := Nm.hide (Nm.showX_step hjl)
              have hsl := (Nm.showB_length x[j]).1
              go_wp2_with (go_at_call 57; refine (showByte_any _ _ w1.heap.size _ x[j] _ hown2 hsz2 (by omega)).mono ?_; rintro e w3 ⟨v3, rfl, hown3, hbel3⟩)
              go_roundw
              case rel => exact ⟨j + 1, _, _, by omega, by go_num, hown3, by show _ = _; rw [HX.out, HL2.out, List.append_assoc], by omega, hbw2.trans hbel3⟩
              case measure => simp [intOf]; omega
            · have hje : j = x.size := by omega
              subst hje
              go_wp2_with (at_builtin; refine wpList_append_own _ rfl (.tmp 37) (.tmp 38) 44 rfl w1.heap.size 5 j0 (.int .u8 0) 1 1 Tryz.underlying44 hj k0 k1 k2 rfl (by decide) _ _ _ rfl (hown2.alloc _) ⟨wr.heap.size, 0, none⟩ 1 1 [.int .u8 46] rfl rfl (cell_one_new _ _ _) (Nm.one_cell _ rfl) (by unfold maxLen; omega) (by omega) (by simp; omega) ?_; intro vb wb hown4 hgrow4 hnl4; clear hnl4; have R4 := Nm.bys_step (x := [46]) (by simp; omega) (hown2.alloc _) (hbw2.alloc hsz2 _) hown4 hgrow4; clear hown4 hgrow4)
              go_roundw
              case rel =>
                refine ⟨k + 1, _, _, by omega, by go_num, R4.1, ?_, R4.2⟩
                show _ = _
                rw [HP.out, HL2.out, ← HL.out, List.take_of_length_le (by simp), List.append_assoc]
              case measure => simp [intOf]; omega
        · have hkl : k = ls.length := by omega
          subst hkl
          rw [List.take_length] at HL
          have hl : l = Nm.showL ls := HL.out
          subst hl
          obtain ⟨g, cp, rfl, hcv⟩ := Nm.conv_own (P := Tryz.prog) Tryz.underlying44 Tryz.underlying5 Tryz.underlying9 hown (by omega)
          clear hown hcell hln hlb hlt
          go_wp2
          go_ret2
          rw [HA.out]
          exact ⟨rfl, Nm.below_two hbel hbw⟩
end Go.Proofs.YtechmpdfbpehiaaGreatDoor
/- spec.l01Three by its contract. -/
namespace Go.Proofs.YtechmpdfbpehiaaGreatDoor
open Go.RowKit

theorem conv_new (l : List UInt8) (W : World) :
    (convert 44 9 (.slice (some ⟨W.heap.size, 0, none⟩) l.length l.length)).run Tryz.prog (W.alloc (.cells (Nm.bys l).toArray 5)) = .ok (.string ⟨l.toArray⟩) (W.alloc (.cells (Nm.bys l).toArray 5)) := by
  refine run_convert_bytes_back _ 44 9 5 ⟨W.heap.size, 0, none⟩ l.length l Tryz.underlying44 Tryz.underlying5 Tryz.underlying9 ?_
  intro j hj
  exact World.news_of_block (heap_alloc_new W _) j _ (by simp [Nm.bys, hj])

theorem three_cells (c : UInt8) : [Value.int .u8 (48 + (c.toNat : Int) / 100), .int .u8 (48 + (c.toNat : Int) / 10 % 10), .int .u8 (48 + (c.toNat : Int) % 10)] = Nm.bys (Nm.threeL c) := by
  have := c.toNat_lt
  simp [Nm.bys, Nm.threeL]; omega

theorem conv_three (c : UInt8) (W : World) :
    (convert 44 9 (.slice (some ⟨W.heap.size, 0, none⟩) 3 3)).run Tryz.prog (W.alloc (.cells #[.int .u8 (48 + (c.toNat : Int) / 100), .int .u8 (48 + (c.toNat : Int) / 10 % 10), .int .u8 (48 + (c.toNat : Int) % 10)] 5)) =
      .ok (.string ⟨(Nm.threeL c).toArray⟩) (W.alloc (.cells #[.int .u8 (48 + (c.toNat : Int) / 100), .int .u8 (48 + (c.toNat : Int) / 10 % 10), .int .u8 (48 + (c.toNat : Int) % 10)] 5)) := by
  have h := conv_new (Nm.threeL c) W
  rw [← three_cells c] at h
  exact h

set_option maxRecDepth 100000 in
set_option maxHeartbeats 400000 in
theorem l01Three_any (c : UInt8) (w : World) :
    Calls Tryz.prog 28 #[.int .i64 c.toNat] w fun e w' => e = .returned (.string ⟨(Nm.threeL c).toArray⟩) ∧ Below w.heap.size w w' := by
  have hcv := conv_three c w
  have hcl : (c.toNat : Int) < 256 := by have := c.toNat_lt; omega
  generalize ByteArray.mk (Nm.threeL c).toArray = r at *
  go_enter Tryz.func28, Tryz.ntmps28
  go_wp2
  go_ret
  exact ⟨rfl, (Below.refl _ _).alloc (Nat.le_refl _) _⟩

end Go.Proofs.YtechmpdfbpehiaaGreatDoor
/- One byte behind a row of bytes of the call's own. -/
namespace Go.Proofs.YtechmpdfbpehiaaGreatDoor
open Go.RowKit

theorem Tryz.infoU8x : (Tryz.prog.info? 5).map (fun i => (i.zero, i.size, i.bytes)) = some (some (.int .u8 0), 1, 1) := by kernel_rfl

/-- What one append of a byte onto a row of the call's own leaves. -/
theorem one_step {W wr w1 : World} {v v' : Value} {B n : Nat} {l : List UInt8} {c : UInt8} (hB : B ≤ wr.heap.size)
    (hown : wr.ownsRow B 5 1 v n (Nm.bys l)) (hbel : Below B W wr) (o : Obj)
    (hown' : w1.ownsRow B 5 1 v' (n + 1) (Nm.bys l ++ [.int .u8 (c.toNat : Int)])) (hgrow : (wr.alloc o).grownBy w1 v.ownBlock) :
    ∃ X, Hid (X = l ++ [c]) ∧ w1.ownsRow B 5 1 v' (n + 1) (Nm.bys X) ∧ Below B W w1 ∧ B ≤ w1.heap.size := by
  have hb : Below B W w1 := by
    refine (hbel.alloc hB o).grown hgrow (by simp; omega) ?_
    intro k hk
    exact (hown.lt k hk).1
  refine ⟨l ++ [c], rfl, by rw [Nm.bys_append]; exact hown', hb, ?_⟩
  have := hgrow.size
  simp at this
  omega

end Go.Proofs.YtechmpdfbpehiaaGreatDoor
