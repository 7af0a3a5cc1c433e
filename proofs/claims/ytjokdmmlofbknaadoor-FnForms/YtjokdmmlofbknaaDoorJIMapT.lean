import Derived.Test.YtjokdmmlofbknaaDoorJCRow
import Derived.Test.YtjokdmmlofbknaaDoorJFoldB
import Derived.Test.YtjokdmmlofbknaaDoorRows
import Derived.WalkSpells
import Derived.WalkLawsBesides
/- impl.MapTypes by its contract. -/
namespace Go.Proofs.YtjokdmmlofbknaaDoor
open Go.RowKit

theorem own_not {w : World} {B n g : Nat} {v : Value} {xs : List Value} {cs : Array Value} (h : w.ownsRow B 2 1 v n xs) (hc : w.heap[g]? = some (.cells cs 73 (0, 0))) : v.ownBlock ≠ some g := by
  rcases h.2 with ⟨rfl, _⟩ | ⟨g', cap, cur, rfl, _, hh, _⟩
  · simp [Value.ownBlock]
  · simp only [Value.ownBlock, ne_eq, Option.some.injEq]
    intro e
    subst e
    rw [hc] at hh
    simp at hh

theorem grown_keep {w w6 : World} {g : Nat} {row : Option Nat} {O : Obj} (h : (w.drew.alloc O).grownBy w6 row) (hg : g < w.heap.size) (hne : row ≠ some g) : w6.heap[g]? = w.heap[g]? := by
  have hb := h.block g (by simp; omega) (fun e => hne e.symm)
  have hb2 : Below w.heap.size w (w.drew.alloc O) := ((Below.refl _ w).drew).alloc (Nat.le_refl _) _
  exact hb.trans (hb2.block g hg)

set_option maxRecDepth 100000 in
set_option maxHeartbeats 4000000 in
theorem implMapTypes_any (s : ByteArray) (w : World) (hs : s.size ≤ 2000000) :
    Calls Tryd.prog 18 #[.string s] w fun e w' => ∃ v, e = .returned (.tuple #[v, .int .i64 (mapC (mapS s))]) ∧
      w'.ownsRow w.heap.size 2 1 v (mapL (mapS s) (typesOf (blocksS s))).length (intCells (mapL (mapS s) (typesOf (blocksS s)))) ∧ Below w.heap.size w w' := by
  obtain ⟨i0, hi, hz0, hz1, hz2⟩ := info_parts Tryd.infoI64
  have hcall := mapBlocks_any s w hs
  cases hM : mapS s with
  | false =>
    rw [hM] at hcall
    clear hM
    go_enter Tryd.func18, Tryd.ntmps18
    go_wp2_with (go_at_call 38; refine hcall.mono ?_; rintro e w1 ⟨v, rfl, _, hbel⟩)
    go_ret2
    exact ⟨_, rfl, World.ownsRow_nil _ _ _ _, hbel⟩
  | true =>
    rw [hM] at hcall
    have hbits := blocks_bits s
    have hwin : ∀ b ∈ blocksS s, b.1 < 256 := fun b hb => blocksF_win _ s b hb
    have hbl : ∀ b ∈ blocksS s, b.2.size ≤ 2000000 := fun b hb => by have := bitsLen_mem hb; omega
    have hlen : (blocksS s).length ≤ 2000000 := by have := blocksF_len (s.size + 1) s; unfold blocksS; omega
    clear hM
    generalize blocksS s = bl at *
    have hcall : Calls Tryd.prog 38 #[.string s] w fun e w' => ∃ v, e = .returned (.tuple #[v, .bool true]) ∧ CRow w' v bl.length 2 (blkCells bl) ∧ Below w.heap.size w w' := by
      refine hcall.mono ?_
      rintro e w' ⟨v, rfl, h1, h2⟩
      exact ⟨v, rfl, CRow.of_owns (h1 rfl), h2⟩
    go_enter Tryd.func18, Tryd.ntmps18
    go_wp2_with (go_at_call 38; refine hcall.mono ?_; rintro e w1 ⟨vb, rfl, ⟨_, ab, capb, rfl, hcapb, hmxb, hc⟩, hb1⟩)
    clear hcall
    go_loopw [6, 19] (fun v i wr => ∃ (k n : Nat) (l : List Int), k ≤ bl.length ∧ i = .int .i64 k ∧ n ≤ 16000000 ∧ Hid (l.length = n) ∧ Hid (l = typesOf (bl.take k)) ∧ wr.ownsRow w1.heap.size 2 1 v n (intCells l) ∧ Below w1.heap.size w1 wr)
      (fun _ i _ => bl.length - (intOf i).toNat)
    case atStart => exact ⟨0, 0, [], Nat.zero_le _, rfl, by omega, rfl, rfl, World.ownsRow_nil _ _ _ _, Below.refl _ _⟩
    case round =>
      obtain ⟨k, n, l, hk, rfl, hn, HL, HT, hown, hbel⟩ := hrel
      have hsz := hbel.size
      by_cases hlt : k < bl.length
      · have hlt' : (k : Int) < (bl.length : Int) := by omega
        obtain ⟨x, hx⟩ : ∃ x, bl[k]? = some x := ⟨_, List.getElem?_eq_getElem hlt⟩
        obtain ⟨s1, s2⟩ := blk_cells hx
        have hxw := hwin x (List.mem_of_getElem? hx)
        have hxz := hbl x (List.mem_of_getElem? hx)
        obtain ⟨b, off, rfl, hcell⟩ := hc (by omega)
        have put : ∀ {B O : Nat} {z : Value}, w1.cell? ⟨B, O, none⟩ = some z → wr.cell? ⟨B, O, none⟩ = some z := fun h => (hbel.cell (World.block_lt_of_cell? w1 _ h)).trans h
        have c1 := put (hcell _ _ s1)
        have c2 := put (hcell _ _ s2)
        rw [← Nat.add_assoc] at c2
        clear hc hcell s1 s2 put
        obtain ⟨wo, hwo⟩ : ∃ wo, wo = wr := ⟨wr, rfl⟩
        subst hwo
        have hC0 : (wo.alloc (.cells #[.int .i64 (x.1 : Int), .string x.2] 73)).heap[wo.heap.size]? = some (.cells #[.int .i64 (x.1 : Int), .string x.2] 73 (0, 0)) := heap_alloc_new wo _
        have hW0 : Below w1.heap.size w1 (wo.alloc (.cells #[.int .i64 (x.1 : Int), .string x.2] 73)) := hbel.alloc hsz _
        have hO0 := hown.alloc (.cells #[.int .i64 (x.1 : Int), .string x.2] 73)
        go_wp2
        go_loopw [6, 27] (fun v i wr => ∃ (j m : Nat) (l' : List Int), j ≤ 8 * x.2.size ∧ i = .int .i64 j ∧ m ≤ n + j ∧ Hid (l'.length = m) ∧ Hid (l' = l ++ upTo x j) ∧ wr.heap[wo.heap.size]? = some (.cells #[.int .i64 (x.1 : Int), .string x.2] 73 (0, 0)) ∧ wr.ownsRow w1.heap.size 2 1 v m (intCells l') ∧ wo.heap.size < wr.heap.size ∧ Below w1.heap.size w1 wr)
          (fun _ i _ => 8 * x.2.size - (intOf i).toNat)
        case atStart => exact ⟨0, n, l, by omega, rfl, by omega, HL, by show _ = _; simp [upTo], hC0, hO0, by simp, hW0⟩
        case round =>
          obtain ⟨j, m, l', hj, rfl, hm, HL', HT', hch, hown', hzw, hbel'⟩ := hrel
          have hc0 : wr.cell? ⟨wo.heap.size, 0, none⟩ = some (.int .i64 (x.1 : Int)) := by rw [cell_of_row wr wo.heap.size 0 _ _ _ hch]; rfl
          have hc1 : wr.cell? ⟨wo.heap.size, 1, none⟩ = some (.string x.2) := by rw [cell_of_row wr wo.heap.size 1 _ _ _ hch]; rfl
          have HCH := Nm.hide hch
          clear hC0 hW0 hO0 hown hch
          by_cases hjl : j < 8 * x.2.size
          · have hjl' : (j : Int) < 8 * (x.2.size : Int) := by omega
            have hi8 : j / 8 < x.2.size := by omega
            have hi8' : (j : Int) / 8 < (x.2.size : Int) := by omega
            have hj0 : (0 : Int) ≤ (j : Int) / 8 := by omega
            have hwj : IntKind.i64.wrap ((j : Int) / 8) = (j : Int) / 8 := Go.wrap_small _ (by omega) (by omega)
            have hwm : IntKind.i64.wrap ((j : Int) % 8) = (j : Int) % 8 := Go.wrap_small _ (by omega) (by omega)
            have htn : ((j : Int) / 8).toNat = j / 8 := by omega
            have hbit := and_bit x.2[j / 8] (r := j % 8) (by omega)
            have hbo : bitOf x.2 j = bitAt x.2[j / 8] (j % 8) := by rw [bitOf, dif_pos hi8]
            cases hB : bitAt x.2[j / 8] (j % 8) with
            | true =>
              have hT : l ++ upTo x (j + 1) = l' ++ [((256 * x.1 + j : Nat) : Int)] := by rw [upTo_yes (by rw [hbo, hB]), HT'.out, List.append_assoc]
              have HT2 := Nm.hide hT
              have HL2 : Hid ((l' ++ [((256 * x.1 + j : Nat) : Int)]).length = m + 1) := by show _ = _; rw [List.length_append, HL'.out]; rfl
              have hcc : intCells l' ++ [.int .i64 (256 * (x.1 : Int) + (j : Int))] = intCells (l' ++ [((256 * x.1 + j : Nat) : Int)]) := by simp [intCells]
              have HCC := Nm.hide hcc
              rw [hB] at hbit
              have hszr := hbel'.size
              clear hB hbo hT hcc HT' HL'
              go_wp2
              go_region
              go_wp2_with (at_builtin; refine wpList_append_own _ rfl (.tmp 40) (.tmp 46) 31 rfl w1.heap.size 2 i0 (.int .i64 0) 1 8 Tryd.underlying31 hi hz0 hz1 hz2 rfl (by decide) _ _ _ rfl (hown'.alloc _) ⟨wr.heap.size, 0, none⟩ 1 1 [.int .i64 (256 * (x.1 : Int) + (j : Int))] rfl rfl (cell_new1 _ _ _) (Nm.one_cell _ rfl) (by unfold maxLen; omega) (by omega) (by simp; omega) ?_)
              intro v' w6 hown6 hgrow _
              rw [HCC.out] at hown6
              have hgrow' : (wr.drew.alloc (.cells #[.int .i64 (256 * (x.1 : Int) + (j : Int))] 2)).grownBy w6 u6.ownBlock := hgrow
              have hb6 : Below w1.heap.size w1 w6 := (hbel'.drew.alloc hszr _).grown hgrow' (by simp; omega) (fun q hq => (hown'.lt q hq).1)
              have hne : u6.ownBlock ≠ some wo.heap.size := own_not hown' HCH.out
              have hk6 : w6.heap[wo.heap.size]? = some (.cells #[.int .i64 (x.1 : Int), .string x.2] 73 (0, 0)) := (grown_keep hgrow' hzw hne).trans HCH.out
              have hz6 : wo.heap.size < w6.heap.size := by have := hgrow'.size; simp at this; omega
              clear hgrow hgrow' hown' hbel' hc0 hc1
              go_wp2
              go_roundw
              case rel => exact ⟨j + 1, m + 1, _, by omega, by go_num, by omega, HL2, HT2.out.symm, hk6, hown6, hz6, hb6⟩
              case measure => simp [intOf]; omega
            | false =>
              have HT2 : Hid (l' = l ++ upTo x (j + 1)) := by show _ = _; rw [upTo_no (by rw [hbo, hB]), HT'.out]
              rw [hB] at hbit
              clear hB hbo HT'
              go_wp2
              go_region
              go_wp2
              go_roundw
              case rel => exact ⟨j + 1, m, l', by omega, by go_num, by omega, HL', HT2, HCH.out, hown', hzw, hbel'.drew⟩
              case measure => simp [intOf]; omega
          · have hjl' : 8 * (x.2.size : Int) ≤ (j : Int) := by omega
            have HT2 : Hid (l' = typesOf (bl.take (k + 1))) := by
              show _ = _
              rw [types_step bl k x hx, HT'.out, HT.out, show j = 8 * x.2.size by omega]; rfl
            have hm16 : m ≤ 16000000 := by
              have h1 := types_len (bl.take (k + 1))
              have h2 := bitsLen_take bl (k + 1)
              rw [← HT2.out, HL'.out] at h1
              omega
            clear HT' HT
            go_wp2
            go_roundw
            case rel => exact ⟨k + 1, m, l', by omega, by go_num, hm16, HL', HT2, hown', hbel'⟩
            case measure => simp [intOf]; omega
      · have hlt' : (bl.length : Int) ≤ (k : Int) := by omega
        have hT2 := HT.out
        rw [List.take_of_length_le (by omega)] at hT2
        have HT2 := Nm.hide hT2
        have hob := own_base (B' := w.heap.size) hown hb1.size
        rw [← HL.out, HT2.out] at hob
        have HOB := Nm.hide hob
        clear hc hT2 HT hob
        go_wp2
        go_ret2
        exact ⟨_, rfl, HOB.out, Nm.below_two hb1 hbel⟩
end Go.Proofs.YtjokdmmlofbknaaDoor
/- impl.isDigit, isLetter, isTag by their contracts. -/
namespace Go.Proofs.YtjokdmmlofbknaaDoor
open Go.RowKit

def digD (c : UInt8) : Bool := decide (48 ≤ c.toNat) && decide (c.toNat ≤ 57)
def letD (c : UInt8) : Bool := decide (97 ≤ (Nm.low c).toNat) && decide ((Nm.low c).toNat ≤ 122)

theorem alnum_or (c : UInt8) : Dt.alnumB c = (digD c || letD c) := by
  unfold Dt.alnumB digD letD Nm.low
  have hc := c.toNat_lt
  by_cases h : 65 ≤ c.toNat ∧ c.toNat ≤ 90
  · rw [if_pos h]
    have e : (UInt8.ofNat (c.toNat + 32)).toNat = c.toNat + 32 := by simp; omega
    rw [e, Bool.eq_iff_iff]
    simp
    omega
  · rw [if_neg h, Bool.eq_iff_iff]
    simp
    omega

set_option maxRecDepth 100000 in
set_option maxHeartbeats 400000 in
theorem isDigitD_any (c : UInt8) (w : World) :
    Calls Tryd.prog 49 #[.int .u8 c.toNat] w fun e w' => e = .returned (.bool (digD c)) ∧ w' = w := by
  by_cases h1 : 48 ≤ c.toNat
  · have d1 : decide ((48 : Int) ≤ (c.toNat : Int)) = true := by simp; omega
    have HE : Hid (digD c = decide ((c.toNat : Int) ≤ 57)) := by
      show _ = _
      rw [digD, decide_eq_true h1, Bool.true_and, Bool.eq_iff_iff]
      simp; omega
    go_enter Tryd.func49, Tryd.ntmps49
    go_wp2
    go_ret
    rw [HE.out]
    exact ⟨rfl, rfl⟩
  · have d1 : decide ((48 : Int) ≤ (c.toNat : Int)) = false := by simp; omega
    have HE : Hid (digD c = false) := by
      show _ = _
      rw [digD, decide_eq_false h1]; rfl
    go_enter Tryd.func49, Tryd.ntmps49
    go_wp2
    go_ret
    rw [HE.out]
    exact ⟨rfl, rfl⟩

set_option maxRecDepth 100000 in
set_option maxHeartbeats 400000 in
theorem isLetter_any (c : UInt8) (w : World) :
    Calls Tryd.prog 111 #[.int .u8 c.toNat] w fun e w' => e = .returned (.bool (letD c)) ∧ w' = w := by
  have hcall := foldByte_any c
  by_cases h1 : 97 ≤ (Nm.low c).toNat
  · have HE : Hid (letD c = decide (((Nm.low c).toNat : Int) ≤ 122)) := by
      show _ = _
      rw [letD, decide_eq_true h1, Bool.true_and, Bool.eq_iff_iff]
      simp; omega
    have d1 : decide ((97 : Int) ≤ ((Nm.low c).toNat : Int)) = true := by simp; omega
    go_enter Tryd.func111, Tryd.ntmps111
    go_wp2_with (go_at_call 51; refine (hcall _).mono ?_; rintro e w1 ⟨rfl, rfl⟩)
    go_ret
    rw [HE.out]
    exact ⟨rfl, rfl⟩
  · have d1 : decide ((97 : Int) ≤ ((Nm.low c).toNat : Int)) = false := by simp; omega
    have HE : Hid (letD c = false) := by
      show _ = _
      rw [letD, decide_eq_false h1]; rfl
    go_enter Tryd.func111, Tryd.ntmps111
    go_wp2_with (go_at_call 51; refine (hcall _).mono ?_; rintro e w1 ⟨rfl, rfl⟩)
    go_ret
    rw [HE.out]
    exact ⟨rfl, rfl⟩

def tagT (t : ByteArray) : Bool := t.data.toList.all Dt.alnumB && (decide (0 < t.size) && decide (t.size ≤ 15))

theorem tagT_bad {t : ByteArray} {j : Nat} (hj : j < t.size) (h : Dt.alnumB t[j] = false) : tagT t = false := by
  rw [tagT, Bool.and_eq_false_iff]
  left
  rw [List.all_eq_false]
  exact ⟨t[j], List.mem_of_getElem? (Nm.get_data hj), by simp [h]⟩
theorem tagT_good {t : ByteArray} (h : ∀ j, (hj : j < t.size) → Dt.alnumB t[j] = true) : tagT t = (decide (0 < t.size) && decide (t.size ≤ 15)) := by
  rw [tagT]
  have : t.data.toList.all Dt.alnumB = true := by
    rw [List.all_eq_true]
    intro c hc
    obtain ⟨i, hi⟩ := List.getElem?_of_mem hc
    have hl : i < t.size := by
      have := (List.getElem?_eq_some_iff.1 hi).1
      simpa using this
    rw [Nm.get_data hl] at hi
    simp at hi
    rw [← hi]
    exact h _ hl
  rw [this, Bool.true_and]

set_option maxRecDepth 100000 in
set_option maxHeartbeats 800000 in
theorem isTag_any (t : ByteArray) (w : World) (ht : t.size ≤ 1000000000) :
    Calls Tryd.prog 110 #[.string t] w fun e w' => e = .returned (.bool (tagT t)) ∧ w' = w := by
  go_enter Tryd.func110, Tryd.ntmps110
  go_wp2
  go_loop [6] (fun v => ∃ j : Nat, j ≤ t.size ∧ v = .int .i64 j ∧ ∀ i, i < j → (hi : i < t.size) → Dt.alnumB t[i] = true) (fun v => t.size - (intOf v).toNat)
  case atStart => exact ⟨0, by omega, rfl, fun i h => by omega⟩
  case round =>
    obtain ⟨j, hj, rfl, ha⟩ := hrel
    by_cases hlt : j < t.size
    · have hlt' : (j : Int) < (t.size : Int) := by omega
      have hd := isDigitD_any t[j]
      have hl := isLetter_any t[j]
      have hor := alnum_or t[j]
      cases hA : digD t[j] with
      | true =>
        have HJ : Hid (∀ i, i < j + 1 → (hi : i < t.size) → Dt.alnumB t[i] = true) := by
          show ∀ i, _
          intro i h2 h3
          by_cases e : i = j
          · subst e; rw [hor, hA]; rfl
          · exact ha i (by omega) h3
        rw [hA] at hd
        clear ha hor hA
        go_wp2_with (first | (go_at_call 49; refine (hd _).mono ?_; rintro e w2 ⟨rfl, hw⟩; obtain rfl : w = w2 := hw.symm; clear hw) | (go_at_call 111; refine (hl _).mono ?_; rintro e w2 ⟨rfl, hw⟩; obtain rfl : w = w2 := hw.symm; clear hw))
        go_round
        case rel => exact ⟨j + 1, by omega, by go_num, HJ.out⟩
        case measure => simp [intOf]; omega
      | false =>
        rw [hA] at hd
        cases hB : letD t[j] with
        | true =>
          have HJ : Hid (∀ i, i < j + 1 → (hi : i < t.size) → Dt.alnumB t[i] = true) := by
            show ∀ i, _
            intro i h2 h3
            by_cases e : i = j
            · subst e; rw [hor, hB]; simp
            · exact ha i (by omega) h3
          rw [hB] at hl
          clear ha hor hA hB
          go_wp2_with (first | (go_at_call 49; refine (hd _).mono ?_; rintro e w2 ⟨rfl, hw⟩; obtain rfl : w = w2 := hw.symm; clear hw) | (go_at_call 111; refine (hl _).mono ?_; rintro e w2 ⟨rfl, hw⟩; obtain rfl : w = w2 := hw.symm; clear hw))
          go_round
          case rel => exact ⟨j + 1, by omega, by go_num, HJ.out⟩
          case measure => simp [intOf]; omega
        | false =>
          have HT := Nm.hide (tagT_bad hlt (by rw [hor, hA, hB]; rfl))
          rw [hB] at hl
          clear ha hor hA hB
          go_wp2_with (first | (go_at_call 49; refine (hd _).mono ?_; rintro e w2 ⟨rfl, hw⟩; obtain rfl : w = w2 := hw.symm; clear hw) | (go_at_call 111; refine (hl _).mono ?_; rintro e w2 ⟨rfl, hw⟩; obtain rfl : w = w2 := hw.symm; clear hw))
          go_ret
          rw [HT.out]
          exact ⟨rfl, rfl⟩
    · have hlt' : (t.size : Int) ≤ (j : Int) := by omega
      have HT := Nm.hide (tagT_good (fun i h => ha i (by omega) h))
      clear ha
      by_cases h0 : 0 < t.size
      · have h0' : (0 : Int) < (t.size : Int) := by omega
        have HU : Hid (tagT t = decide ((t.size : Int) ≤ 15)) := by
          show _ = _
          rw [HT.out, decide_eq_true h0, Bool.true_and, Bool.eq_iff_iff]
          simp; omega
        clear HT
        go_wp2
        go_ret
        rw [HU.out]
        exact ⟨rfl, rfl⟩
      · have h0' : (t.size : Int) ≤ 0 := by omega
        have HU : Hid (tagT t = false) := by
          show _ = _
          rw [HT.out, decide_eq_false h0, Bool.false_and]
        clear HT
        go_wp2
        go_ret
        rw [HU.out]
        exact ⟨rfl, rfl⟩

theorem tag_of {d : ByteArray} {n : Nat} (hn : (Dt.txtS d).size = n) (_ : n ≠ 0) : tagT (d.extract 1 n) = Dt.tagB d := by
  have hle := Dt.txt_le d
  have he := Dt.txt_ext d
  rw [hn] at he
  have e1 : (d.extract 1 n).data.toList = (Dt.txtS d).data.toList.drop 1 := by
    rw [← he]
    simp only [ByteArray.data_extract, Array.toList_extract, List.extract_eq_take_drop]
    simp
    rw [← List.drop_one, ← List.drop_one, List.drop_take]
  have e2 : (d.extract 1 n).size = n - 1 := by simp; omega
  rw [tagT, Dt.tagB, e1, e2, hn, Bool.eq_iff_iff]
  simp
  constructor
  · rintro ⟨h1, h2, h3⟩; exact ⟨⟨by omega, by omega⟩, h1⟩
  · rintro ⟨⟨h1, h2⟩, h3⟩; exact ⟨h3, by omega, by omega⟩
end Go.Proofs.YtjokdmmlofbknaaDoor
