import Derived.Test.YtkiadnglbjamfaaJCRow
import Derived.Test.YtkiadnglbjamfaaData3
/- spec.MapTypes by its contract. -/
namespace Go.Proofs.Ytkiadnglbjamfaa
open Go.RowKit

theorem shr_bitI (c : UInt8) (r : Nat) : (bits .and .u8 ((c.toNat : Int) / 2 ^ (7 - r)) 1 == 1) = bitAt c r := by
  have e : (c.toNat : Int) / 2 ^ (7 - r) = ((c.toNat / 2 ^ (7 - r) : Nat) : Int) := by
    rw [Int.natCast_ediv, Int.natCast_pow]; rfl
  rw [e, shr_bit, bitAt]

theorem map_step_bel {W wr w1 : World} {v : Value} {B e n : Nat} {l : List Value} (hB : B ≤ wr.heap.size)
    (hown : wr.ownsRow B e 1 v n l) (hbel : Below B W wr) (o : Obj) (hgrow : (wr.alloc o).grownBy w1 v.ownBlock) : Below B W w1 := by
  refine (hbel.alloc hB o).grown hgrow (by simp; omega) ?_
  intro k hk
  exact (hown.lt k hk).1

theorem ext_bit {s : ByteArray} {n j : Nat} (h : j < 8 * n) (hn : n + 2 ≤ s.size) : bitOf (s.extract 2 (n + 2)) j = bitAt (s[2 + j / 8]'(by omega)) (j % 8) := by
  have hz : (s.extract 2 (n + 2)).size = n := by simp; omega
  rw [bitOf, dif_pos (by omega)]
  simp only [ByteArray.getElem_extract]

/-- What a type map that is not at its end begins with. -/
theorem bat_more {s0 r : ByteArray} {bl : List (Nat × ByteArray)} {last : Int} (h : BAt s0 bl last r) (ht : mapS s0 = true) (h0 : r.size ≠ 0) :
    ∃ (h2 : 2 ≤ r.size), 1 ≤ r[1].toNat ∧ r[1].toNat ≤ 32 ∧ r[1].toNat + 2 ≤ r.size ∧ BAt s0 (bl ++ [(r[0].toNat, r.extract 2 (r[1].toNat + 2))]) (r[0].toNat : Int) (r.extract (r[1].toNat + 2) r.size) := by
  have hm := h.1
  rw [ht] at hm
  by_cases h1 : r.size = 1
  · rw [map_one h1] at hm; cases hm
  · have h2 : 2 ≤ r.size := by omega
    by_cases hc : last < (r[0].toNat : Int) ∧ 1 ≤ r[1].toNat ∧ r[1].toNat ≤ 32 ∧ r[1].toNat + 2 ≤ r.size
    · by_cases h3 : (r[r[1].toNat + 1]'(by omega)).toNat = 0
      · rw [map_zero h2 hc h3] at hm; cases hm
      · exact ⟨h2, hc.2.1, hc.2.2.1, hc.2.2.2, bat_step h h2 hc h3⟩
    · rw [map_no h2 hc] at hm; cases hm

set_option maxRecDepth 100000 in
set_option maxHeartbeats 4000000 in
theorem specMapTypes_any (s : ByteArray) (w : World) (hs : s.size ≤ 2000000) :
    Calls Try.prog 45 #[.string s] w fun e w' => ∃ v, e = .returned (.tuple #[v, .int .i64 (mapC (mapS s))]) ∧
      w'.ownsRow w.heap.size 2 1 v (mapL (mapS s) (typesOf (blocksS s))).length (intCells (mapL (mapS s) (typesOf (blocksS s)))) ∧ Below w.heap.size w w' := by
  obtain ⟨i0, hi, hz0, hz1, hz2⟩ := info_parts Try.infoI64
  have hcall := l02Map_any s w (by unfold maxLen; omega)
  cases hM : mapS s with
  | false =>
    rw [hM] at hcall
    clear hM
    go_enter Try.func45, Try.ntmps45
    go_wp2_with (go_at_call 44; refine hcall.mono ?_; rintro e w1 ⟨rfl, hw⟩; obtain rfl : w = w1 := hw.symm; clear hw)
    go_ret2
    exact ⟨_, rfl, World.ownsRow_nil _ _ _ _, Below.refl _ _⟩
  | true =>
    have HM := Nm.hide hM
    rw [hM] at hcall
    have hst := bat_start s
    have HBL := Nm.hide (blocks_bits s)
    clear hM
    go_enter Try.func45, Try.ntmps45
    go_wp2_with (go_at_call 44; refine hcall.mono ?_; rintro e w1 ⟨rfl, hw⟩; obtain rfl : w = w1 := hw.symm; clear hw)
    go_loopw [4, 5] (fun v u wr => ∃ (bl : List (Nat × ByteArray)) (last : Int) (r : ByteArray) (n : Nat), u = .string r ∧ r.size ≤ s.size ∧ n ≤ 16000000 ∧ Hid ((typesOf bl).length = n) ∧ Hid (BAt s bl last r) ∧ wr.ownsRow w.heap.size 2 1 v n (intCells (typesOf bl)) ∧ Below w.heap.size w wr)
      (fun _ u _ => match u with | .string r => r.size | _ => 0)
    case atStart => exact ⟨[], -1, s, 0, rfl, Nat.le_refl _, by omega, rfl, hst, World.ownsRow_made w #[] 0 (Nat.le_refl _) (by decide) rfl, (Below.refl _ _).alloc (Nat.le_refl _) _⟩
    case round =>
      obtain ⟨bl, last, r, n, rfl, hrz, hn, HL, HA, hown, hbel⟩ := hrel
      clear hst
      have hsz := hbel.size
      by_cases h0 : r.size = 0
      · obtain ⟨e1, e2⟩ := beq_empty h0
        have HE := Nm.hide (bat_end HA.out h0).2
        rw [← HL.out] at hown
        clear h0 HA
        go_wp2
        go_ret2
        rw [show mapL true (typesOf (blocksS s)) = typesOf (blocksS s) from rfl, HE.out]
        exact ⟨_, rfl, hown, hbel⟩
      · obtain ⟨h2, hN1, hN32, hNz, hnext⟩ := bat_more HA.out HM.out h0
        obtain ⟨e1, e2⟩ := not_empty (s := r) (by omega)
        have p0 : 0 < r.size := by omega
        have p1 : 1 < r.size := by omega
        have i0' : (0 : Int) < (r.size : Int) := by omega
        have i1' : (1 : Int) < (r.size : Int) := by omega
        have hc0 : (r[0].toNat : Int) < 256 := by have := r[0].toNat_lt; omega
        have hc1 : (r[1].toNat : Int) < 256 := by have := r[1].toNat_lt; omega
        have hNz' : (r[1].toNat : Int) + 2 ≤ (r.size : Int) := by omega
        have HX := Nm.hide hnext
        obtain ⟨wo, hwo⟩ : ∃ wo, wo = wr := ⟨wr, rfl⟩
        subst hwo
        clear h0 hnext HA
        go_wp2
        go_loopw [4, 6] (fun v i wr => ∃ (j m : Nat) (l' : List Int), j ≤ 8 * r[1].toNat ∧ i = .int .i64 j ∧ m ≤ n + j ∧ Hid (l'.length = m) ∧ Hid (l' = typesOf bl ++ upTo (r[0].toNat, r.extract 2 (r[1].toNat + 2)) j) ∧ wr.ownsRow w.heap.size 2 1 v m (intCells l') ∧ Below w.heap.size w wr)
          (fun _ i _ => 8 * r[1].toNat - (intOf i).toNat)
        case atStart => exact ⟨0, n, typesOf bl, by omega, rfl, by omega, HL, by show _ = _; simp [upTo], hown, hbel⟩
        case round =>
          obtain ⟨j, m, l', hj, rfl, hm, HL', HT', hown', hbel'⟩ := hrel
          clear hown hbel
          have hszr := hbel'.size
          by_cases hjl : j < 8 * r[1].toNat
          · have hjl' : (j : Int) < 8 * (r[1].toNat : Int) := by omega
            have hix : 2 + j / 8 < r.size := by omega
            have hix' : (2 : Int) + (j : Int) / 8 < (r.size : Int) := by omega
            have hj0 : (0 : Int) ≤ (j : Int) / 8 := by omega
            have htn : ((j : Int) / 8).toNat = j / 8 := by omega
            have hj7 : (j : Int) % 8 ≤ 7 := by omega
            have hbo := ext_bit (s := r) hjl hNz
            have hbit := shr_bitI r[2 + j / 8] (j % 8)
            cases hB : bitAt r[2 + j / 8] (j % 8) with
            | true =>
              have hT : typesOf bl ++ upTo (r[0].toNat, r.extract 2 (r[1].toNat + 2)) (j + 1) = l' ++ [((256 * r[0].toNat + j : Nat) : Int)] := by rw [upTo_yes (by rw [hbo, hB]), HT'.out, List.append_assoc]
              have HT2 := Nm.hide hT
              have HL2 : Hid ((l' ++ [((256 * r[0].toNat + j : Nat) : Int)]).length = m + 1) := by show _ = _; rw [List.length_append, HL'.out]; rfl
              have hcc : intCells l' ++ [.int .i64 ((256 : Int) * (r[0].toNat : Int) + (j : Int))] = intCells (l' ++ [((256 * r[0].toNat + j : Nat) : Int)]) := by simp [intCells]
              have HCC := Nm.hide hcc
              rw [hB] at hbit
              clear hB hbo hT hcc HT' HL'
              go_wp2_with (at_builtin; refine wpList_append_own _ rfl (.tmp 40) (.tmp 47) 41 rfl w.heap.size 2 i0 (.int .i64 0) 1 8 Try.underlying41 hi hz0 hz1 hz2 rfl (by decide) _ _ _ rfl (hown'.alloc _) ⟨wr.heap.size, 0, none⟩ 1 1 [.int .i64 ((256 : Int) * (r[0].toNat : Int) + (j : Int))] rfl rfl (cell_new1 _ _ _) (Nm.one_cell _ rfl) (by unfold maxLen; omega) (by omega) (by simp; omega) ?_)
              intro v' w6 hown6 hgrow _
              rw [HCC.out] at hown6
              have hb6 := map_step_bel hszr hown' hbel' _ hgrow
              clear hgrow hown' hbel'
              go_wp2
              go_roundw
              case rel => exact ⟨j + 1, m + 1, _, by omega, by go_num, by omega, HL2, HT2.out.symm, hown6, hb6⟩
              case measure => simp [intOf]; omega
            | false =>
              have HT2 : Hid (l' = typesOf bl ++ upTo (r[0].toNat, r.extract 2 (r[1].toNat + 2)) (j + 1)) := by show _ = _; rw [upTo_no (by rw [hbo, hB]), HT'.out]
              rw [hB] at hbit
              clear hB hbo HT'
              go_wp2
              go_roundw
              case rel => exact ⟨j + 1, m, l', by omega, by go_num, by omega, HL', HT2, hown', hbel'⟩
              case measure => simp [intOf]; omega
          · have hjl' : 8 * (r[1].toNat : Int) ≤ (j : Int) := by omega
            have hes : (r.extract (r[1].toNat + 2) r.size).size = r.size - (r[1].toNat + 2) := by simp
            have hbz : (r.extract 2 (r[1].toNat + 2)).size = r[1].toNat := by simp; omega
            have hT2 : l' = typesOf (bl ++ [(r[0].toNat, r.extract 2 (r[1].toNat + 2))]) := by
              rw [HT'.out, show j = 8 * r[1].toNat by omega]
              simp [typesOf, blkTypes, hbz]
            have hm16 : m ≤ 16000000 := by
              have h1 := types_len (bl ++ [(r[0].toNat, r.extract 2 (r[1].toNat + 2))])
              have h2 := HX.out.2
              have h3 := HBL.out
              rw [h2] at h3
              have h4 := bitsLen_take ((bl ++ [(r[0].toNat, r.extract 2 (r[1].toNat + 2))]) ++ blocksS (r.extract (r[1].toNat + 2) r.size)) (bl ++ [(r[0].toNat, r.extract 2 (r[1].toNat + 2))]).length
              rw [List.take_left] at h4
              rw [← hT2, HL'.out] at h1
              omega
            rw [hT2] at hown'
            have HL3 : Hid ((typesOf (bl ++ [(r[0].toNat, r.extract 2 (r[1].toNat + 2))])).length = m) := by show _ = _; rw [← hT2]; exact HL'.out
            clear HT' hT2 HL' hbz
            go_wp2
            go_roundw
            case rel => exact ⟨_, _, _, m, rfl, by omega, hm16, HL3, HX, hown', hbel'⟩
            case measure => simp only [hes]; omega
end Go.Proofs.Ytkiadnglbjamfaa
