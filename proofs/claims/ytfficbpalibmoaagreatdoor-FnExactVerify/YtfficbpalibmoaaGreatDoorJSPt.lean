import Derived.Test.YtfficbpalibmoaaGreatDoorJOwnT
import Derived.Test.YtfficbpalibmoaaGreatDoorRows
import Derived.WalkSpells
import Derived.WalkLawsBesides
import Derived.Test.YtfficbpalibmoaaGreatDoorJDcM
import Derived.Test.YtfficbpalibmoaaGreatDoorJJoin
import Derived.Test.YtfficbpalibmoaaGreatDoorJSgO
import Derived.Test.YtfficbpalibmoaaGreatDoorJShL4
import Derived.Test.YtfficbpalibmoaaGreatDoorJPiece
import Derived.Test.YtfficbpalibmoaaGreatDoorJPtT
import Derived.Test.YtfficbpalibmoaaGreatDoorJMath
import Derived.Test.YtfficbpalibmoaaGreatDoorJRmz
import Derived.RegionTactic
/- spec.l02Put at any width by its contract. -/
namespace Go.Proofs.YtfficbpalibmoaaGreatDoor
open Go.RowKit
set_option linter.unusedVariables false

theorem bigL_len (v n : Nat) : (bigL v n).length = n := by simp [bigL]
theorem bigL_take {v n j : Nat} (h : j < n) : Nm.bys ((bigL v n).take (j + 1)) = Nm.bys ((bigL v n).take j) ++ [.int .u8 ((v : Int) / 2 ^ (8 * (n - 1 - j)) % 256)] := by
  have hx : (bigL v n)[j]? = some (UInt8.ofNat (v / 2 ^ (8 * (n - 1 - j)))) := by simp [bigL, h]
  have e : ((UInt8.ofNat (v / 2 ^ (8 * (n - 1 - j)))).toNat : Int) = (v : Int) / 2 ^ (8 * (n - 1 - j)) % 256 := by
    rw [UInt8.toNat_ofNat', Int.natCast_emod, Int.natCast_ediv, Int.natCast_pow]
    rfl
  rw [List.take_add_one, hx, Nm.bys_append, ← e]
  rfl

set_option maxRecDepth 100000 in
set_option maxHeartbeats 1600000 in
theorem l02PutN_any (v n : Nat) (w : World) (hv : v ≤ 4611686018427387904) (hn1 : 1 ≤ n) (hn : n ≤ 8) :
    Calls Tryz.prog 22 #[.int .i64 (v : Int), .int .i64 (n : Int)] w fun e w' => e = .returned (.string ⟨(bigL v n).toArray⟩) ∧ Below w.heap.size w w' := by
  obtain ⟨j0, hj, k0, k1, k2⟩ := info_parts Tryz.infoBy
  have i3 : (n : Int) ≤ 8 := by omega
  have i4 : (1 : Int) ≤ (n : Int) := by omega
  have hro := World.ownsRow_made (base := w.heap.size) (size := 1) (e := 5) w #[] 0 (Nat.le_refl _) (by decide) rfl
  have hBs := (Below.refl w.heap.size w).alloc (Nat.le_refl _) (.cells #[] 5)
  go_enter Tryz.func22, Tryz.ntmps22
  go_wp2
  go_loopw [5, 6] (fun u i wr => ∃ j : Nat, j ≤ n ∧ i = .int .i64 ((n : Int) - 1 - (j : Int)) ∧ wr.ownsRow w.heap.size 5 1 u j (Nm.bys ((bigL v n).take j)) ∧ Below w.heap.size w wr) (fun _ i _ => (intOf i + 1).toNat)
  case atStart => exact ⟨0, by omega, by congr 1; omega, hro, hBs⟩
  case round =>
    clear hro hBs
    obtain ⟨j, hj8, rfl, hown, hbel⟩ := hrel
    obtain ⟨xa, xc, rfl⟩ := own_sl hown
    have hBr := hbel.size
    by_cases hlt : j < n
    · obtain ⟨i, hi⟩ : ∃ i : Nat, (n : Int) - 1 - (j : Int) = (i : Int) := ⟨n - 1 - j, by omega⟩
      have hi7 : i ≤ 7 := by omega
      rw [hi]
      have i1 : (0 : Int) ≤ (i : Int) := by omega
      have i2 : (i : Int) ≤ 7 := by omega
      have HT := Nm.hide (show Nm.bys ((bigL v n).take (j + 1)) = Nm.bys ((bigL v n).take j) ++ [.int .u8 ((v : Int) / 2 ^ (8 * i) % 256)] by
        have h7 : n - 1 - j = i := by omega
        rw [bigL_take hlt, h7])
      have HI := Nm.hide hi
      clear hi
      go_wp2_with (at_builtin; refine wpList_append_own _ rfl (.tmp 14) (.tmp 21) 22 rfl w.heap.size 5 j0 (.int .u8 0) 1 1 Tryz.underlying22 hj k0 k1 k2 rfl (by decide) _ _ _ rfl (hown.alloc _) ⟨wr.heap.size, 0, none⟩ 1 1 [.int .u8 ((v : Int) / 2 ^ (8 * i) % 256)] rfl rfl (cell_one_new _ _ _) (Nm.one_cell _ rfl) (by unfold maxLen; omega) (by omega) (by simp; omega) ?_; intro vb wb hown8 hgrow8 hnl8; clear hnl8)
      rw [← HT.out] at hown8
      have hrow : ∀ q, Value.ownBlock (.slice xa j xc) = some q → w.heap.size ≤ q := fun q hq => (hown.lt q hq).1
      have hB8 : Below w.heap.size w wb := (hbel.alloc hBr _).grown hgrow8 (by rw [World.size_alloc]; omega) hrow
      obtain ⟨za, zc, rfl⟩ := own_sl hown8
      clear hgrow8 hown hbel
      have hi := HI.out
      go_roundw
      case rel => exact ⟨j + 1, by omega, by go_num, hown8, hB8⟩
      case measure => simp [intOf]
    · obtain rfl : j = n := by omega
      rw [List.take_of_length_le (by rw [bigL_len]; omega)] at hown
      have HC := Nm.conv_own (P := Tryz.prog) (src := 22) (dst := 9) Tryz.underlying22 Tryz.underlying5 Tryz.underlying9 hown (by omega)
      obtain ⟨g, cap, hv', hcv⟩ := HC
      cases hv'
      have hneg : ¬ (0 : Int) ≤ (j : Int) - 1 - (j : Int) := by omega
      go_wp2
      go_ret
      exact ⟨rfl, hbel⟩
end Go.Proofs.YtfficbpalibmoaaGreatDoor
/- spec.l01Small by its contract. -/
namespace Go.Proofs.YtfficbpalibmoaaGreatDoor
open Go.RowKit

theorem Tryz.infoU8s : (Tryz.prog.info? 5).map (fun i => (i.zero, i.size, i.bytes)) = some (some (.int .u8 0), 1, 1) := by kernel_rfl

theorem conv_nil (c : Nat) (W : World) : (convert 22 9 (.slice (some ⟨c, 0, none⟩) 0 0)).run Tryz.prog W = .ok (.string ByteArray.empty) W := by
  exact run_convert_bytes_back W 22 9 5 ⟨c, 0, none⟩ 0 [] Tryz.underlying22 Tryz.underlying5 Tryz.underlying9 (by intro j hj; simp at hj)

set_option maxRecDepth 100000 in
set_option maxHeartbeats 800000 in
theorem l01Small_any (s : ByteArray) (w : World) (hs : s.size ≤ 1000000000) :
    Calls Tryz.prog 64 #[.string s] w fun e w' => e = .returned (.string (Nm.small s)) ∧ Below w.heap.size w w' := by
  obtain ⟨j0, hj, k0, k1, k2⟩ := info_parts Tryz.infoU8s
  by_cases hz : s.size = 0
  · have hc := fun W => conv_nil w.heap.size W
    have HE : Hid (Nm.small s = ByteArray.empty) := by
      show _ = _
      apply Nm.ba_ext
      rw [Nm.small_data, List.length_eq_zero_iff.1 (show s.data.toList.length = 0 by simpa using hz)]
      rfl
    have hz' : (s.size : Int) ≤ 0 := by omega
    go_enter Tryz.func64, Tryz.ntmps64
    go_wp2
    go_loop [3, 4] (fun v i => v = .slice (some ⟨w.heap.size, 0, none⟩) 0 0 ∧ i = .int .i64 0) (fun _ _ => 0)
    case atStart => exact ⟨rfl, rfl⟩
    case round =>
      obtain ⟨rfl, rfl⟩ := hrel
      go_wp2
      go_ret
      rw [HE.out]
      exact ⟨rfl, (Below.refl _ _).alloc (Nat.le_refl _) _⟩
  · go_enter Tryz.func64, Tryz.ntmps64
    go_wp2
    go_loopw [3, 4] (fun v i wr => ∃ k : Nat, k ≤ s.size ∧ i = .int .i64 k ∧ wr.ownsRow w.heap.size 5 1 v k (Nm.bys (Nm.smallL (s.data.toList.take k))) ∧ Below w.heap.size w wr)
      (fun _ i _ => s.size - (intOf i).toNat)
    case atStart => exact ⟨0, Nat.zero_le _, rfl, World.ownsRow_made w #[] 0 (Nat.le_refl _) (by decide) rfl, (Below.refl _ _).alloc (Nat.le_refl _) _⟩
    case round =>
      obtain ⟨k, hk, rfl, hown, hbel⟩ := hrel
      have hsz := hbel.size
      by_cases hlt : k < s.size
      · have HS := Nm.hide (Nm.smallL_step (Nm.get_data hlt))
        have hcl : (s[k].toNat : Int) < 256 := by have := s[k].toNat_lt; omega
        by_cases hup : 65 ≤ s[k].toNat ∧ s[k].toNat ≤ 90
        · have HL := Nm.hide (Nm.low_up hup)
          have d1 : decide ((65 : Int) ≤ (s[k].toNat : Int)) = true := by simp; omega
          have d2 : decide ((s[k].toNat : Int) ≤ 90) = true := by simp; omega
          have hb1 : (s[k].toNat : Int) ≤ 90 := by omega
          clear hup
          go_wp2_with (at_builtin; refine wpList_append_own _ rfl (.tmp 24) (.tmp 26) 22 rfl w.heap.size 5 j0 (.int .u8 0) 1 1 Tryz.underlying22 hj k0 k1 k2 rfl (by decide) _ _ _ rfl (hown.alloc _) ⟨wr.heap.size, 0, none⟩ 1 1 [.int .u8 ((s[k].toNat : Int) + 32)] rfl rfl (cell_one_new _ _ _) (Nm.one_cell _ rfl) (by unfold maxLen; omega) (by omega) (by simp; omega) ?_; intro vb wb hown2 hgrow2 hnl2; clear hnl2; rw [← HL.out] at hown2; have R2 := Nm.bys_step (x := [Nm.low s[k]]) (by simp; omega) (hown.alloc _) (hbel.alloc hsz _) hown2 hgrow2; clear hown2 hgrow2)
          go_roundw
          case rel => exact ⟨k + 1, by omega, by go_num, by rw [HS.out]; exact R2.1, R2.2⟩
          case measure => simp [intOf]; omega
        · have HL := Nm.hide (Nm.low_id hup)
          by_cases hlo : 65 ≤ s[k].toNat
          · have d1 : decide ((65 : Int) ≤ (s[k].toNat : Int)) = true := by simp; omega
            have d2 : decide ((s[k].toNat : Int) ≤ 90) = false := by simp; omega
            clear hup
            go_wp2_with (at_builtin; refine wpList_append_own _ rfl (.tmp 24) (.tmp 26) 22 rfl w.heap.size 5 j0 (.int .u8 0) 1 1 Tryz.underlying22 hj k0 k1 k2 rfl (by decide) _ _ _ rfl (hown.alloc _) ⟨wr.heap.size, 0, none⟩ 1 1 [.int .u8 (s[k].toNat : Int)] rfl rfl (cell_one_new _ _ _) (Nm.one_cell _ rfl) (by unfold maxLen; omega) (by omega) (by simp; omega) ?_; intro vb wb hown2 hgrow2 hnl2; clear hnl2; have R2 := Nm.bys_step (x := [s[k]]) (by simp; omega) (hown.alloc _) (hbel.alloc hsz _) hown2 hgrow2; clear hown2 hgrow2)
            go_roundw
            case rel => exact ⟨k + 1, by omega, by go_num, by rw [HS.out, HL.out]; exact R2.1, R2.2⟩
            case measure => simp [intOf]; omega
          · have d1 : decide ((65 : Int) ≤ (s[k].toNat : Int)) = false := by simp; omega
            clear hup
            go_wp2_with (at_builtin; refine wpList_append_own _ rfl (.tmp 24) (.tmp 26) 22 rfl w.heap.size 5 j0 (.int .u8 0) 1 1 Tryz.underlying22 hj k0 k1 k2 rfl (by decide) _ _ _ rfl (hown.alloc _) ⟨wr.heap.size, 0, none⟩ 1 1 [.int .u8 (s[k].toNat : Int)] rfl rfl (cell_one_new _ _ _) (Nm.one_cell _ rfl) (by unfold maxLen; omega) (by omega) (by simp; omega) ?_; intro vb wb hown2 hgrow2 hnl2; clear hnl2; have R2 := Nm.bys_step (x := [s[k]]) (by simp; omega) (hown.alloc _) (hbel.alloc hsz _) hown2 hgrow2; clear hown2 hgrow2)
            go_roundw
            case rel => exact ⟨k + 1, by omega, by go_num, by rw [HS.out, HL.out]; exact R2.1, R2.2⟩
            case measure => simp [intOf]; omega
      · have hkl : k = s.size := by omega
        subst hkl
        obtain ⟨g, cp, rfl, hcv⟩ := Nm.conv_own (P := Tryz.prog) Tryz.underlying22 Tryz.underlying5 Tryz.underlying9 hown (by omega)
        rw [List.take_of_length_le (by simp)] at hcv
        have he : (⟨(Nm.smallL s.data.toList).toArray⟩ : ByteArray) = Nm.small s := rfl
        rw [he] at hcv
        clear hown hlt he
        go_wp2
        go_ret
        exact ⟨rfl, hbel⟩
end Go.Proofs.YtfficbpalibmoaaGreatDoor
/- FoldName, the program's and the model's, by their contracts. -/
namespace Go.Proofs.YtfficbpalibmoaaGreatDoor
open Go.RowKit

theorem set_small {ls : List ByteArray} {k : Nat} {x : ByteArray} (h : ls[k]? = some x) :
    ((ls.take k).map (fun y => Value.string (Nm.small y)) ++ (ls.drop k).map Value.string).set k (.string (Nm.small x)) = (ls.take (k + 1)).map (fun y => Value.string (Nm.small y)) ++ (ls.drop (k + 1)).map Value.string := by
  have hk : k < ls.length := (List.getElem?_eq_some_iff.1 h).1
  have hx : ls[k] = x := (List.getElem?_eq_some_iff.1 h).2
  have hl : ((ls.take k).map (fun y => Value.string (Nm.small y))).length = k := by simp; omega
  rw [Nm.take_step h, List.set_append_right _ _ (by omega), hl, List.drop_eq_getElem_cons hk, hx]
  simp

set_option maxRecDepth 100000 in
set_option maxHeartbeats 800000 in
theorem specFoldName_any (s : ByteArray) (w : World) (hs : s.size ≤ maxLen) :
    Calls Tryz.prog 44 #[.string s] w fun e w' => e = .returned (.string (Nm.foldS s)) ∧ Below w.heap.size w w' := by
  have hsp := l01Split_any s w hs
  cases hq : Nm.split s with
  | none =>
    have HA := Nm.hide (Nm.foldS_none hq)
    rw [hq] at hsp
    clear hq
    go_enter Tryz.func44, Tryz.ntmps44
    go_wp2_with fail
    refine hsp.mono ?_
    rintro e w1 ⟨v, rfl, hown, hbel⟩
    go_wp2
    go_ret
    rw [HA.out]
    exact ⟨rfl, hbel⟩
  | some ls =>
    have hz := Nm.split_size hq
    have HA := Nm.hide (Nm.foldS_some hq)
    have HJ := Nm.hide (Nm.joinL_small hq)
    have hxs := (Nm.split_join hq).2
    have hll := Nm.length_le_wsum ls
    rw [hq] at hsp
    clear hq
    go_enter Tryz.func44, Tryz.ntmps44
    go_wp2_with fail
    refine hsp.mono ?_
    rintro e w1 ⟨v, rfl, hown, hbel⟩
    simp only [Option.getD_some] at hown
    clear hsp
    by_cases hn : ls = []
    · subst hn
      have hrow := Nm.SRow.of_owns hown
      obtain ⟨a, cap, rfl, hcap, hmx, hnl, hc⟩ := hrow
      have hr := Nm.SRow.of_owns hown
      clear hown hc hnl
      go_wp2
      go_loop [5] (fun i => i = .int .i64 0) (fun _ => 0)
      case atStart => rfl
      case round =>
        subst hrel
        go_wp2_with (go_at_call 61; refine (l01Join_any _ [] _ hr (by simp [Nm.wsum])).mono ?_; rintro e w2 ⟨rfl, hbel2⟩)
        go_ret
        rw [HA.out, ← HJ.out]
        exact ⟨rfl, Nm.below_two hbel hbel2⟩
    · have hlp : 0 < ls.length := List.length_pos_iff.2 hn
      obtain ⟨g, cap, cur, rfl, hg⟩ : ∃ g cap cur, v = .slice (some ⟨g, 0, none⟩) ls.length cap ∧ w.heap.size ≤ g ∧ ls.length ≤ cap ∧ cap ≤ maxLen ∧ w1.heap[g]? = some (.cells cur 9 (0, 0)) := by
        rcases hown.2 with ⟨rfl, h0⟩ | ⟨g, cap, cur, rfl, hb, hg, hnc, hm, _⟩
        · omega
        · exact ⟨g, cap, cur, rfl, hb, hnc, hm, hg⟩
      obtain ⟨hwg, hnc, hm, _⟩ := hg
      unfold maxLen at hm
      go_wp2
      go_loopw [5] (fun i wr => ∃ k : Nat, k ≤ ls.length ∧ i = .int .i64 k ∧ wr.ownsRow w.heap.size 9 1 (.slice (some ⟨g, 0, none⟩) ls.length cap) ls.length ((ls.take k).map (fun y => Value.string (Nm.small y)) ++ (ls.drop k).map Value.string) ∧ Below w.heap.size w wr)
        (fun i _ => ls.length - (intOf i).toNat)
      case atStart => exact ⟨0, Nat.zero_le _, rfl, by simpa using hown, hbel⟩
      case round =>
        obtain ⟨k, hk, rfl, hownk, hbelk⟩ := hrel
        have hszk := hbelk.size
        clear hown hbel
        by_cases hlt : k < ls.length
        · obtain ⟨x, hx⟩ : ∃ x, ls[k]? = some x := ⟨_, List.getElem?_eq_getElem hlt⟩
          have hxz := hxs x (List.mem_of_getElem? hx)
          have hcx : wr.cell? ⟨g, k, none⟩ = some (.string x) := by
            rw [hownk.cellAt k (by omega), List.getElem?_append_right (by simp; omega)]
            simp [Nat.min_eq_left hk, hx]
          have HSET := Nm.hide (set_small hx)
          go_wp2_with (go_at_call 64; refine (l01Small_any x _ (by omega)).mono ?_; rintro e w3 ⟨rfl, hbel3⟩; have hown3 := hownk.kept (w' := w3) (row := none) ⟨hbel3.os, hbel3.tape, hbel3.output, hbel3.size, fun k hk _ => hbel3.block k hk⟩ (.inr (by simp [Value.ownBlock])); have hst := hown3.stored k (.string (Nm.small x)); rw [HSET.out] at hst; have hfz := hown3.frozenAt k; have hc3 : w3.cell? ⟨g, k, none⟩ = some (.string x) := (hbel3.cell (World.block_lt_of_cell? wr _ hcx)).trans hcx; have HR := Nm.hide hst; have HB : Hid (Below w.heap.size w (w3.setCell ⟨g, k, none⟩ (.string (Nm.small x)))) := (hbelk.trans (hbel3.mono hszk)).setCell hwg _; clear hst hown3)
          go_roundw
          case rel => exact ⟨k + 1, by omega, by go_num, HR.out.1, HB.out⟩
          case measure => simp [intOf]; omega
        · have hkl : k = ls.length := by omega
          subst hkl
          have hr : Nm.SRow wr (.slice (some ⟨g, 0, none⟩) ls.length cap) (ls.map Nm.small) := by
            apply Nm.SRow.of_owns (B := w.heap.size) (e := 9)
            simpa [Function.comp_def] using hownk
          have hws := Nm.wsum_small ls
          clear hownk hlt
          go_wp2_with (go_at_call 61; refine (l01Join_any _ (ls.map Nm.small) _ hr (by omega)).mono ?_; rintro e w2 ⟨rfl, hbel2⟩)
          go_ret
          rw [HA.out, ← HJ.out]
          exact ⟨rfl, Nm.below_two hbelk hbel2⟩
end Go.Proofs.YtfficbpalibmoaaGreatDoor
/- spec.l09Sum by its contract. -/
namespace Go.Proofs.YtfficbpalibmoaaGreatDoor
open Go.RowKit
set_option linter.unusedVariables false

set_option maxRecDepth 100000 in
set_option maxHeartbeats 3200000 in
theorem l09Sum_any (kn sc rq M TM FD : ByteArray) (ml tm fd : List UInt8) (hM : M = ⟨ml.toArray⟩) (hTM : TM = ⟨tm.toArray⟩) (hFD : FD = ⟨fd.toArray⟩) (w : World) (hml : ml.length ≤ 1048576) (htm : tm.length ≤ 1000) (hfd : fd.length ≤ 1000)
    (hkn : kn.size ≤ maxLen) (hfz : (Nm.foldS kn).size ≤ 1000) (hsc : sc.size ≤ 1048576) (hrq : rq.size ≤ 1000) :
    Calls Tryz.prog 24 #[.agg #[.string kn, .string sc], .string M, .string TM, .string FD, .string rq] w fun e w' => e = .returned (.string ⟨(hmacL sc.data.toList (rqL rq.data.toList ++ ml ++ (Nm.foldS kn).data.toList ++ [0, 255, 0, 0, 0, 0] ++ algL ++ tm ++ fd ++ [0, 0, 0, 0])).toArray⟩) ∧ Below w.heap.size w w' := by
  have k5 := blk_new w #[.string kn, .string sc] 52
  have hB0 := (Below.refl w.heap.size w).alloc (Nat.le_refl _) (.cells #[.string kn, .string sc] 52)
  have hfo := fun W => specFoldName_any kn W hkn
  have hal := fun W => l09Alg_any W
  have hfl : (Nm.foldS kn).data.toList.length = (Nm.foldS kn).size := by simp
  have hrl : rq.data.toList.length = rq.size := by simp
  have HSL := Nm.hide (show sc.data.toList.length = sc.size by simp)
  obtain ⟨hd, ehd⟩ : ∃ hd, hd = rqL rq.data.toList := ⟨_, rfl⟩
  have hdl : hd.length ≤ 1100 := by rw [ehd, rqL]; split <;> simp [big_len] <;> omega
  obtain ⟨HD, eHD⟩ : ∃ HD : ByteArray, HD = ⟨hd.toArray⟩ := ⟨_, rfl⟩
  obtain ⟨C21, a21, e21⟩ := cat_ex hd ml HD M eHD hM (by omega)
  obtain ⟨C25, a25, e25⟩ := cat_ex _ (Nm.foldS kn).data.toList C21 (Nm.foldS kn) e21 (ba_mk _).symm (by simp only [List.length_append]; omega)
  obtain ⟨C26, a26, e26⟩ := cat_ex _ [0, 255, 0, 0, 0, 0] C25 ⟨#[0, 255, 0, 0, 0, 0]⟩ e25 rfl (by simp only [List.length_append, List.length_cons, List.length_nil]; omega)
  obtain ⟨C28, a28, e28⟩ := cat_ex _ algL C26 ⟨algL.toArray⟩ e26 rfl (by simp only [List.length_append, List.length_cons, List.length_nil]; omega)
  obtain ⟨C30, a30, e30⟩ := cat_ex _ tm C28 TM e28 hTM (by simp only [List.length_append, List.length_cons, List.length_nil]; omega)
  obtain ⟨C32, a32, e32⟩ := cat_ex _ fd C30 FD e30 hFD (by simp only [List.length_append, List.length_cons, List.length_nil]; omega)
  obtain ⟨C33, a33, e33⟩ := cat_ex _ [0, 0, 0, 0] C32 ⟨#[0, 0, 0, 0]⟩ e32 rfl (by simp only [List.length_append, List.length_cons, List.length_nil]; omega)
  have hz : (hd ++ ml ++ (Nm.foldS kn).data.toList ++ [0, 255, 0, 0, 0, 0] ++ algL ++ tm ++ fd ++ [0, 0, 0, 0]).length ≤ 1100000 := by simp only [List.length_append, List.length_cons, List.length_nil]; omega
  rw [← ehd]
  generalize hd ++ ml ++ (Nm.foldS kn).data.toList ++ [0, 255, 0, 0, 0, 0] ++ algL ++ tm ++ fd ++ [0, 0, 0, 0] = TX at *
  have HZ33 : Hid (C33.size ≤ 1100000) := by show _ ≤ _; rw [e33, ba_size]; exact hz
  have HL33 : Hid (C33.data.toList = TX) := by show _ = _; rw [e33]
  have HN33 := Nm.hide hz
  have HFD := Nm.hide eHD
  have HED := Nm.hide ehd
  have HRL := Nm.hide hrl
  clear e21 e25 e26 e28 e30 e32 e33 hM hTM hFD hz hfl hrl ehd eHD hkn hdl
  generalize (⟨algL.toArray⟩ : ByteArray) = AG at hal a28
  generalize Nm.foldS kn = FK at *
  by_cases hq : rq.size = 0
  · have hq' : rq.toList.isEmpty = true := by
      have : rq.toList = [] := List.length_eq_zero_iff.1 (by rw [Nm.tl_len]; exact hq)
      simp [this]
    obtain rfl : HD = ⟨#[]⟩ := by rw [HFD.out, HED.out, rqL, if_pos (by rw [HRL.out]; exact hq)]
    have hBq := Below.refl (w.alloc (.cells #[.string kn, .string sc] 52)).heap.size (w.alloc (.cells #[.string kn, .string sc] 52))
    clear hq HFD HED HRL
    go_enter Tryz.func24, Tryz.ntmps24
    go_wp2_with (go_at_call 44; refine (hfo _).mono ?_; rintro e w3 ⟨rfl, b3⟩)
    have hB3 := Nm.below_two hBq b3
    clear hBq b3 hfo
    refine (hal _).mono ?_
    rintro e w4 ⟨rfl, b4⟩
    have hB4 := Nm.below_two hB3 b4
    have q1 := (blk_cell (blk_below k5 hB4) 1).trans rfl
    have hBw := Nm.below_two hB0 hB4
    obtain ⟨v5, w5, r5, f5, b5⟩ := FRow.new sc w4 (by omega)
    obtain ⟨v6, w6, r6, f6, b6⟩ := FRow.new C33 w5 (by have := HZ33.out; omega)
    have hk5 := (free_by f5).below b6
    have hk6 := free_by f6
    rw [HL33.out] at hk6
    have hhm := specHmac_any _ _ _ _ w6 hk5 hk6 (by rw [HSL.out]; exact hsc) (by have := HZ33.out; have := HN33.out; omega)
    have hs32 := hmac_len sc.data.toList TX
    have hst := fun W => l09Str_any (hmacL sc.data.toList TX) hs32 W
    generalize hsm : hmacL sc.data.toList TX = sm at *
    have HSM := Nm.hide hsm
    clear hsm
    obtain ⟨x5, y5, rfl⟩ : ∃ a c, v5 = .slice a sc.data.toList.length c := by obtain ⟨_, a, c, e, _⟩ := hk5; exact ⟨a, c, e⟩
    obtain ⟨x6, y6, rfl⟩ : ∃ a c, v6 = .slice a TX.length c := by obtain ⟨_, a, c, e, _⟩ := hk6; exact ⟨a, c, e⟩
    have hB6 := Nm.below_two (Nm.below_two hBw b5) b6
    clear hB3 b4 hal hk5 hk6 f5 f6 b5 b6 hBw hs32 hB4
    go_wp2_with fail
    refine hhm.mono ?_
    rintro e w7 ⟨rfl, b7⟩
    have hB7 := Nm.below_two hB6 b7
    clear r5 r6
    go_wp2_with fail
    refine (hst _).mono ?_
    rintro e w8 ⟨rfl, b8⟩
    go_wp2
    go_ret
    rw [HSM.out]
    exact ⟨rfl, Nm.below_two hB7 b8⟩
  · have hq' : rq.toList.isEmpty = false := by
      have : rq.toList ≠ [] := fun e => hq (by rw [← Nm.tl_len, e]; rfl)
      simpa using this
    have hq2 : ∀ W, Calls Tryz.prog 22 #[.int .i64 (rq.size : Int), .int .i64 2] W fun e w' => e = .returned (.string ⟨(bigL rq.size 2).toArray⟩) ∧ Below W.heap.size W w' := fun W => l02PutN_any rq.size 2 W (by omega) (by decide) (by decide)
    obtain ⟨C18, a18, e18⟩ := cat_ex (bigL rq.size 2) rq.data.toList ⟨(bigL rq.size 2).toArray⟩ rq rfl (ba_mk _).symm (by simp only [big_len, HRL.out]; omega)
    obtain rfl : HD = C18 := by rw [HFD.out, HED.out, rqL, if_neg (by rw [HRL.out]; exact hq), HRL.out, e18]
    generalize (⟨(bigL rq.size 2).toArray⟩ : ByteArray) = BQ at hq2 a18
    clear hq HFD HED HRL e18
    go_enter Tryz.func24, Tryz.ntmps24
    go_wp2_with fail
    refine (hq2 _).mono ?_
    rintro e w1 ⟨rfl, hBq⟩
    have q0 := (blk_cell (blk_below k5 hBq) 0).trans rfl
    clear hq2
    go_wp2_with (go_at_call 44; refine (hfo _).mono ?_; rintro e w3 ⟨rfl, b3⟩)
    have hB3 := Nm.below_two hBq b3
    clear hBq b3 hfo
    refine (hal _).mono ?_
    rintro e w4 ⟨rfl, b4⟩
    have hB4 := Nm.below_two hB3 b4
    have q1 := (blk_cell (blk_below k5 hB4) 1).trans rfl
    have hBw := Nm.below_two hB0 hB4
    obtain ⟨v5, w5, r5, f5, b5⟩ := FRow.new sc w4 (by omega)
    obtain ⟨v6, w6, r6, f6, b6⟩ := FRow.new C33 w5 (by have := HZ33.out; omega)
    have hk5 := (free_by f5).below b6
    have hk6 := free_by f6
    rw [HL33.out] at hk6
    have hhm := specHmac_any _ _ _ _ w6 hk5 hk6 (by rw [HSL.out]; exact hsc) (by have := HZ33.out; have := HN33.out; omega)
    have hs32 := hmac_len sc.data.toList TX
    have hst := fun W => l09Str_any (hmacL sc.data.toList TX) hs32 W
    generalize hsm : hmacL sc.data.toList TX = sm at *
    have HSM := Nm.hide hsm
    clear hsm
    obtain ⟨x5, y5, rfl⟩ : ∃ a c, v5 = .slice a sc.data.toList.length c := by obtain ⟨_, a, c, e, _⟩ := hk5; exact ⟨a, c, e⟩
    obtain ⟨x6, y6, rfl⟩ : ∃ a c, v6 = .slice a TX.length c := by obtain ⟨_, a, c, e, _⟩ := hk6; exact ⟨a, c, e⟩
    have hB6 := Nm.below_two (Nm.below_two hBw b5) b6
    clear hB3 b4 hal hk5 hk6 f5 f6 b5 b6 hBw hs32 hB4
    go_wp2_with fail
    refine hhm.mono ?_
    rintro e w7 ⟨rfl, b7⟩
    have hB7 := Nm.below_two hB6 b7
    clear r5 r6
    go_wp2_with fail
    refine (hst _).mono ?_
    rintro e w8 ⟨rfl, b8⟩
    go_wp2
    go_ret
    rw [HSM.out]
    exact ⟨rfl, Nm.below_two hB7 b8⟩
end Go.Proofs.YtfficbpalibmoaaGreatDoor
/- spec.SameName by its contract. -/
namespace Go.Proofs.YtfficbpalibmoaaGreatDoor
open Go.RowKit

set_option maxRecDepth 100000 in
set_option maxHeartbeats 800000 in
theorem specSameName_any (a b : ByteArray) (w : World) (ha : a.size ≤ maxLen) (hb : b.size ≤ maxLen) :
    Calls Tryz.prog 23 #[.string a, .string b] w fun e w' => e = .returned (.bool (sameS a b)) ∧ Below w.heap.size w w' := by
  have hsa := specFoldName_any a w ha
  have hsb := fun W => specFoldName_any b W hb
  cases hqa : Nm.split a with
  | none =>
    have HA := Nm.hide (same_left (b := b) hqa)
    rw [Nm.foldS_none hqa] at hsa
    have he : (ByteArray.empty).toList.isEmpty = true := Nm.tl_empty rfl
    clear hqa
    go_enter Tryz.func23, Tryz.ntmps23
    go_wp2_with fail
    refine hsa.mono ?_
    rintro e w1 ⟨rfl, hbel⟩
    go_wp2
    go_ret
    rw [HA.out]
    exact ⟨rfl, hbel⟩
  | some xs =>
    rw [Nm.foldS_some hqa] at hsa
    have he := small_pos hqa
    cases hqb : Nm.split b with
    | none =>
      have HA := Nm.hide (same_right (a := a) hqb)
      rw [Nm.foldS_none hqb] at hsb
      have hne : ((Nm.small a).toList == (ByteArray.empty).toList) = false := by
        rw [beq_eq_false_iff_ne]
        intro e
        rw [e] at he
        rw [Nm.tl_empty rfl] at he
        simp at he
      clear hqa hqb
      generalize Nm.small a = x at *
      go_enter Tryz.func23, Tryz.ntmps23
      go_wp2_with fail
      refine hsa.mono ?_
      rintro e w1 ⟨rfl, hbel⟩
      go_wp2_with fail
      refine (hsb _).mono ?_
      rintro e w2 ⟨rfl, hbel2⟩
      go_wp2
      go_ret
      rw [HA.out]
      exact ⟨rfl, Nm.below_two hbel hbel2⟩
    | some ys =>
      have HA := Nm.hide (same_some hqa hqb)
      have HE := Nm.hide (small_eq a b)
      rw [Nm.foldS_some hqb] at hsb
      clear hqa hqb
      generalize Nm.small a = x at *
      generalize Nm.small b = y at *
      go_enter Tryz.func23, Tryz.ntmps23
      go_wp2_with fail
      refine hsa.mono ?_
      rintro e w1 ⟨rfl, hbel⟩
      go_wp2_with fail
      refine (hsb _).mono ?_
      rintro e w2 ⟨rfl, hbel2⟩
      go_wp2
      go_ret
      rw [HA.out, ← HE.out]
      exact ⟨rfl, Nm.below_two hbel hbel2⟩
end Go.Proofs.YtfficbpalibmoaaGreatDoor
/- spec.l09Data by its contract. -/
namespace Go.Proofs.YtfficbpalibmoaaGreatDoor
open Go.RowKit
set_option linter.unusedVariables false

def cutS' (l : List UInt8) (a n : Nat) : ByteArray := ⟨((l.drop a).take n).toArray⟩
theorem ext_cut (l : List UInt8) (D : ByteArray) (hD : D = ⟨l.toArray⟩) (a b : Nat) : D.extract a b = cutS' l a (b - a) := by
  subst hD
  apply Nm.ba_ext
  simp only [ByteArray.data_extract, Array.toList_extract, List.extract_eq_take_drop]
  rfl
theorem cutS'_data (l : List UInt8) (a n : Nat) : (cutS' l a n).data.toList = (l.drop a).take n := by simp [cutS']

/-- What spec.l09Data answers of a record. -/
def datV (r : Rm) (e : Ending) (w' : World) : Prop := (datB r = false ∧ e = .returned (.tuple #[.slice none 0 0, .bool false])) ∨
  (datB r = true ∧ ∃ b, e = .returned (.tuple #[.slice (some ⟨b, 0, none⟩) 4 4, .bool true]) ∧ Blk w' b #[.string (cutS' r.dat 13 6), .string (cutS' r.dat 19 2), .string (cutS' r.dat 23 32), .string (cutS' r.dat 55 2)] 9)

set_option maxRecDepth 100000 in
set_option maxHeartbeats 3200000 in
theorem l09Data_any (r : Rm) (w : World) (hd : r.dat.length ≤ 65535) :
    Calls Tryz.prog 21 #[.agg #[.string ⟨r.owner.toArray⟩, .int .i64 (r.ty : Int), .int .i64 (r.cl : Int), .int .i64 (r.ttl : Int), .string ⟨r.dat.toArray⟩]] w fun e w' => datV r e w' ∧ Below w.heap.size w w' := by
  have k0 := blk_new w #[.string ⟨r.owner.toArray⟩, .int .i64 (r.ty : Int), .int .i64 (r.cl : Int), .int .i64 (r.ttl : Int), .string ⟨r.dat.toArray⟩] 54
  have hB0 := (Below.refl w.heap.size w).alloc (Nat.le_refl _) (.cells #[.string ⟨r.owner.toArray⟩, .int .i64 (r.ty : Int), .int .i64 (r.cl : Int), .int .i64 (r.ttl : Int), .string ⟨r.dat.toArray⟩] 54)
  obtain ⟨D, hD⟩ : ∃ D : ByteArray, D = ⟨r.dat.toArray⟩ := ⟨_, rfl⟩
  have hDz : D.size = r.dat.length := by rw [hD, ba_size]
  have hDd : D.data.toList = r.dat := by rw [hD]
  have hnz := Dt.name_le D
  have HSA := same_alg D
  have HNA : Hid (sameS (Dt.nameAtS D) ⟨algL.toArray⟩ = true → (Dt.nameAtS D).size = 13) := by
    intro h
    obtain ⟨h1, h2⟩ := (same_alg D).1 h
    rw [name_alg h1 h2, ByteArray.size_extract]
    omega
  have hna := fun W => l02NameAt_any D W
  have hal := fun W => l09Alg_any W
  have hsm := fun W => specSameName_any (Dt.nameAtS D) ⟨algL.toArray⟩ W (by unfold maxLen; omega) (by decide)
  have HDB : Hid (datB r = (decide (r.cl = 255) && (decide (r.ttl = 0) && (decide (r.dat.length = 61) && (decide ((r.dat.take 13).map Nm.low = algL) && (decide ((r.dat.drop 21).take 2 = [0, 32]) && decide (r.dat.drop 57 = [0, 0, 0, 0]))))))) := rfl
  have HX : Hid (∀ a b, D.extract a b = cutS' r.dat a (b - a)) := fun a b => ext_cut r.dat D hD a b
  rw [hDd] at HSA
  rw [← hD] at k0 hB0 ⊢
  obtain ⟨O, hO⟩ : ∃ O : ByteArray, O = ⟨r.owner.toArray⟩ := ⟨_, rfl⟩
  rw [← hO] at k0 hB0 ⊢
  obtain ⟨T, hT⟩ : ∃ T, D.extract (Dt.nameAtS D).size D.size = T := ⟨_, rfl⟩
  have hTz : T.size = D.size - (Dt.nameAtS D).size := by rw [← hT, ByteArray.size_extract]; omega
  have hnz' : ((Dt.nameAtS D).size : Int) ≤ (D.size : Int) := by omega
  generalize sameS (Dt.nameAtS D) ⟨algL.toArray⟩ = b at *
  generalize Dt.nameAtS D = N at *
  have q := fun i => blk_cell k0 i
  have HDd := Nm.hide hDd
  have HDz := Nm.hide hDz
  have HTz := Nm.hide hTz
  clear hD hDd hO hDz hTz
  by_cases h1 : r.cl = 255
  case neg =>
    have e1 : ((r.cl : Int) != 255) = true := by rw [bne_iff_ne]; omega
    have hbad : datB r = false := by rw [HDB.out, decide_eq_false h1]; simp
    have HB := Nm.hide hbad
    clear HDB HX HNA HSA hbad h1
    go_enter Tryz.func21, Tryz.ntmps21
    go_wp2_with fail
    refine (hna _).mono ?_
    rintro e w1 ⟨rfl, rfl⟩
    go_wp2
    go_ret2
    exact ⟨.inl ⟨HB.out, rfl⟩, hB0⟩
  case pos =>
  have e1 : ((r.cl : Int) != 255) = false := by rw [bne_eq_false_iff_eq]; omega
  by_cases h2 : r.ttl = 0
  case neg =>
    have e2 : ((r.ttl : Int) != 0) = true := by rw [bne_iff_ne]; omega
    have hbad : datB r = false := by rw [HDB.out, decide_eq_false h2]; simp
    have HB := Nm.hide hbad
    clear HDB HX HNA HSA hbad h1 h2
    go_enter Tryz.func21, Tryz.ntmps21
    go_wp2_with fail
    refine (hna _).mono ?_
    rintro e w1 ⟨rfl, rfl⟩
    go_wp2
    go_ret2
    exact ⟨.inl ⟨HB.out, rfl⟩, hB0⟩
  case pos =>
  have e2 : ((r.ttl : Int) != 0) = false := by rw [bne_eq_false_iff_eq]; omega
  cases b with
  | false =>
    have hbad : datB r = false := by
      by_cases h61 : r.dat.length = 61
      · have : ¬ ((r.dat.take 13).map Nm.low = algL) := fun h => by
          have := HSA.2 ⟨by have := HDz.out; omega, h⟩
          cases this
        rw [HDB.out, decide_eq_false this]
        simp
      · rw [HDB.out, decide_eq_false h61]
        simp
    have HB := Nm.hide hbad
    clear HDB HX HNA HSA hbad h1 h2
    go_enter Tryz.func21, Tryz.ntmps21
    go_wp2_with fail
    refine (hna _).mono ?_
    rintro e w1 ⟨rfl, rfl⟩
    go_wp2_with fail
    refine (hal _).mono ?_
    rintro e w2 ⟨rfl, b2⟩
    go_wp2_with fail
    refine (hsm _).mono ?_
    rintro e w3 ⟨rfl, b3⟩
    go_wp2
    go_ret2
    exact ⟨.inl ⟨HB.out, rfl⟩, Nm.below_two (Nm.below_two hB0 b2) b3⟩
  | true =>
    have hN13 := HNA.out rfl
    have hlow := (HSA.1 rfl).2
    have hge := (HSA.1 rfl).1
    clear HNA HSA
    by_cases h4 : r.dat.length = 61
    case neg =>
      have e4 : ((T.size : Int) != 48) = true := by have := HDz.out; have := HTz.out; rw [bne_iff_ne]; omega
      have hbad : datB r = false := by rw [HDB.out, decide_eq_false h4]; simp
      have HB := Nm.hide hbad
      clear HDB HX hbad h1 h2 h4 hlow hN13
      go_enter Tryz.func21, Tryz.ntmps21
      go_wp2_with fail
      refine (hna _).mono ?_
      rintro e w1 ⟨rfl, rfl⟩
      go_wp2_with fail
      refine (hal _).mono ?_
      rintro e w2 ⟨rfl, b2⟩
      go_wp2_with fail
      refine (hsm _).mono ?_
      rintro e w3 ⟨rfl, b3⟩
      go_wp2
      go_ret2
      exact ⟨.inl ⟨HB.out, rfl⟩, Nm.below_two (Nm.below_two hB0 b2) b3⟩
    case pos =>
    have hT48 : T.size = 48 := by have := HDz.out; have := HTz.out; omega
    have e4 : ((T.size : Int) != 48) = false := by rw [bne_eq_false_iff_eq]; omega
    have hE : ∀ a n, a + n ≤ 48 → T.extract a (a + n) = cutS' r.dat (13 + a) n := by
      intro a n han
      rw [← hT, hN13, show (13 : Nat) + a = 13 + a from rfl]
      apply Nm.ba_ext
      rw [cutS'_data]
      simp only [ByteArray.data_extract, Array.toList_extract, List.extract_eq_take_drop]
      rw [HDd.out, List.drop_take, List.take_take, List.drop_drop, HDz.out, show min (a + n - a) (r.dat.length - 13 - a) = n by omega]
    have E0 := hE 0 6 (by omega)
    have E1 := hE 6 2 (by omega)
    have E2 := hE 10 32 (by omega)
    have E3 := hE 42 2 (by omega)
    have E4 := hE 8 2 (by omega)
    have E5 := hE 44 4 (by omega)
    simp only [Nat.zero_add, Nat.reduceAdd, Nat.add_zero] at E0 E1 E2 E3 E4 E5
    have F4 : (cutS' r.dat 21 2).toList = (r.dat.drop 21).take 2 := by rw [ByteArray.toList_eq, cutS'_data]
    have F5 : (cutS' r.dat 57 4).toList = r.dat.drop 57 := by rw [ByteArray.toList_eq, cutS'_data, List.take_of_length_le (by simp; omega)]
    have i8 : (10 : Int) ≤ (T.size : Int) := by omega
    have i44 : (44 : Int) ≤ (T.size : Int) := by omega
    have i6 : (6 : Int) ≤ (T.size : Int) := by omega
    have i8' : (8 : Int) ≤ (T.size : Int) := by omega
    have i42 : (42 : Int) ≤ (T.size : Int) := by omega
    have E5' : T.extract 44 T.size = cutS' r.dat 57 4 := by rw [hT48]; exact E5
    clear hE E5 hN13 hnz HX hge hT48
    by_cases h5 : (r.dat.drop 21).take 2 = [0, 32]
    case neg =>
      have e5 : ((cutS' r.dat 21 2).toList == [0, 32]) = false := by rw [F4, beq_eq_false_iff_ne]; exact h5
      have hbad : datB r = false := by rw [HDB.out, decide_eq_false h5]; simp
      have HB := Nm.hide hbad
      clear HDB hbad h1 h2 h4 hlow h5 F4 F5
      go_enter Tryz.func21, Tryz.ntmps21
      go_wp2_with fail
      refine (hna _).mono ?_
      rintro e w1 ⟨rfl, rfl⟩
      go_wp2_with fail
      refine (hal _).mono ?_
      rintro e w2 ⟨rfl, b2⟩
      go_wp2_with fail
      refine (hsm _).mono ?_
      rintro e w3 ⟨rfl, b3⟩
      go_wp2
      go_ret2
      exact ⟨.inl ⟨HB.out, rfl⟩, Nm.below_two (Nm.below_two hB0 b2) b3⟩
    case pos =>
    have e5 : ((cutS' r.dat 21 2).toList == [0, 32]) = true := by rw [F4, beq_iff_eq]; exact h5
    by_cases h6 : r.dat.drop 57 = [0, 0, 0, 0]
    case neg =>
      have e6 : ((cutS' r.dat 57 4).toList == [0, 0, 0, 0]) = false := by rw [F5, beq_eq_false_iff_ne]; exact h6
      have hbad : datB r = false := by rw [HDB.out, decide_eq_false h6]; simp
      have HB := Nm.hide hbad
      clear HDB hbad h1 h2 h4 hlow h5 h6 F4 F5
      go_enter Tryz.func21, Tryz.ntmps21
      go_wp2_with fail
      refine (hna _).mono ?_
      rintro e w1 ⟨rfl, rfl⟩
      go_wp2_with fail
      refine (hal _).mono ?_
      rintro e w2 ⟨rfl, b2⟩
      go_wp2_with fail
      refine (hsm _).mono ?_
      rintro e w3 ⟨rfl, b3⟩
      go_wp2
      go_ret2
      exact ⟨.inl ⟨HB.out, rfl⟩, Nm.below_two (Nm.below_two hB0 b2) b3⟩
    case pos =>
    have e6 : ((cutS' r.dat 57 4).toList == [0, 0, 0, 0]) = true := by rw [F5, beq_iff_eq]; exact h6
    have hok : datB r = true := by rw [HDB.out, decide_eq_true h1, decide_eq_true h2, decide_eq_true h4, decide_eq_true hlow, decide_eq_true h5, decide_eq_true h6]; rfl
    have HB := Nm.hide hok
    clear HDB hok h1 h2 h4 hlow h5 h6 F4 F5
    obtain ⟨C0, HC0⟩ : ∃ C, Hid (C = cutS' r.dat 13 6) := ⟨_, rfl⟩
    obtain ⟨C1, HC1⟩ : ∃ C, Hid (C = cutS' r.dat 19 2) := ⟨_, rfl⟩
    obtain ⟨C2, HC2⟩ : ∃ C, Hid (C = cutS' r.dat 23 32) := ⟨_, rfl⟩
    obtain ⟨C3, HC3⟩ : ∃ C, Hid (C = cutS' r.dat 55 2) := ⟨_, rfl⟩
    rw [← HC0.out] at E0
    rw [← HC1.out] at E1
    rw [← HC2.out] at E2
    rw [← HC3.out] at E3
    generalize cutS' r.dat 21 2 = C4 at *
    generalize cutS' r.dat 57 4 = C5 at *
    go_enter Tryz.func21, Tryz.ntmps21
    go_wp2_with fail
    refine (hna _).mono ?_
    rintro e w1 ⟨rfl, rfl⟩
    go_wp2_with fail
    refine (hal _).mono ?_
    rintro e w2 ⟨rfl, b2⟩
    go_wp2_with fail
    refine (hsm _).mono ?_
    rintro e w3 ⟨rfl, b3⟩
    have b4 := Nm.below_two (Nm.below_two hB0 b2) b3
    clear b2 b3
    go_wp2
    refine wp_region_last (S := fun _ => True) (L := 1000) (by kernel_rfl) trivial (fun hH => ?_)
    refine wpAnyL_take (i := 0) (v := ?_) rfl (by kernel_rfl) (by kernel_rfl) (by kernel_rfl) (by kernel_rfl) (fun _ _ _ h => h) (Or.inl ⟨by rfl, ?_⟩) (by assumption) ?_
    rotate_left 1
    · (intro w hSw; go_simp; try (with_reducible rfl))
    refine wpAnyL_take (i := 1) (v := ?_) rfl (by kernel_rfl) (by kernel_rfl) (by kernel_rfl) (by kernel_rfl) (fun _ _ _ h => h) (Or.inl ⟨by rfl, ?_⟩) (by assumption) ?_
    rotate_left 1
    · (intro w hSw; go_simp; try (with_reducible rfl))
    refine wpAnyL_take (i := 2) (v := ?_) rfl (by kernel_rfl) (by kernel_rfl) (by kernel_rfl) (by kernel_rfl) (fun _ _ _ h => h) (Or.inl ⟨by rfl, ?_⟩) (by assumption) ?_
    rotate_left 1
    · (intro w hSw; go_simp; try (with_reducible rfl))
    refine wpAnyL_take (i := 3) (v := ?_) rfl (by kernel_rfl) (by kernel_rfl) (by kernel_rfl) (by kernel_rfl) (fun _ _ _ h => h) (Or.inl ⟨by rfl, ?_⟩) (by assumption) ?_
    rotate_left 1
    · (intro w hSw; go_simp; try (with_reducible rfl))
    refine wpAnyL_take (i := 4) (v := ?_) rfl (by kernel_rfl) (by kernel_rfl) (by kernel_rfl) (by kernel_rfl) (fun _ _ _ h => h) (Or.inl ⟨by rfl, ?_⟩) (by assumption) ?_
    rotate_left 1
    · (intro w hSw; go_simp; try (with_reducible rfl))
    refine wpAnyL_take (i := 5) (v := ?_) rfl (by kernel_rfl) (by kernel_rfl) (by kernel_rfl) (by kernel_rfl) (fun _ _ _ h => h) (Or.inl ⟨by rfl, ?_⟩) (by assumption) ?_
    rotate_left 1
    · (intro w hSw; go_simp; try (with_reducible rfl))
    refine wpAnyL_take (i := 6) (v := ?_) rfl (by kernel_rfl) (by kernel_rfl) (by kernel_rfl) (by kernel_rfl) (fun _ _ _ h => h) (Or.inl ⟨by rfl, ?_⟩) (by assumption) ?_
    rotate_left 1
    · (intro w hSw; go_simp; try (with_reducible rfl))
    refine wpAnyL_take (i := 7) (v := ?_) rfl (by kernel_rfl) (by kernel_rfl) (by kernel_rfl) (by kernel_rfl) (fun _ _ _ h => h) (Or.inl ⟨by rfl, ?_⟩) (by assumption) ?_
    rotate_left 1
    · (intro w hSw; go_simp; try (with_reducible rfl))
    refine wpAnyL_one (i := 8) (by kernel_rfl) rfl (fun K hK => ?_)
    go_simp
    refine hK.out _ _ trivial (fun _ => ?_)
    clear hK K
    refine wpAnyL_take (i := 9) (v := ?_) rfl (by kernel_rfl) (by kernel_rfl) (by kernel_rfl) (by kernel_rfl) (fun _ _ _ h => h) (Or.inl ⟨by rfl, ?_⟩) (by assumption) ?_
    rotate_left 1
    · (intro w hSw; go_simp; try (with_reducible rfl))
    refine wpAnyL_take (i := 10) (v := ?_) rfl (by kernel_rfl) (by kernel_rfl) (by kernel_rfl) (by kernel_rfl) (fun _ _ _ h => h) (Or.inl ⟨by rfl, ?_⟩) (by assumption) ?_
    rotate_left 1
    · (intro w hSw; go_simp; try (with_reducible rfl))
    refine wpAnyL_done (by kernel_rfl) ?_
    go_wp2
    go_ret2
    refine ⟨.inr ⟨HB.out, _, rfl, ?_⟩, ?_⟩
    · rw [← HC0.out, ← HC1.out, ← HC2.out, ← HC3.out]
      exact blk_new w3 #[.string C0, .string C1, .string C2, .string C3] 9
    · exact (b4.alloc b4.size _).drew
end Go.Proofs.YtfficbpalibmoaaGreatDoor
/- Numbers within bounds, by the contracts of the two tests. -/
namespace Go.Proofs.YtfficbpalibmoaaGreatDoor
open Go.RowKit
set_option linter.unusedVariables false

set_option maxRecDepth 100000 in
set_option maxHeartbeats 400000 in
theorem l04In_any (n m : Int) (w : World) : Calls Tryz.prog 18 #[.int .i64 n, .int .i64 m] w fun e w' => e = .returned (.bool (decide (0 ≤ n) && decide (n ≤ m))) ∧ w' = w := by
  by_cases h0 : 0 ≤ n
  · by_cases h1 : n ≤ m
    · have e : (decide (0 ≤ n) && decide (n ≤ m)) = true := by simp [h0, h1]
      rw [e]
      clear e
      go_enter Tryz.func18, Tryz.ntmps18
      go_wp2
      go_ret
      exact ⟨rfl, rfl⟩
    · have h1' : m < n := by omega
      have e : (decide (0 ≤ n) && decide (n ≤ m)) = false := by simp [h0, h1]
      rw [e]
      clear e
      go_enter Tryz.func18, Tryz.ntmps18
      go_wp2
      go_ret
      exact ⟨rfl, rfl⟩
  · have h0' : n < 0 := by omega
    have e : (decide (0 ≤ n) && decide (n ≤ m)) = false := by simp [h0]
    rw [e]
    clear e
    go_enter Tryz.func18, Tryz.ntmps18
    go_wp2
    go_ret
    exact ⟨rfl, rfl⟩
end Go.Proofs.YtfficbpalibmoaaGreatDoor
