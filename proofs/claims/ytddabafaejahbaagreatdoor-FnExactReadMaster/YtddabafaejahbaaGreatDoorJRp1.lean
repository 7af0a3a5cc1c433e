import Derived.Test.YtddabafaejahbaaGreatDoorJTf1
import Derived.Test.YtddabafaejahbaaGreatDoorJTxt8
import Derived.Laws.MakeOwn
import Derived.Test.YtddabafaejahbaaGreatDoorJOwnT
import Derived.Test.YtddabafaejahbaaGreatDoorJMath
/- Whether a word is quoted, asked of all; impl.readHex by its contract. -/
namespace Go.Proofs.YtddabafaejahbaaGreatDoor
open Go.RowKit
set_option linter.unusedVariables false
set_option maxRecDepth 100000 in
set_option maxHeartbeats 800000 in
theorem quoted1_any (x : Wrd) (w : World) :
 Calls Tryz.prog 51 #[.agg #[.string x.1, .bool x.2]] w fun e w' => e = .returned (.bool x.2) ∧ Below w.heap.size w w' := by
 go_enter Tryz.func51, Tryz.ntmps51; go_wp2; go_ret; exact ⟨rfl, (Below.refl _ _).alloc (Nat.le_refl _) _⟩
/-- Where the first word in quotes stands. -/
def qI (ws : List Wrd) : Int := if ws.any (·.2) = true then (ws.findIdx (·.2) : Nat) else -1
theorem qI_hit {ws : List Wrd} {k : Nat} {x : Wrd} (h : ws[k]? = some x) (hq : x.2 = true) (hn : ∀ j y, j < k → ws[j]? = some y → y.2 = false) : qI ws = (k : Int) := by
 have hl := List.getElem?_eq_some_iff.1 h; rw [qI, if_pos (List.any_eq_true.2 ⟨x, List.mem_of_getElem? h, hq⟩)]
 have : ws.findIdx (·.2) = k := by
  rw [List.findIdx_eq hl.1]; refine ⟨by rw [hl.2]; exact hq, fun j hj => ?_⟩; have hkl := hl.1; exact hn j _ hj (List.getElem?_eq_getElem (by omega))
 rw [this]
theorem qI_miss {ws : List Wrd} (hn : ∀ j y, j < ws.length → ws[j]? = some y → y.2 = false) : qI ws = -1 := by
 rw [qI, if_neg]; intro h; obtain ⟨x, hx, hq⟩ := List.any_eq_true.1 h; obtain ⟨j, hj⟩ := List.mem_iff_getElem?.1 hx; have := hn j x (List.getElem?_eq_some_iff.1 hj).1 hj; rw [this] at hq; cases hq
set_option maxRecDepth 100000 in
set_option maxHeartbeats 1600000 in
theorem indexQ_any (v : Value) (ws : List Wrd) (w : World) (h : CRow w v ws.length 2 (wdVs ws)) :
 Calls Tryz.prog 90 #[v, .func (.func 51) #[] #[]] w fun e w' => e = .returned (.int .i64 (qI ws)) ∧ Below w.heap.size w w' := by
 obtain ⟨_, a, cap, rfl, hcap, hmx, hc⟩ := h; unfold maxLen at hmx; obtain ⟨R, HR⟩ : ∃ R, Hid (R = qI ws) := ⟨_, rfl⟩; rw [← HR.out]; go_enter Tryz.func90, Tryz.ntmps90; go_wp2
 go_loopw [8] (fun i wr => ∃ k : Nat, k ≤ ws.length ∧ i = .int .i64 k ∧ Hid (∀ j y, j < k → ws[j]? = some y → y.2 = false) ∧ Below w.heap.size w wr) (fun i _ => ws.length - (intOf i).toNat)
 case atStart => exact ⟨0, Nat.zero_le _, rfl, by show ∀ _, _; intro j y hj; omega, Below.refl _ _⟩
 case round =>
  obtain ⟨k, hk, rfl, HA, hbel⟩ := hrel
  by_cases hlt : k < ws.length
  · obtain ⟨x, hxk⟩ : ∃ x, ws[k]? = some x := ⟨_, List.getElem?_eq_getElem hlt⟩; obtain ⟨b, off, rfl, hcell⟩ := hc (by omega); have put : ∀ {O : Nat} {z : Value}, w.cell? ⟨b, O, none⟩ = some z → wr.cell? ⟨b, O, none⟩ = some z := fun h => (hbel.cell (World.block_lt_of_cell? w _ h)).trans h
    have c0 : wr.cell? ⟨b, off + k * 2, none⟩ = some (.string x.1) := put (hcell _ _ (wdVs_at ws k 0 x hxk (by decide))); have c1 : wr.cell? ⟨b, off + k * 2 + 1, none⟩ = some (.bool x.2) := put (hcell _ _ (wdVs_at ws k 1 x hxk (by decide))); have hone := quoted1_any x wr; have i1 : (0 : Int) ≤ (k : Int) := by omega
    have i2 : (k : Int) < (ws.length : Int) := by omega
    cases hq : x.2 with
    | true =>
      have HN := Nm.hide (qI_hit hxk hq HA.out); rw [hq] at hone c1; clear hc hcell put hxk HA; go_wp2_with (go_at_call 51; refine hone.mono ?_; rintro e w2 ⟨rfl, hb2⟩)
      go_ret; rw [HR.out, HN.out]
      exact ⟨rfl, Nm.below_two hbel hb2⟩
    | false =>
      have HN : Hid (∀ j y, j < k + 1 → ws[j]? = some y → y.2 = false) := by
       show ∀ _, _
       intro j y hj hy
       by_cases e : j = k
       · subst e; rw [hxk] at hy; cases hy; exact hq
       · exact HA.out j y (by omega) hy
      rw [hq] at hone c1; clear hc hcell put hxk HA; go_wp2_with (go_at_call 51; refine hone.mono ?_; rintro e w2 ⟨rfl, hb2⟩)
      go_roundw
      case rel => exact ⟨k + 1, by omega, by go_num, HN, Nm.below_two hbel hb2⟩
      case measure => simp [intOf]; omega
  · have hkl : k = ws.length := by omega
    subst hkl; have i2 : ¬ (ws.length : Int) < (ws.length : Int) := by omega
    have HN := Nm.hide (qI_miss HA.out); clear hc HA; go_wp2; go_ret; rw [HR.out, HN.out]; exact ⟨rfl, hbel⟩
set_option maxRecDepth 100000 in
set_option maxHeartbeats 800000 in
theorem containsQ_any (v : Value) (ws : List Wrd) (w : World) (h : CRow w v ws.length 2 (wdVs ws)) :
 Calls Tryz.prog 50 #[v, .func (.func 51) #[] #[]] w fun e w' => e = .returned (.bool (ws.any (·.2))) ∧ Below w.heap.size w w' := by
 have h1 := indexQ_any v ws w h
 have HD : Hid (decide (0 ≤ qI ws) = ws.any (·.2)) := by
  show _ = _
  cases hq : ws.any (·.2) with
  | true => rw [qI, if_pos hq]; simp
  | false => rw [qI, if_neg (by rw [hq]; decide)]; decide
 rw [← HD.out]; generalize qI ws = q at *; obtain ⟨_, a, cap, rfl, hcap, hmx, hc⟩ := h; clear hc; go_enter Tryz.func50, Tryz.ntmps50; go_wp2_with (go_at_call 90; refine h1.mono ?_; rintro e w1 ⟨rfl, hb1⟩)
 go_ret; exact ⟨rfl, hb1⟩
theorem hex_or (a b : Nat) (ha : a < 16) (hb : b < 16) : bits .or .u8 ((a : Int) * 16 % 256) (b : Int) = ((16 * a + b : Nat) : Int) := by
 have h : ∀ x : Fin 16, ∀ y : Fin 16, bits .or .u8 (((x.val : Nat) : Int) * 16 % 256) ((y.val : Nat) : Int) = ((16 * x.val + y.val : Nat) : Int) := by decide
 exact h ⟨a, ha⟩ ⟨b, hb⟩
def hxV (d : ByteArray) : Value := match hxL d.data.toList with
 | none => .tuple #[.string ⟨#[]⟩, .bool false]
 | some l => .tuple #[.string ⟨l.toArray⟩, .bool true]
set_option maxRecDepth 100000 in
set_option maxHeartbeats 2000000 in
theorem readHex_any (d : ByteArray) (n : Nat) (w : World) (hd : d.size = 2 * n) (hn : n ≤ 1000000) :
 Calls Tryz.prog 55 #[.string d] w fun e w' => e = .returned (hxV d) ∧ Below w.heap.size w w' := by
 obtain ⟨i0, hi, hz0, hz1, hz2⟩ := info_parts Tryz.infoU8x; obtain ⟨wm, hmk, hownm, hgrm⟩ := run_make_own (P := Tryz.prog) w w.heap.size 87 5 i0 (.int .u8 0) 1 Tryz.underlying87 hi hz0 hz1 .i64 .i64 n (by rw [hz2]; omega) (by unfold maxLen; omega) (Nat.le_refl _); have hbelm : Below w.heap.size w wm := (Below.refl _ _).grown hgrm (Nat.le_refl _) (by simp); obtain ⟨R, HR⟩ : ∃ R, Hid (R = hxV d) := ⟨_, rfl⟩; rw [← HR.out]; have hq : (d.size : Int) / 2 = (n : Int) := by omega
 have HD := Nm.hide hd; clear hgrm hd; go_enter Tryz.func55, Tryz.ntmps55; go_wp2; have hJ0 : Hid (∃ k : Nat, 0 = 2 * k ∧ k ≤ n ∧ ([] : List UInt8).length = k ∧ HX d.data.toList k []) := ⟨0, rfl, Nat.zero_le _, rfl, hx_start _⟩
 go_loopw [4, 5] (fun v i wr => ∃ (J m : Nat) (l : List UInt8), J ≤ d.size ∧ m ≤ J ∧ i = .int .i64 (J : Int) ∧ Hid (∃ k : Nat, J = 2 * k ∧ k ≤ n ∧ l.length = k ∧ HX d.data.toList k l) ∧ Hid (l.length = m) ∧ wr.ownsRow w.heap.size 5 1 v m (Nm.bys l) ∧ Below w.heap.size w wr)
  (fun _ i _ => d.size - (intOf i).toNat)
 case atStart => exact ⟨0, 0, [], Nat.zero_le _, Nat.zero_le _, rfl, hJ0, rfl, hownm, hbelm⟩
 case round =>
  obtain ⟨J, m, l, hJ, hmJ, rfl, HK, HL, hown, hbel⟩ := hrel; clear hJ0 hmk hownm hbelm; have hsz := hbel.size; have hds : d.size ≤ 2000000 := by have := HD.out; omega
  by_cases hlt : J < d.size
  · have hlt1 : J + 1 < d.size := by
     have := HD.out; obtain ⟨k, e1, _, _, _⟩ := HK.out; omega
    have i1 : (0 : Int) ≤ (J : Int) := by omega
    have i2 : (J : Int) < (d.size : Int) := by omega
    have i3 : (J : Int) + 1 < (d.size : Int) := by omega
    have hxa := fun W => hexValue_any d[J] W
    have hxb := fun W => hexValue_any d[J + 1] W
    have va := hexV_lt d[J]; have vb := hexV_lt d[J + 1]
    have HBD : Hid (hexV d[J] < 0 ∨ hexV d[J + 1] < 0 → R = .tuple #[.string ⟨#[]⟩, .bool false]) := by
     intro hb; obtain ⟨k, e1, _, _, e2⟩ := HK.out; subst e1; rw [HR.out, hxV, hx_bad e2 hlt1 hb]
    have HST : Hid (¬ (hexV d[J] < 0 ∨ hexV d[J + 1] < 0) → ∃ k : Nat, J + 2 = 2 * k ∧ k ≤ n ∧ (l ++ [UInt8.ofNat (16 * hexV d[J] + hexV d[J + 1]).toNat]).length = k ∧ HX d.data.toList k (l ++ [UInt8.ofNat (16 * hexV d[J] + hexV d[J + 1]).toNat])) := by
     intro hb; obtain ⟨k, e1, e3, e4, e2⟩ := HK.out; subst e1; have := HD.out; exact ⟨k + 1, by omega, by omega, by simp [e4], hx_step e2 hlt1 hb⟩
    clear HK HR; generalize hexV d[J] = A at *; generalize hexV d[J + 1] = B at *
    by_cases ha : A < 0
    · rw [hexR_no ha] at hxa; have HN := Nm.hide (HBD.out (.inl ha))
      by_cases hb : B < 0
      · rw [hexR_no hb] at hxb; clear HBD HST ha hb hown; go_wp2_with (go_at_call 93; (with_reducible first | refine (hxa _).mono ?_ | refine (hxb _).mono ?_); rintro e w1 ⟨rfl, hw⟩; obtain rfl : wr = w1 := hw.symm; clear hw)
        go_ret2; rw [HN.out]; exact ⟨rfl, hbel⟩
      · obtain ⟨b', rfl⟩ : ∃ b' : Nat, B = (b' : Int) := ⟨B.toNat, by omega⟩; rw [hexR_yes] at hxb; clear HBD HST ha hb hown; go_wp2_with (go_at_call 93; (with_reducible first | refine (hxa _).mono ?_ | refine (hxb _).mono ?_); rintro e w1 ⟨rfl, hw⟩; obtain rfl : wr = w1 := hw.symm; clear hw)
        go_ret2; rw [HN.out]; exact ⟨rfl, hbel⟩
    · obtain ⟨a', rfl⟩ : ∃ a' : Nat, A = (a' : Int) := ⟨A.toNat, by omega⟩; rw [hexR_yes] at hxa
      by_cases hb : B < 0
      · rw [hexR_no hb] at hxb; have HN := Nm.hide (HBD.out (.inr hb)); clear HBD HST ha hb hown; go_wp2_with (go_at_call 93; (with_reducible first | refine (hxa _).mono ?_ | refine (hxb _).mono ?_); rintro e w1 ⟨rfl, hw⟩; obtain rfl : wr = w1 := hw.symm; clear hw)
        go_ret2; rw [HN.out]; exact ⟨rfl, hbel⟩
      · obtain ⟨b', rfl⟩ : ∃ b' : Nat, B = (b' : Int) := ⟨B.toNat, by omega⟩; rw [hexR_yes] at hxb; have HST2 := Nm.hide (HST.out (by omega)); have HC := Nm.hide (hex_byte (a := a') (b := b') (by omega) (by omega) (by omega) (by omega)); have hor := hex_or a' b' (by omega) (by omega); have HOR : Hid (((16 * a' + b' : Nat) : Int) = 16 * (a' : Int) + (b' : Int)) := by show _ = _; omega
        rw [HOR.out, ← HC.out] at hor; generalize UInt8.ofNat (16 * (a' : Int) + (b' : Int)).toNat = c at *; have HL2 : Hid ((l ++ [c]).length = m + 1) := by show _ = _; rw [List.length_append, HL.out]; rfl
        have hcc : (c.toNat : Int) < 256 := by have := c.toNat_lt; omega
        clear HBD HST ha hb va vb HL HOR HC; go_wp2_with (first | (go_at_call 93; (with_reducible first | refine (hxa _).mono ?_ | refine (hxb _).mono ?_); rintro e w1 ⟨rfl, hw⟩; obtain rfl : wr = w1 := hw.symm; clear hw) | (at_builtin; refine wpList_append_own _ rfl (.tmp 41) (.tmp 46) 87 rfl w.heap.size 5 i0 (.int .u8 0) 1 1 Tryz.underlying87 hi hz0 hz1 hz2 rfl (by decide) _ _ _ rfl (hown.alloc _) ⟨wr.heap.size, 0, none⟩ 1 1 [.int .u8 (c.toNat : Int)] rfl rfl (cell_new1 _ _ _) (Nm.one_cell _ rfl) (by unfold maxLen; omega) (by omega) (by simp; omega) ?_))
        intro v' w4 hown' hgrow _; obtain ⟨X, HX, o4, b4, z4⟩ := one_step (c := c) hsz hown hbel _ hown' hgrow; clear hown' hgrow hown hbel; go_wp2; go_roundw
        case rel => exact ⟨J + 2, m + 1, X, by omega, by omega, by go_num, by show ∃ _, _; rw [HX.out]; exact HST2.out, by show _ = _; rw [HX.out]; exact HL2.out, o4, b4⟩
        case measure => simp [intOf]; omega
  · have hJd : J = d.size := by omega
    subst hJd
    have HN : Hid (R = .tuple #[.string ⟨l.toArray⟩, .bool true]) := by
     show _ = _
     obtain ⟨k, e1, _, _, e2⟩ := HK.out; have : hxL d.data.toList = some l := hx_end e2 (by simp; omega); rw [HR.out, hxV, this]
    have hcv := conv_any hown; have i2 : ¬ (d.size : Int) < (d.size : Int) := by omega
    clear HK; go_wp2; go_ret2; rw [HN.out]; exact ⟨rfl, hbel⟩
end Go.Proofs.YtddabafaejahbaaGreatDoor
/- impl.mapBlocks by its contract. -/
namespace Go.Proofs.YtddabafaejahbaaGreatDoor
open Go.RowKit
def blocksF : Nat → ByteArray → List (Nat × ByteArray)
 | 0, _ => []
 | f + 1, s => if h : 2 ≤ s.size then (s[0].toNat, s.extract 2 (s[1].toNat + 2)) :: blocksF f (s.extract (s[1].toNat + 2) s.size) else []
theorem blocksF_enough : ∀ (f g : Nat) (s : ByteArray), s.size < f → s.size < g → blocksF f s = blocksF g s := by
 intro f
 induction f with
 | zero => intro g s hf; omega
 | succ f ih =>
   intro g s hf hg
   cases g with
   | zero => omega
   | succ g =>
     rw [blocksF, blocksF]
     by_cases h : 2 ≤ s.size
     · have he : (s.extract (s[1].toNat + 2) s.size).size = s.size - (s[1].toNat + 2) := by simp
       rw [dif_pos h, dif_pos h, ih g _ (by omega) (by omega)]
     · rw [dif_neg h, dif_neg h]
/-- The blocks of a type map: window and bits. -/
def blocksS (s : ByteArray) : List (Nat × ByteArray) := blocksF (s.size + 1) s
theorem blocks_end {s : ByteArray} (h : s.size = 0) : blocksS s = [] := by rw [blocksS, blocksF, dif_neg (by omega)]
theorem blocks_step {s : ByteArray} (h : 2 ≤ s.size) : blocksS s = (s[0].toNat, s.extract 2 (s[1].toNat + 2)) :: blocksS (s.extract (s[1].toNat + 2) s.size) := by
 have he : (s.extract (s[1].toNat + 2) s.size).size = s.size - (s[1].toNat + 2) := by simp
 rw [blocksS, blocksF, dif_pos h, blocksS, blocksF_enough _ ((s.extract (s[1].toNat + 2) s.size).size + 1) _ (by omega) (by omega)]
def blkCells (bl : List (Nat × ByteArray)) : List Value := bl.flatMap fun b => [.int .i64 (b.1 : Int), .string b.2]
theorem blkCells_append (a b : List (Nat × ByteArray)) : blkCells (a ++ b) = blkCells a ++ blkCells b := by simp [blkCells]
/-- Where the reading of a type map stands. -/
def BAt (s : ByteArray) (bl : List (Nat × ByteArray)) (last : Int) (r : ByteArray) : Prop :=
 mapS s = mapF (r.size + 1) last r ∧ blocksS s = bl ++ blocksS r
theorem bat_start (s : ByteArray) : BAt s [] (-1) s := ⟨rfl, rfl⟩
theorem bat_end {s r : ByteArray} {bl : List (Nat × ByteArray)} {last : Int} (h : BAt s bl last r) (h0 : r.size = 0) : mapS s = true ∧ blocksS s = bl := by
 refine ⟨h.1.trans (map_end h0), ?_⟩; rw [h.2, blocks_end h0, List.append_nil]
theorem bat_step {s r : ByteArray} {bl : List (Nat × ByteArray)} {last : Int} (h : BAt s bl last r) (h1 : 2 ≤ r.size) (h2 : last < (r[0].toNat : Int) ∧ 1 ≤ r[1].toNat ∧ r[1].toNat ≤ 32 ∧ r[1].toNat + 2 ≤ r.size) (h3 : (r[r[1].toNat + 1]'(by omega)).toNat ≠ 0) :
 BAt s (bl ++ [(r[0].toNat, r.extract 2 (r[1].toNat + 2))]) (r[0].toNat : Int) (r.extract (r[1].toNat + 2) r.size) := by
 refine ⟨h.1.trans (map_step h1 h2 h3), ?_⟩; rw [h.2, blocks_step h1]; simp
theorem Tryz.infoBlk : (Tryz.prog.info? 221).map (fun i => (i.zero, i.size, i.bytes)) = some (some (.agg #[.int .i64 0, .string ByteArray.empty]), 2, 24) := by kernel_rfl
theorem blk_step {W wr w1 : World} {v v' : Value} {B e n : Nat} {bl : List (Nat × ByteArray)} {x : Nat × ByteArray} (hB : B ≤ wr.heap.size)
 (hown : wr.ownsRow B e 2 v n (blkCells bl)) (hbel : Below B W wr) (o : Obj)
 (hown' : w1.ownsRow B e 2 v' (n + 1) (blkCells bl ++ [.int .i64 (x.1 : Int), .string x.2])) (hgrow : (wr.alloc o).grownBy w1 v.ownBlock) :
 w1.ownsRow B e 2 v' (n + 1) (blkCells (bl ++ [x])) ∧ Below B W w1 := by
 refine ⟨by rw [blkCells_append]; exact hown', ?_⟩; refine (hbel.alloc hB o).grown hgrow (by simp; omega) ?_; intro k hk; exact (hown.lt k hk).1
theorem cell_new2 (w : World) (x y : Value) (e : Nat) : ∀ (j : Nat) (u : Value), [x, y][j]? = some u → (w.alloc (.cells #[x, y] e)).cell? ((⟨w.heap.size, 0, none⟩ : Addr).add j) = some u := by
 intro j u hj
 match j, hj with
 | 0, hj => simp at hj; subst hj; simp [Addr.add]
 | 1, hj => simp at hj; subst hj; simp [Addr.add]
theorem two_cells (x y : Value) (h : x.oneCell' = true) (h' : y.oneCell' = true) : ∀ u : Value, u ∈ [x, y] → u.oneCell' = true := by
 intro u hu; simp at hu; rcases hu with rfl | rfl <;> assumption
set_option maxRecDepth 100000 in
set_option maxHeartbeats 4000000 in
theorem mapBlocks_any (s0 : ByteArray) (w : World) (hs : s0.size ≤ 2000000) :
 Calls Tryz.prog 178 #[.string s0] w fun e w' => ∃ v, e = .returned (.tuple #[v, .bool (mapS s0)]) ∧
  (mapS s0 = true → w'.ownsRow w.heap.size 221 2 v (blocksS s0).length (blkCells (blocksS s0))) ∧ Below w.heap.size w w' := by
 obtain ⟨i0, hi, hz0, hz1, hz2⟩ := info_parts Tryz.infoBlk; have hst := bat_start s0; go_enter Tryz.func178, Tryz.ntmps178; go_wp2
 go_loopw [4, 5, 6] (fun v l u wr => ∃ (n : Nat) (bl : List (Nat × ByteArray)) (last : Int) (s : ByteArray), -1 ≤ last ∧ last < 256 ∧ l = .int .i64 last ∧ u = .string s ∧ n + s.size ≤ s0.size ∧ Hid (bl.length = n) ∧ BAt s0 bl last s ∧ wr.ownsRow w.heap.size 221 2 v n (blkCells bl) ∧ Below w.heap.size w wr)
  (fun _ _ u _ => match u with | .string s => s.size | _ => 0)
 case atStart => exact ⟨0, [], -1, s0, by omega, by omega, rfl, rfl, by omega, rfl, hst, World.ownsRow_nil _ _ _ _, Below.refl _ _⟩
 case round =>
  obtain ⟨n, bl, last, s, hl0, hl1, rfl, rfl, hz, HL, hn, hown, hbel⟩ := hrel; clear hst; have hsz := hbel.size
  by_cases h0 : s.size = 0
  · have HN := Nm.hide (bat_end hn h0); obtain ⟨e1, e2⟩ := beq_empty h0; clear hn h0; go_wp2; go_ret2; rw [HN.out.1]; exact ⟨_, rfl, fun _ => by rw [HN.out.2, HL.out]; exact hown, hbel⟩
  · obtain ⟨e1, e2⟩ := not_empty (s := s) (by omega)
    by_cases h1 : s.size = 1
    · have HN := Nm.hide (hn.1.trans (map_one h1)); have h1' : (s.size : Int) < 2 := by omega
      clear hn; go_wp2; go_ret2; rw [HN.out]; exact ⟨_, rfl, (fun h => by cases h), hbel⟩
    · have h2 : 2 ≤ s.size := by omega
      have h2' : (2 : Int) ≤ (s.size : Int) := by omega
      have hc0 : (s[0].toNat : Int) < 256 := by have := s[0].toNat_lt; omega
      have hc1 : (s[1].toNat : Int) < 256 := by have := s[1].toNat_lt; omega
      have p0 : 0 < s.size := by omega
      have p1 : 1 < s.size := by omega
      have i0' : (0 : Int) < (s.size : Int) := by omega
      have i1' : (1 : Int) < (s.size : Int) := by omega
      clear h0 h1
      by_cases ha : last < (s[0].toNat : Int)
      · by_cases hb : 1 ≤ s[1].toNat
        · have hb' : ((2 : Int) + (s[1].toNat : Int) == 2) = false := by rw [beq_eq_false_iff_ne]; omega
          by_cases hcc : s[1].toNat ≤ 32
          · have hcc' : (2 : Int) + (s[1].toNat : Int) ≤ 34 := by omega
            by_cases hd : s[1].toNat + 2 ≤ s.size
            · have hd' : (2 : Int) + (s[1].toNat : Int) ≤ (s.size : Int) := by omega
              by_cases h3 : s[s[1].toNat + 1].toNat = 0
              · have HN := Nm.hide (hn.1.trans (map_zero h2 ⟨ha, hb, hcc, hd⟩ h3)); have hq : 1 + s[1].toNat < s.size := by omega
                have h3' : ((s[1 + s[1].toNat].toNat : Int) == 0) = true := by
                 rw [beq_iff_eq]; simp only [Nat.add_comm 1]; omega
                clear h3; clear hn; go_wp2; go_region
                go_wp2; go_ret2; rw [HN.out]; exact ⟨_, rfl, (fun h => by cases h), by first | exact hbel.drew | exact hbel⟩
              · have HN := Nm.hide (bat_step hn h2 ⟨ha, hb, hcc, hd⟩ h3); have hq : 1 + s[1].toNat < s.size := by omega
                have h3' : ((s[1 + s[1].toNat].toNat : Int) == 0) = false := by
                 rw [beq_eq_false_iff_ne]; simp only [Nat.add_comm 1]; omega
                have hes : (s.extract (2 + s[1].toNat) s.size).size = s.size - (2 + s[1].toNat) := by simp
                rw [Nat.add_comm s[1].toNat 2] at HN; have hd2 : 2 + s[1].toNat ≤ s.size := by omega
                have HL2 : Hid ((bl ++ [(s[0].toNat, s.extract 2 (2 + s[1].toNat))]).length = n + 1) := by
                 show _ = _
                 rw [List.length_append, HL.out]; rfl
                clear h3 hn HL; go_wp2; go_region
                go_wp2_with (at_builtin; refine wpList_append_own _ rfl (.tmp 46) (.tmp 52) 217 rfl w.heap.size 221 i0 (.agg #[.int .i64 0, .string ByteArray.empty]) 2 24 Tryz.underlying217 hi hz0 hz1 hz2 rfl (by decide) _ _ _ rfl (hown.alloc _) ⟨wr.heap.size, 0, none⟩ 1 1 [.int .i64 (s[0].toNat : Int), .string (s.extract 2 (2 + s[1].toNat))] rfl rfl (cell_new2 _ _ _ _) (two_cells _ _ rfl rfl) (by unfold maxLen; omega) (by omega) (by simp; omega) ?_)
                intro v' w1 hown' hgrow _; have R := blk_step (wr := wr.drew) (x := (s[0].toNat, s.extract 2 (2 + s[1].toNat))) hsz hown hbel.drew (.cells #[.int .i64 (s[0].toNat : Int), .string (s.extract 2 (2 + s[1].toNat))] 221) hown' hgrow; clear hown' hgrow hown hbel; go_wp2; go_region
                go_wp2; go_roundw
                case rel => exact ⟨n + 1, _, _, _, by omega, by omega, rfl, rfl, by omega, HL2, HN.out, R.1, R.2.drew⟩
                case measure => simp only [hes]; omega
            · have HN := Nm.hide (hn.1.trans (map_no h2 (by omega))); have hd' : (s.size : Int) < 2 + (s[1].toNat : Int) := by omega
              clear hn; go_wp2; go_region
              go_wp2; go_ret2; rw [HN.out]; exact ⟨_, rfl, (fun h => by cases h), by first | exact hbel.drew | exact hbel⟩
          · have HN := Nm.hide (hn.1.trans (map_no h2 (by omega))); have hcc' : (34 : Int) < 2 + (s[1].toNat : Int) := by omega
            clear hn; go_wp2; go_region
            go_wp2; go_ret2; rw [HN.out]; exact ⟨_, rfl, (fun h => by cases h), by first | exact hbel.drew | exact hbel⟩
        · have HN := Nm.hide (hn.1.trans (map_no h2 (by omega))); have hb' : ((2 : Int) + (s[1].toNat : Int) == 2) = true := by rw [beq_iff_eq]; omega
          clear hn; go_wp2; go_region
          go_wp2; go_ret2; rw [HN.out]; exact ⟨_, rfl, (fun h => by cases h), by first | exact hbel.drew | exact hbel⟩
      · have HN := Nm.hide (hn.1.trans (map_no h2 (by omega))); have ha' : (s[0].toNat : Int) ≤ last := by omega
        clear hn; go_wp2; go_region
        go_wp2; go_ret2; rw [HN.out]; exact ⟨_, rfl, (fun h => by cases h), by first | exact hbel.drew | exact hbel⟩
end Go.Proofs.YtddabafaejahbaaGreatDoor
