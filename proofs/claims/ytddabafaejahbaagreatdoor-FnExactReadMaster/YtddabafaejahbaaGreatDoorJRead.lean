import Derived.Test.YtddabafaejahbaaGreatDoorJEsc
import Derived.Test.YtddabafaejahbaaGreatDoorJV6T
import Derived.Deep.LoopGhost
import Derived.WalkMore
import Derived.Test.YtddabafaejahbaaGreatDoorJMath
import Derived.Laws.AppendOwnNone
import Derived.Test.YtddabafaejahbaaGreatDoorRows
import Derived.WalkSpells
import Derived.WalkLawsBesides
import Derived.Lib.BufferWrite
import Derived.Lib.UnsafeStr
import Derived.Laws.MakeOwn
/- impl.scanLabels by its contract. -/
namespace Go.Proofs.YtddabafaejahbaaGreatDoor
open Go.RowKit
theorem extract_drop1 (s : ByteArray) (k : Nat) : (s.extract k s.size).data.toList.drop 1 = s.data.toList.drop (k + 1) := by
 rw [extract_drop, List.drop_drop]
set_option maxRecDepth 100000 in
set_option maxHeartbeats 1600000 in
theorem scanLabels_any (s : ByteArray) (w : World) (hs : s.size ≤ 1100) (hpos : 0 < s.size) :
 Calls Tryz.prog 160 #[.string s] w fun e w' => ∃ v, e = .returned (.tuple #[v, .bool (Nm.scanS s).2.1, .int .i64 (Nm.scanS s).2.2]) ∧
  w'.ownsRow w.heap.size 9 1 v (Nm.scanS s).1.length ((Nm.scanS s).1.map Value.string) ∧ Below w.heap.size w w' := by
 obtain ⟨i0, hi, hz0, hz1, hz2⟩ := info_parts Tryz.infoStr; obtain ⟨j0, hj, k0, k1, k2⟩ := info_parts Tryz.infoU8r; have hst := Nm.sc_start' s hpos; generalize hR : Nm.scanS s = R at *; have HR := Nm.hide hR; clear hR; go_enter Tryz.func160, Tryz.ntmps160; go_wp2
 go_step3
 go_wp2
 go_step3
 go_wp2
 go_loopg [2, 5] s.size (fun g vo i wr => ∃ (k : Nat) (done : List ByteArray), k + g = s.size ∧ i = .int .i64 k ∧ wr.ownsRow w.heap.size 9 1 vo done.length (done.map Value.string) ∧ Nm.ScAt s true k [] done ∧ done.length ≤ k ∧ Below w.heap.size w wr)
 case atStart => exact ⟨0, [], by omega, rfl, World.ownsRow_nil _ _ _ _, hst, by simp, Below.refl _ _⟩
 case round =>
  obtain ⟨k, done, hkg, rfl, hro0, hat0, hbd0, hbel0⟩ := hrel; clear hst
  by_cases hlt0 : k < s.size
  · go_wp2
    go_loopg [2, 5, 6] (s.size - k) (fun g vo i vn wi => ∃ (j : Nat) (now : List UInt8) (st : Bool), j + g = s.size ∧ i = .int .i64 j ∧ k ≤ j ∧ wi.ownsRow w.heap.size 9 1 vo done.length (done.map Value.string) ∧ wi.ownsRow w.heap.size 5 1 vn now.length (Nm.bys now) ∧ Nm.ScAt s st j now done ∧ (st = false ∨ j = k) ∧ done.length + now.length ≤ j ∧ Below w.heap.size w wi)
    case atStart => exact ⟨k, [], true, by omega, rfl, Nat.le_refl _, hro0, World.ownsRow_nil _ _ _ _, hat0, .inr rfl, by simpa using hbd0, hbel0⟩
    case round =>
     obtain ⟨j, now, st, hjg, rfl, hkj, hro, hrn, hat, hsj, hbd, hbel⟩ := hrel; have hsz := hbel.size; clear hro0 hat0 hbd0 hbel0
     by_cases hlt : j < s.size
     · have hcl : (s[j].toNat : Int) < 256 := by have := s[j].toNat_lt; omega
       by_cases hdot : s[j] = 46
       · have e1 : ((s[j].toNat : Int) == 46) = true := by rw [hdot]; rfl
         obtain ⟨a6, cap6, rfl⟩ := owns_shape hrn
         by_cases hf : 1 ≤ now.length ∧ now.length ≤ 63
         · have HN := Nm.hide (Nm.sc_dot hat hlt hdot (Nm.fits_yes hf.1 hf.2)); have f1 : (0 : Int) < (now.length : Int) := by omega
           have f2 : (now.length : Int) ≤ 63 := by omega
           have f3 : decide ((now.length : Int) ≤ 63) = true := by simp; omega
           obtain ⟨g6, cp6, ev, hcv⟩ := Nm.conv_own (P := Tryz.prog) Tryz.underlying87 Tryz.underlying5 Tryz.underlying9 hrn (by omega); simp only [Value.slice.injEq, true_and] at ev; obtain ⟨rfl, rfl⟩ := ev; clear hat hdot hf hrn hsj; go_wp2_with (first | (go_at_call 89; go_in) | (at_builtin; refine wpList_append_own _ rfl (.tmp 35) (.tmp 38) 200 rfl w.heap.size 9 i0 (.string ByteArray.empty) 1 16 Tryz.underlying200 hi hz0 hz1 hz2 rfl (by decide) _ _ _ rfl (hro.alloc _) ⟨wr.heap.size, 0, none⟩ 1 1 [.string ⟨now.toArray⟩] rfl rfl (cell_one_new _ _ _) (Nm.one_cell _ rfl) (by unfold maxLen; omega) (by omega) (by simp; omega) ?_; intro v' w5 hown' hgrow hnl'; clear hnl'; have RR := own_step hsz hro hbel _ hown' hgrow; clear hown' hgrow))
           go_roundg (s.size - (j + 1))
           case measure => omega
           case rel => exact ⟨j + 1, _, by omega, by go_num, RR.1, HN.out, by simp; omega, RR.2⟩
         · have e : R = ([], false, 2) := HR.out.symm.trans (Nm.sc_dot_bad hat hlt hdot (Nm.fits_no hf)); subst e
           by_cases hlow : now.length < 1
           · have f1 : (now.length : Int) ≤ 0 := by omega
             clear hat hdot hf hrn hro hsj; go_wp2_with (go_at_call 89; go_in)
             try rw [Exit.noGoto_ret]
             go_ret3; exact ⟨_, rfl, World.ownsRow_nil _ _ _ _, hbel⟩
           · have f1 : (0 : Int) < (now.length : Int) := by omega
             have f2 : (63 : Int) < (now.length : Int) := by omega
             have f3 : decide ((now.length : Int) ≤ 63) = false := by simp; omega
             clear hat hdot hf hrn hro hsj; go_wp2_with (go_at_call 89; go_in)
             try rw [Exit.noGoto_ret]
             go_ret3; exact ⟨_, rfl, World.ownsRow_nil _ _ _ _, hbel⟩
       · have e1 : ((s[j].toNat : Int) == 46) = false := u8_ne (by decide) hdot
         by_cases hesc : s[j] = 92
         · have e2 : ((s[j].toNat : Int) == 92) = true := by rw [hesc]; rfl
           have hes := fun r hr W => readEscape_any (s.extract j s.size) r W hr (by simp; omega) (by simp; omega)
           rw [extract_drop1] at hes
           cases hr : Nm.escF (s.data.toList.drop (j + 1)) with
           | none =>
             have e : R = ([], false, 4) := HR.out.symm.trans (Nm.sc_esc_bad hat hlt hesc hr); subst e; have he := hes none (Nm.hide hr) wr; simp only [escB, escM, escO] at he; clear hes hat hdot hesc hr hrn hro hsj; go_wp2_with (go_at_call 164; refine he.mono ?_; rintro e w3 ⟨rfl, m, hw3⟩; have hb3 : Below wr.heap.size wr w3 := (by rw [hw3]; exact Go.below_drewN (Below.refl _ _) m); clear hw3)
             try rw [Exit.noGoto_ret]
             go_ret3
             exact ⟨_, rfl, World.ownsRow_nil _ _ _ _, hbel.trans (hb3.mono hsz)⟩
           | some bn =>
             obtain ⟨b, n⟩ := bn; have hln := Nm.esc_len hr; simp only [List.length_drop, Array.length_toList, ByteArray.size_data] at hln; have HN := Nm.hide (Nm.sc_esc hat hlt hesc hr); have he := hes (some (b, n)) (Nm.hide hr) wr; have hb256 : (b.toNat : Int) < 256 := by have := b.toNat_lt; omega
             simp only [escB, escM, escO] at he; clear hes hat hdot hesc hr hsj; go_wp2_with (first | (go_at_call 164; refine he.mono ?_; rintro e w3 ⟨rfl, m, hw3⟩; have hb3 : Below wr.heap.size wr w3 := (by rw [hw3]; exact Go.below_drewN (Below.refl _ _) m); clear hw3; have hro3 := owns_bel hro hb3; have hrn3 := owns_bel hrn hb3; have hbel3 := hbel.trans (hb3.mono hsz); have hsz3 := hbel3.size) | (at_builtin; refine wpList_append_own _ rfl (.tmp 54) (.tmp 56) 87 rfl w.heap.size 5 j0 (.int .u8 0) 1 1 Tryz.underlying87 hj k0 k1 k2 rfl (by decide) _ _ _ rfl (hrn3.alloc _) ⟨w3.heap.size, 0, none⟩ 1 1 [.int .u8 (b.toNat : Int)] rfl rfl (cell_one_new _ _ _) (Nm.one_cell _ rfl) (by unfold maxLen; omega) (by omega) (by simp; omega) ?_; intro vb wb hown2 hgrow2 hnl2; clear hnl2; have RO := owns_apart (hro3.alloc _) (hrn3.alloc _) (by decide) hgrow2; have R2 := Nm.bys_step (x := [b]) (by simp; omega) (hrn3.alloc _) (hbel3.alloc hsz3 _) hown2 hgrow2; clear hown2 hgrow2))
             go_roundg (s.size - (j + 1 + n))
             case measure => omega
             case rel => exact ⟨j + 1 + n, _, false, by omega, by go_num, by omega, RO, by simpa using R2.1, HN.out, .inl rfl, by simp; omega, R2.2⟩
         · have e2 : ((s[j].toNat : Int) == 92) = false := u8_ne (by decide) hesc; have HN := Nm.hide (Nm.sc_plain hat hlt hdot hesc); clear hat hdot hesc hsj; go_wp2_with (at_builtin; refine wpList_append_own _ rfl (.tmp 21) (.tmp 25) 87 rfl w.heap.size 5 j0 (.int .u8 0) 1 1 Tryz.underlying87 hj k0 k1 k2 rfl (by decide) _ _ _ rfl (hrn.alloc _) ⟨wr.heap.size, 0, none⟩ 1 1 [.int .u8 (s[j].toNat : Int)] rfl rfl (cell_one_new _ _ _) (Nm.one_cell _ rfl) (by unfold maxLen; omega) (by omega) (by simp; omega) ?_; intro vb wb hown2 hgrow2 hnl2; clear hnl2; have RO := owns_apart (hro.alloc _) (hrn.alloc _) (by decide) hgrow2; have R2 := Nm.bys_step (x := [s[j]]) (by simp; omega) (hrn.alloc _) (hbel.alloc hsz _) hown2 hgrow2; clear hown2 hgrow2)
           go_roundg (s.size - (j + 1))
           case measure => omega
           case rel => exact ⟨j + 1, _, false, by omega, by go_num, by omega, RO, by simpa using R2.1, HN.out, .inl rfl, by simp; omega, R2.2⟩
     · have hje : j = s.size := by omega
       have hsf : st = false := by
        rcases hsj with h | h
        · exact h
        · omega
       subst hsf; subst hje; obtain ⟨a6, cap6, rfl⟩ := owns_shape hrn
       by_cases hf : 1 ≤ now.length ∧ now.length ≤ 63
       · have e : R = (done ++ [⟨now.toArray⟩], false, 0) := HR.out.symm.trans (Nm.sc_rel hat rfl (Nm.fits_yes hf.1 hf.2)); subst e; have f1 : (0 : Int) < (now.length : Int) := by omega
         have f2 : (now.length : Int) ≤ 63 := by omega
         have f3 : decide ((now.length : Int) ≤ 63) = true := by simp; omega
         obtain ⟨g6, cp6, ev, hcv⟩ := Nm.conv_own (P := Tryz.prog) Tryz.underlying87 Tryz.underlying5 Tryz.underlying9 hrn (by omega); simp only [Value.slice.injEq, true_and] at ev; obtain ⟨rfl, rfl⟩ := ev; clear hat hf hrn; go_wp2_with (first | (go_at_call 89; go_in) | (at_builtin; refine wpList_append_own _ rfl (.tmp 65) (.tmp 68) 200 rfl w.heap.size 9 i0 (.string ByteArray.empty) 1 16 Tryz.underlying200 hi hz0 hz1 hz2 rfl (by decide) _ _ _ rfl (hro.alloc _) ⟨wr.heap.size, 0, none⟩ 1 1 [.string ⟨now.toArray⟩] rfl rfl (cell_one_new _ _ _) (Nm.one_cell _ rfl) (by unfold maxLen; omega) (by omega) (by simp; omega) ?_; intro v' w5 hown' hgrow hnl'; clear hnl'; have RR := own_step hsz hro hbel _ hown' hgrow; clear hown' hgrow))
         try rw [Exit.noGoto_ret]
         go_ret3; exact ⟨_, rfl, by simpa using RR.1, RR.2⟩
       · have e : R = ([], false, 2) := HR.out.symm.trans (Nm.sc_rel_bad hat rfl (Nm.fits_no hf)); subst e
         by_cases hlow : now.length < 1
         · have f1 : (now.length : Int) ≤ 0 := by omega
           clear hat hf hrn hro; go_wp2_with (go_at_call 89; go_in)
           try rw [Exit.noGoto_ret]
           go_ret3; exact ⟨_, rfl, World.ownsRow_nil _ _ _ _, hbel⟩
         · have f1 : (0 : Int) < (now.length : Int) := by omega
           have f2 : (63 : Int) < (now.length : Int) := by omega
           have f3 : decide ((now.length : Int) ≤ 63) = false := by simp; omega
           clear hat hf hrn hro; go_wp2_with (go_at_call 89; go_in)
           try rw [Exit.noGoto_ret]
           go_ret3; exact ⟨_, rfl, World.ownsRow_nil _ _ _ _, hbel⟩
  · have hke : k = s.size := by omega
    subst hke; have e : R = (done, true, 0) := HR.out.symm.trans (Nm.sc_abs hat0 rfl); subst e; clear hat0; go_wp2
    try rw [Exit.noGoto_ret]
    go_ret3; exact ⟨_, rfl, hro0, hbel0⟩
end Go.Proofs.YtddabafaejahbaaGreatDoor
/- (labelList).join by its contract. -/
namespace Go.Proofs.YtddabafaejahbaaGreatDoor
open Go.RowKit
theorem srow_news {w : World} {ad : Addr} {n cap : Nat} {xs : List ByteArray} (h : Nm.SRow w (.slice (some ad) n cap) xs) : ∀ j u, (xs.map Value.string)[j]? = some u → w.cell? (ad.add j) = some u := by
 obtain ⟨a', cap', e, h1, h2, h3, h4⟩ := h; simp only [Value.slice.injEq] at e; obtain ⟨rfl, _, rfl⟩ := e; intro j u hj; have hne : xs ≠ [] := by intro h; rw [h] at hj; simp at hj
 obtain ⟨b, off, e2, hc⟩ := h4 hne; simp only [Option.some.injEq] at e2; subst e2; rw [List.getElem?_map] at hj
 cases hx : xs[j]? with
 | none => rw [hx] at hj; simp at hj
 | some x =>
   rw [hx] at hj; simp at hj; rw [Nm.addr_add, ← hj]; exact hc j x hx
theorem srow_none {w : World} {n cap : Nat} {xs : List ByteArray} (h : Nm.SRow w (.slice none n cap) xs) : xs = [] ∧ n = 0 ∧ cap = 0 := by
 obtain ⟨a', cap', e, h1, h2, h3, h4⟩ := h; simp only [Value.slice.injEq] at e; obtain ⟨rfl, rfl, rfl⟩ := e; have := h3 rfl; have h0 : xs.length = 0 := by omega
 exact ⟨List.length_eq_zero_iff.1 h0, h0, this⟩
theorem strs_oneCell (xs : List ByteArray) : ∀ u ∈ xs.map Value.string, u.oneCell' = true := by
 intro u hu; obtain ⟨x, _, rfl⟩ := List.mem_map.1 hu; rfl
theorem strs_step {W wr w1 : World} {v v' : Value} {B e n m : Nat} {xs ys : List ByteArray} (hB : B ≤ wr.heap.size)
 (hown : wr.ownsRow B e 1 v n (xs.map Value.string)) (hbel : Below B W wr)
 (hown' : w1.ownsRow B e 1 v' (n + m) (xs.map Value.string ++ ys.map Value.string)) (hgrow : wr.grownBy w1 v.ownBlock) :
 w1.ownsRow B e 1 v' (n + m) ((xs ++ ys).map Value.string) ∧ Below B W w1 :=
 ⟨by rw [List.map_append]; exact hown', hbel.grown hgrow hB (fun k hk => (hown.lt k hk).1)⟩
theorem nil_row {w w1 : World} {B e : Nat} {v : Value} (h : w1.ownsRow B e 1 v 0 []) (hb : Below B w w1) : w1.ownsRow B e 1 v 0 (([] : List ByteArray).map Value.string) ∧ Below B w w1 := ⟨h, hb⟩
set_option maxRecDepth 100000 in
set_option maxHeartbeats 800000 in
theorem join_any (v u : Value) (xs ys : List ByteArray) (w : World) (h : Nm.SRow w v xs) (h' : Nm.SRow w u ys) (hlx : xs.length ≤ 1000000) (hly : ys.length ≤ 1000000) :
 Calls Tryz.prog 162 #[v, u] w fun e w' => ∃ t, e = .returned t ∧ w'.ownsRow w.heap.size 9 1 t (xs ++ ys).length ((xs ++ ys).map Value.string) ∧ Below w.heap.size w w' := by
 obtain ⟨i0, hi, hz0, hz1, hz2⟩ := info_parts Tryz.infoStr; have hr := h; have hr' := h'; obtain ⟨a, cap, rfl, hcap, hmx, hnl, hc⟩ := h; obtain ⟨a', cap', rfl, hcap', hmx', hnl', hc'⟩ := h'; clear hc hc' hnl hnl'
 cases a with
 | some ad =>
   cases a' with
   | some ad' =>
     go_enter Tryz.func162, Tryz.ntmps162; go_wp2_with (first | (at_make; refine wpList_make_own _ rfl _ _ 200 rfl w.heap.size 9 i0 (.string ByteArray.empty) 1 Tryz.underlying200 hi hz0 hz1 .i64 .i64 _ (xs.length + ys.length) rfl rfl (by omega) (by rw [hz2]; omega) (by unfold maxLen; omega) (Nat.le_refl _) ?_; intro w1 hown0 hgrow0; have hb1 := (Below.refl w.heap.size w).grown hgrow0 (Nat.le_refl _) (fun k hk => by cases hk); have hs1 := hb1.size) | (at_builtin; refine wpList_append_own _ rfl (.tmp 12) (.tmp 13) 200 rfl w.heap.size 9 i0 (.string ByteArray.empty) 1 16 Tryz.underlying200 hi hz0 hz1 hz2 rfl (by decide) _ _ _ rfl hown0 ad xs.length cap (xs.map Value.string) rfl (by simp) (srow_news (hr.below hb1)) (strs_oneCell _) (by unfold maxLen; omega) (by omega) hs1 ?_; intro v2 w2 hown1 hgrow1 hnl1; clear hnl1; have R1 := strs_step (xs := []) hs1 hown0 hb1 hown1 hgrow1; clear hown1 hgrow1; have hs2 := R1.2.size) | (at_builtin; refine wpList_append_own _ rfl (.tmp 15) (.tmp 16) 200 rfl w.heap.size 9 i0 (.string ByteArray.empty) 1 16 Tryz.underlying200 hi hz0 hz1 hz2 rfl (by decide) _ _ _ rfl R1.1 ad' ys.length cap' (ys.map Value.string) rfl (by simp) (srow_news (hr'.below R1.2)) (strs_oneCell _) (by unfold maxLen; omega) (by omega) hs2 ?_; intro v3 w3 hown3 hgrow3 hnl3; clear hnl3; have R3 := strs_step hs2 R1.1 R1.2 hown3 hgrow3; clear hown3 hgrow3))
     go_ret
     exact ⟨_, rfl, by simpa using R3.1, R3.2⟩
   | none =>
     obtain ⟨rfl, _, rfl⟩ := srow_none hr'; go_enter Tryz.func162, Tryz.ntmps162; go_wp2_with (first | (at_make; refine wpList_make_own _ rfl _ _ 200 rfl w.heap.size 9 i0 (.string ByteArray.empty) 1 Tryz.underlying200 hi hz0 hz1 .i64 .i64 _ (xs.length) rfl rfl (by omega) (by rw [hz2]; omega) (by unfold maxLen; omega) (Nat.le_refl _) ?_; intro w1 hown0 hgrow0; have hb1 := (Below.refl w.heap.size w).grown hgrow0 (Nat.le_refl _) (fun k hk => by cases hk); have hs1 := hb1.size) | (at_builtin; refine wpList_append_own _ rfl (.tmp 12) (.tmp 13) 200 rfl w.heap.size 9 i0 (.string ByteArray.empty) 1 16 Tryz.underlying200 hi hz0 hz1 hz2 rfl (by decide) _ _ _ rfl hown0 ad xs.length cap (xs.map Value.string) rfl (by simp) (srow_news (hr.below hb1)) (strs_oneCell _) (by unfold maxLen; omega) (by omega) hs1 ?_; intro v2 w2 hown1 hgrow1 hnl1; clear hnl1; have R1 := strs_step (xs := []) hs1 hown0 hb1 hown1 hgrow1; clear hown1 hgrow1; have hs2 := R1.2.size) | (at_builtin; refine wpList_append_own_none rfl (.tmp 15) (.tmp 16) 200 rfl w.heap.size 9 i0 1 Tryz.underlying200 hi _ _ _ rfl R1.1 rfl ?_; have R3 := R1))
     go_ret
     exact ⟨_, rfl, by simpa using R3.1, R3.2⟩
 | none =>
   obtain ⟨rfl, _, rfl⟩ := srow_none hr
   cases a' with
   | some ad' =>
     go_enter Tryz.func162, Tryz.ntmps162; go_wp2_with (first | (at_make; refine wpList_make_own _ rfl _ _ 200 rfl w.heap.size 9 i0 (.string ByteArray.empty) 1 Tryz.underlying200 hi hz0 hz1 .i64 .i64 _ (ys.length) rfl rfl (by omega) (by rw [hz2]; omega) (by unfold maxLen; omega) (Nat.le_refl _) ?_; intro w1 hown0 hgrow0; have hb1 := (Below.refl w.heap.size w).grown hgrow0 (Nat.le_refl _) (fun k hk => by cases hk); have hs1 := hb1.size) | (at_builtin; refine wpList_append_own_none rfl (.tmp 12) (.tmp 13) 200 rfl w.heap.size 9 i0 1 Tryz.underlying200 hi _ _ _ rfl hown0 rfl ?_; have R1 := nil_row hown0 hb1; have hs2 := hs1) | (at_builtin; refine wpList_append_own _ rfl (.tmp 15) (.tmp 16) 200 rfl w.heap.size 9 i0 (.string ByteArray.empty) 1 16 Tryz.underlying200 hi hz0 hz1 hz2 rfl (by decide) _ _ _ rfl R1.1 ad' ys.length cap' (ys.map Value.string) rfl (by simp) (srow_news (hr'.below R1.2)) (strs_oneCell _) (by unfold maxLen; omega) (by omega) hs2 ?_; intro v3 w3 hown3 hgrow3 hnl3; clear hnl3; have R3 := strs_step hs2 R1.1 R1.2 hown3 hgrow3; clear hown3 hgrow3))
     go_ret
     exact ⟨_, rfl, by simpa using R3.1, R3.2⟩
   | none =>
     obtain ⟨rfl, _, rfl⟩ := srow_none hr'; go_enter Tryz.func162, Tryz.ntmps162; go_wp2_with (first | (at_make; refine wpList_make_own _ rfl _ _ 200 rfl w.heap.size 9 i0 (.string ByteArray.empty) 1 Tryz.underlying200 hi hz0 hz1 .i64 .i64 _ (0) rfl rfl (by omega) (by rw [hz2]; omega) (by unfold maxLen; omega) (Nat.le_refl _) ?_; intro w1 hown0 hgrow0; have hb1 := (Below.refl w.heap.size w).grown hgrow0 (Nat.le_refl _) (fun k hk => by cases hk); have hs1 := hb1.size) | (at_builtin; refine wpList_append_own_none rfl (.tmp 12) (.tmp 13) 200 rfl w.heap.size 9 i0 1 Tryz.underlying200 hi _ _ _ rfl hown0 rfl ?_; have R1 := nil_row hown0 hb1; have hs2 := hs1) | (at_builtin; refine wpList_append_own_none rfl (.tmp 15) (.tmp 16) 200 rfl w.heap.size 9 i0 1 Tryz.underlying200 hi _ _ _ rfl R1.1 rfl ?_; have R3 := R1))
     go_ret; exact ⟨_, rfl, by simpa using R3.1, R3.2⟩
end Go.Proofs.YtddabafaejahbaaGreatDoor
/- strings.Clone by its contract: the same bytes; nothing that was there has turned. -/
namespace Go.Proofs.YtddabafaejahbaaGreatDoor
open Go.RowKit
theorem Tryz.infoU8c : (Tryz.prog.info? 5).map (fun i => (i.zero, i.size, i.bytes)) = some (some (.int .u8 0), 1, 1) := by kernel_rfl
set_option maxRecDepth 100000 in
set_option maxHeartbeats 800000 in
theorem clone_any (s : ByteArray) (w : World) (hs : s.size ≤ 1000000000) :
 Calls Tryz.prog 159 #[.string s] w fun e w' => e = .returned (.string s) ∧ Below w.heap.size w w' := by
 by_cases h0 : s.size = 0
 · have hs0 : s = ⟨#[]⟩ := by
    apply ByteArray.ext; exact Array.eq_empty_of_size_eq_zero h0
   subst hs0; go_enter Tryz.func159, Tryz.ntmps159; go_wp2; go_ret; exact ⟨rfl, Below.refl _ _⟩
 · obtain ⟨i0, hi, hz0, hz1, hz2⟩ := info_parts Tryz.infoU8c; have hinfo : (Tryz.prog.info? 5).map (·.size) = some 1 := by rw [hi]; simp [hz1]
   have hco : Tryz.prog.cellsOf 5 = 1 := by simp [Program.cellsOf, hi, hz1]
   obtain ⟨M, hM⟩ : ∃ M, M = madeCells (Value.int .u8 0).cells (((s.size : Nat) : Int).toNat * i0.size) := ⟨_, rfl⟩; have hMs : M.size = s.size := by rw [hM, size_madeCells, hz1]; simp
   have hmk : ∀ W : World, (Instr.makeSlice 87 (.int .i64 (s.size : Int)) (.int .i64 (s.size : Int))).run Tryz.prog W = .ok (.slice (some ⟨W.heap.size, 0, none⟩) s.size s.size) (W.alloc (.cells M 5)) := by
    intro W; have h := run_make (P := Tryz.prog) W 87 5 i0 (.int .u8 0) Tryz.underlying87 hi hz0 .i64 .i64 (s.size : Int) (s.size : Int) (by omega) (by omega) (by rw [hz2]; omega) (by omega); rw [← hM] at h; simpa using h
   clear hM; have hcp := Lib.run_copy_row_string (P := Tryz.prog) (w.alloc (.cells M 5)) 87 9 3 5 w.heap.size 0 s.size s.size s M 5 Tryz.underlying87 hinfo (heap_alloc_new w _) (Nat.le_refl _) (by omega); obtain ⟨Y, hY⟩ : ∃ Y, Y = (M.toList.take 0 ++ Lib.byteCells s.data.toList ++ M.toList.drop (0 + s.size)).toArray := ⟨_, rfl⟩; rw [← hY] at hcp
   have hYl : Y.toList = Lib.byteCells s.data.toList := by
    rw [hY, List.toList_toArray, List.take_zero, List.nil_append, List.drop_of_length_le (by rw [Array.length_toList]; omega), List.append_nil]
   have hgY : ((w.alloc (.cells M 5)).setRow w.heap.size Y).heap[w.heap.size]? = some (.cells Y 5 (0, 0)) := setRow_heap _ _ M _ 5 (0, 0) (heap_alloc_new w _); have hlen : s.data.toList.length = s.size := by simp
   have hYs : Y.size = s.size := by rw [← Array.length_toList, hYl, Lib.byteCells_length, hlen]
   have hne : s.data.toList ≠ [] := fun e => h0 (by rw [← hlen, e]; rfl)
   have hUS := Lib.run_unsafeString_row (P := Tryz.prog) ((w.alloc (.cells M 5)).setRow w.heap.size Y) 149 3 9 5 Tryz.underlying149 hco w.heap.size Y.size (by unfold World.shape?; rw [hgY]) s.data.toList hne (by omega) (by omega)
    (by
     intro j x hx; rw [Nm.addr_add, Nat.zero_add, cell_of_row _ _ _ _ _ _ hgY, ← Array.getElem?_toList, hYl]
     simp only [Lib.byteCells, List.getElem?_map, hx, Option.map_some])
   rw [hlen] at hUS; clear hY; go_enter Tryz.func159, Tryz.ntmps159; go_wp2; go_ret; have hb1 : Below w.heap.size w (w.alloc (.cells M 5)) := (Below.refl _ w).alloc (Nat.le_refl _) _; have hb2 : Below w.heap.size (w.alloc (.cells M 5)) ((w.alloc (.cells M 5)).setRow w.heap.size Y) := ⟨rfl, rfl, rfl, by simp, fun k hk => setRow_other _ _ _ _ (by omega)⟩; exact ⟨rfl, Lib.below_freeze (hb1.trans hb2) (p := ⟨w.heap.size, 0, none⟩) (Nat.le_refl _) _⟩
end Go.Proofs.YtddabafaejahbaaGreatDoor
/- impl.ReadName by its contract. -/
namespace Go.Proofs.YtddabafaejahbaaGreatDoor
open Go.RowKit
set_option maxRecDepth 100000 in
set_option maxHeartbeats 1600000 in
theorem implReadName_any (t o : ByteArray) (w : World) (ho : o.size ≤ maxLen) :
 Calls Tryz.prog 96 #[.string t, .string o] w fun e w' => e = .returned (.tuple #[.string (readS t o).1, .int .i64 (readS t o).2]) ∧ Below w.heap.size w w' := by
 have hsp := splitName_any o w ho
 by_cases hform : o.size ≠ 0 ∧ Nm.split o = none
 · have HA := Nm.hide (read_form (t := t) hform); have hoe := Nm.tl_not_empty (r := o) (by omega); rw [hform.2] at hsp; clear hform; go_enter Tryz.func96, Tryz.ntmps96; go_wp2_with fail
   refine hsp.mono ?_; rintro e w1 ⟨v, rfl, hown, hbel⟩; go_wp2; go_ret2; rw [HA.out]; exact ⟨rfl, hbel⟩
 · have hgu : (o.toList.isEmpty = true) ∨ (o.toList.isEmpty = false ∧ (Nm.split o).isSome = true) := by
    by_cases h0 : o.size = 0
    · exact .inl (Nm.tl_empty h0)
    · refine .inr ⟨Nm.tl_not_empty (by omega), ?_⟩
      cases hq : Nm.split o with
      | none => exact absurd ⟨h0, hq⟩ hform
      | some zs => rfl
   by_cases hlong : 1100 < t.size
   · have HA := Nm.hide (read_long hform hlong); have hl' : (1100 : Int) < (t.size : Int) := by omega
     clear hform; generalize Nm.split o = so at *
     rcases hgu with h1 | ⟨h1, h2⟩
     all_goals
      go_enter Tryz.func96, Tryz.ntmps96; go_wp2_with fail
      refine hsp.mono ?_; rintro e w1 ⟨v, rfl, hown, hbel⟩; go_wp2; go_ret2; rw [HA.out]; exact ⟨rfl, hbel⟩
   by_cases hemp : t.size = 0
   · have HA := Nm.hide (read_empty hform hemp); have hl' : (t.size : Int) ≤ 1100 := by omega
     have hte := Nm.tl_empty hemp; clear hform; generalize Nm.split o = so at *
     rcases hgu with h1 | ⟨h1, h2⟩
     all_goals
      go_enter Tryz.func96, Tryz.ntmps96; go_wp2_with fail
      refine hsp.mono ?_; rintro e w1 ⟨v, rfl, hown, hbel⟩; go_wp2; go_ret2; rw [HA.out]; exact ⟨rfl, hbel⟩
   have hl' : (t.size : Int) ≤ 1100 := by omega
   have hte := Nm.tl_not_empty (r := t) (by omega)
   cases hat : (t.toList == [64]) with
   | true =>
     have hra := read_at hform (by omega) (by omega) hat
     by_cases h0 : o.size = 0
     · have HA := Nm.hide (hra.trans (if_pos h0)); have hoe := Nm.tl_empty h0; clear hform hra hgu; go_enter Tryz.func96, Tryz.ntmps96; go_wp2_with fail
       refine hsp.mono ?_; rintro e w1 ⟨v, rfl, hown, hbel⟩; go_wp2; go_ret2; rw [HA.out]; exact ⟨rfl, hbel⟩
     · have HA := Nm.hide (hra.trans (if_neg h0)); have hoe := Nm.tl_not_empty (r := o) (by omega); obtain ⟨zs, hq⟩ : ∃ zs, Nm.split o = some zs := Option.ne_none_iff_exists'.1 (fun h => hform ⟨h0, h⟩); have hz := Nm.split_size hq; rw [hq] at hsp; clear hform hra hgu hq; go_enter Tryz.func96, Tryz.ntmps96; go_wp2_with fail
       refine hsp.mono ?_; rintro e w1 ⟨v, rfl, hown, hbel⟩; go_wp2_with fail
       refine (clone_any o _ (by omega)).mono ?_; rintro e w2 ⟨rfl, hbel2⟩; go_wp2; go_ret2; rw [HA.out]
       exact ⟨rfl, Nm.below_two hbel hbel2⟩
   | false =>
     cases hdt : (t.toList == [46]) with
     | true =>
       have HA := Nm.hide (read_dot hform (by omega) (by omega) hat hdt); clear hform; generalize Nm.split o = so at *
       rcases hgu with h1 | ⟨h1, h2⟩
       all_goals
        go_enter Tryz.func96, Tryz.ntmps96; go_wp2_with fail
        refine hsp.mono ?_; rintro e w1 ⟨v, rfl, hown, hbel⟩; go_wp2; go_ret2; rw [HA.out]
        exact ⟨rfl, hbel⟩
     | false =>
       have hrs := read_scan hform (by omega) (by omega) hat hdt; have hsc := fun W => scanLabels_any t W (by omega) (by omega)
       have hok := scanS_ok t; have htb : t.size ≤ 1100 := by omega
       generalize hS : Nm.scanS t = R at *; clear hS; obtain ⟨ls, ab, code⟩ := R; simp only at hrs hsc hok
       by_cases hcode : code ≠ 0
       · have HA := Nm.hide (hrs.trans (if_pos hcode)); have hc' : (code != 0) = true := by rw [bne_iff_ne]; exact hcode
         clear hform hrs hcode; generalize Nm.split o = so at *
         rcases hgu with h1 | ⟨h1, h2⟩
         all_goals
          go_enter Tryz.func96, Tryz.ntmps96; go_wp2_with fail
          refine hsp.mono ?_; rintro e w1 ⟨v, rfl, hown, hbel⟩; go_wp2_with fail
          refine (hsc _).mono ?_; rintro e w2 ⟨v2, rfl, hown2, hbel2⟩; go_wp2; go_ret2; rw [HA.out]; exact ⟨rfl, Nm.below_two hbel hbel2⟩
       · rw [if_neg hcode] at hrs; have hc0 : code = 0 := Classical.byContradiction hcode; subst hc0; have hc' : ((0 : Int) != 0) = false := rfl; have hw64 := wsum_le64 ls hok.1
         cases ab with
         | true =>
           have HA := Nm.hide ((hrs.trans (if_pos rfl)).trans (make_wire_ok hok.1)); clear hform hrs hcode; generalize Nm.split o = so at *
           rcases hgu with h1 | ⟨h1, h2⟩
           all_goals
            go_enter Tryz.func96, Tryz.ntmps96; go_wp2_with fail
            refine hsp.mono ?_; rintro e w1 ⟨v, rfl, hown, hbel⟩; go_wp2_with fail
            refine (hsc _).mono ?_; rintro e w2 ⟨v2, rfl, hown2, hbel2⟩; go_wp2_with fail
            refine (wire_any v2 ls _ (Nm.SRow.of_owns hown2) (by omega)).mono ?_; rintro e w3 ⟨rfl, hbel3⟩; go_wp2; go_ret2; rw [HA.out]
            exact ⟨rfl, Nm.below_two (Nm.below_two hbel hbel2) hbel3⟩
         | false =>
           rw [if_neg (by simp)] at hrs
           by_cases h0 : o.size = 0
           · have HA := Nm.hide (hrs.trans (if_pos h0)); have hoe := Nm.tl_empty h0; clear hform hrs hcode hgu; go_enter Tryz.func96, Tryz.ntmps96; go_wp2_with fail
             refine hsp.mono ?_; rintro e w1 ⟨v, rfl, hown, hbel⟩; go_wp2_with fail
             refine (hsc _).mono ?_; rintro e w2 ⟨v2, rfl, hown2, hbel2⟩; go_wp2; go_ret2; rw [HA.out]; exact ⟨rfl, Nm.below_two hbel hbel2⟩
           · rw [if_neg h0] at hrs; have hoe := Nm.tl_not_empty (r := o) (by omega); obtain ⟨zs, hq⟩ : ∃ zs, Nm.split o = some zs := Option.ne_none_iff_exists'.1 (fun h => hform ⟨h0, h⟩); have hz := Nm.split_size hq; have hzs := (Nm.split_join hq).2; have hlz := Nm.length_le_wsum zs; rw [hq] at hsp hrs
             have HA := Nm.hide (hrs.trans (make_wire_ok (ls := ls ++ zs) (by
              intro x hx
              rcases List.mem_append.1 hx with h | h
              · exact hok.1 x h
              · exact hzs x h)))
             have hwa := Nm.wsum_append ls zs; clear hform hrs hcode hgu hq; go_enter Tryz.func96, Tryz.ntmps96; go_wp2_with fail
             refine hsp.mono ?_; rintro e w1 ⟨v, rfl, hown, hbel⟩; go_wp2_with fail
             refine (hsc _).mono ?_; rintro e w2 ⟨v2, rfl, hown2, hbel2⟩; have r1 := (Nm.SRow.of_owns hown).below hbel2; have r2 := Nm.SRow.of_owns hown2; simp only [Option.getD_some] at r1 r2; go_wp2_with fail
             refine (join_any v2 v ls zs _ r2 r1 (by omega) (by omega)).mono ?_; rintro e w3 ⟨t3, rfl, hown3, hbel3⟩; go_wp2_with fail
             refine (wire_any t3 (ls ++ zs) _ (Nm.SRow.of_owns hown3) (by omega)).mono ?_; rintro e w4 ⟨rfl, hbel4⟩; go_wp2; go_ret2; rw [HA.out]; exact ⟨rfl, Nm.below_two (Nm.below_two (Nm.below_two hbel hbel2) hbel3) hbel4⟩
end Go.Proofs.YtddabafaejahbaaGreatDoor
