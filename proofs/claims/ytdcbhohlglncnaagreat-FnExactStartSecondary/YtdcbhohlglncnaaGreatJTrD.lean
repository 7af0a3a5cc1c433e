import Derived.Test.YtdcbhohlglncnaaGreatJMath
import Derived.Test.YtdcbhohlglncnaaGreatJClone
import Derived.Test.YtdcbhohlglncnaaGreatJCmp2
import Derived.Test.YtdcbhohlglncnaaGreatJTbPS
import Derived.Deep.RegionHeld3
import Derived.Maps.AppendAt
import Derived.BigRegion
import Derived.RegionTactic
/- A record's data go into their set in the tree. -/
namespace Go.Proofs.YtdcbhohlglncnaaGreat
open Go.RowKit
set_option linter.unusedVariables false
def dCmp (fd : ByteArray) (p : ByteArray × ByteArray) : Int := Nm.ordL p.1.data.toList fd.data.toList
/-- The data of a set lie in their order. -/
def DaS (l : List (ByteArray × ByteArray)) : Prop := l.Pairwise fun a b => Nm.ordL a.1.data.toList b.1.data.toList < 0
theorem ordL_lt_trans {a b c : List UInt8} (h1 : Nm.ordL a b < 0) (h2 : Nm.ordL b c < 0) : Nm.ordL a c < 0 := by
 have h3 := ordL_trans a b c (by omega) (by omega)
 rcases Int.lt_or_eq_of_le h3 with h | h
 · exact h
 · exfalso
   have h4 := ordL_anti a c
   have h5 := ordL_trans b c a (by omega) (by rw [h4]; omega)
   have h6 := ordL_anti a b
   omega
set_option maxHeartbeats 800000 in
theorem data_any (s : GSe) (B nb rb : Nat) (fd da : ByteArray) (r0 r1 r2 r3 : Value) (w : World) (h : SeAt w B s) (hB : B ≤ w.heap.size) (hl : s.da.length ≤ 500000) (hd : DaS s.da) (kn : Blk w nb #[.bool false] 4) (kr : Blk w rb #[r0, r1, r2, r3, .string da] 90) (hs : da.size ≤ 1000000000) :
 Calls Tryz.prog 179 #[ptr s.hd, .string fd, .func (.func 181) #[] #[ptr nb, ptr rb]] w fun e w' => ∃ v rv', e = .returned (.string v) ∧ SeAt w' B { s with rv := rv', da := putF (dCmp fd) (fd, da) s.da } ∧ Blk w' nb #[.bool (!isIn (dCmp fd) s.da)] 4 ∧ Outs (nb :: fpS s) w w' ∧ ∀ b ∈ rv'.ownBlock.toList, b ∈ fpS s ∨ w.heap.size ≤ b := by
 have hdl : (daRs s.da).length = s.da.length := by simp [daRs]
 have hcf : ∀ (tb i : Nat) (p : Value × Value), (daRs s.da)[i]? = some p → ∀ W, Below w.heap.size w W → Blk W tb #[.pointer (some ⟨s.hd, 0, none⟩)] 192 → Calls Tryz.prog 222 #[.agg #[p.1, p.2], .string fd, .pointer (some ⟨tb, 0, none⟩)] W fun e w' => e = .returned (.int .i64 (cfOf (dCmp fd) s.da i)) ∧ Below W.heap.size W w' := by
  intro tb i p hp W hW kb
  simp only [daRs, List.getElem?_map, Option.map_eq_some_iff] at hp
  obtain ⟨q, hq, rfl⟩ := hp
  rw [cfOf_at hq]
  exact place1S_any tb s.hd s.rv q.1 q.2 fd W kb (blk_below h.head hW)
 have hmono := mono_of_pair (f := dCmp fd) hd (fun a b hab hb => ordL_lt_trans hab hb)
 have hfnd := posOf_fnd s.da hmono
 cases hin : isIn (dCmp fd) s.da with
 | true =>
   obtain ⟨x, hx, hx0⟩ := isIn_some hin
   have hx' : (daRs s.da)[posOf (dCmp fd) s.da]? = some (.string x.1, .string x.2) := by simp [daRs, hx]
   refine (valueOfS_in s.hd B cmpSv s.rv (.string fd) _ (daRs s.da) (cfOf (dCmp fd) s.da) (posOf (dCmp fd) s.da) _ w h.head h.rows (by omega) hcf (by rw [hdl]; exact hmono) (by rw [hdl]; exact hfnd) hx' (by rw [cfOf_at hx]; exact hx0)).mono ?_
   rintro e w' ⟨rfl, hb⟩
   refine ⟨x.2, s.rv, rfl, ?_, ?_, Outs.below hb, fun b hbm => .inl (by simp only [fpS, List.mem_cons]; exact .inr (.inr hbm))⟩
   · rw [putF, if_pos hin]
     exact h.keep (fun b hm => hb.block b (h.lt b hm))
   · exact blk_below kn hb
 | false =>
   have hout := valueOfS_out s.hd B cmpSv s.rv fd #[ptr nb, ptr rb] (daRs s.da) (cfOf (dCmp fd) s.da) (posOf (dCmp fd) s.da) w (some nb) (fun ux W w' => ux = da ∧ Blk w' nb #[.bool true] 4) h.head h.rows (by omega) hcf (by rw [hdl]; exact hmono) (by rw [hdl]; exact hfnd) (by rw [hdl]; exact isIn_not hin)
    (fun p hp => by
     simp only [daRs, List.mem_map] at hp
     obtain ⟨q, _, rfl⟩ := hp
     exact ⟨rfl, rfl⟩) hB
    (fun W hW => lay3_any nb rb false da r0 r1 r2 r3 W (blk_below kn hW) (blk_below kr hW) hs) (fun e => blk_ne kn h.head (by decide) (Option.some.inj e)) (fun x hx e => own_nb h.rows kn (by decide) (by rw [hx, ← e]))
   refine hout.mono ?_
   rintro e w' ⟨ux, W, w1, rv', rfl, hW, hg1, ⟨rfl, kn1⟩, kg', ho', hK, hloc⟩
   have hne1 := blk_ne kn h.node (by decide)
   have hne2 := blk_ne h.node h.head (by decide)
   have node1 : Blk w1 s.blk _ _ := blk_grown (blk_below h.node hW) hg1 (fun e => hne1 (Option.some.inj e))
   have node2 := hK.blk node1 hne2 (own_nb h.rows h.node (by decide))
   have kn2 := hK.blk kn1 (blk_ne kn h.head (by decide)) (own_nb h.rows kn (by decide))
   refine ⟨ux, rv', rfl, ?_, kn2, ?_, ?_⟩
   · rw [putF, if_neg (by simp [hin])]
     refine ⟨node2, kg', ?_⟩
     have e1 : daRs (insAt (posOf (dCmp fd) s.da) (fd, ux) s.da) = (daRs s.da).take (posOf (dCmp fd) s.da) ++ [(Value.string fd, Value.string ux)] ++ (daRs s.da).drop (posOf (dCmp fd) s.da) := by simp [daRs, insAt]
     show w'.ownsRow B _ 2 rv' (daRs (insAt (posOf (dCmp fd) s.da) (fd, ux) s.da)).length (rowCs (daRs (insAt (posOf (dCmp fd) s.da) (fd, ux) s.da)))
     rw [e1]
     have hle : ((daRs s.da).take (posOf (dCmp fd) s.da) ++ [(Value.string fd, Value.string ux)] ++ (daRs s.da).drop (posOf (dCmp fd) s.da)).length = (daRs s.da).length + 1 := by
      have := hfnd.1
      simp
      omega
     rw [hle]
     exact ho'
   · refine ⟨hK.os.trans (hg1.os.trans hW.os), hK.tape.trans (hg1.tape.trans hW.tape), hK.output.trans (hg1.output.trans hW.output), Nat.le_trans hW.size (Nat.le_trans hg1.size hK.size), fun k hk hn => ?_⟩
     simp only [fpS, List.mem_cons, not_or] at hn
     obtain ⟨n1, n2, n3, n4⟩ := hn
     rw [hK.block k (Nat.lt_of_lt_of_le hk (Nat.le_trans hW.size hg1.size)) n3 (fun e => n4 (by rw [e]; simp)), hg1.block k (Nat.lt_of_lt_of_le hk hW.size) (by simpa using n1)]
     exact hW.block k hk
   · intro b hb
     rcases hloc with h1 | h1
     · rw [h1] at hb
       exact .inl (by simp only [fpS, List.mem_cons]; exact .inr (.inr hb))
     · right
       cases hr : rv'.ownBlock with
       | none => rw [hr] at hb; simp at hb
       | some q =>
         rw [hr] at hb
         simp at hb
         subst hb
         have := h1 _ hr
         have := hg1.size
         have := hW.size
         omega
theorem Tryz.infoRowI : (Tryz.prog.info? 189).map (fun i => (i.zero, i.size, i.bytes)) = some (some (.agg #[.int .i64 0, .pointer none]), 2, 16) := by kernel_rfl
theorem shape_ofI {w : World} {b : Nat} {cs : Array Value} {T : TypeId} (h : Blk w b cs T) : w.shape? b = some (T, cs.size) := by
 unfold Blk at h
 simp [World.shape?, h]
/-- What Insert of one row hands back. -/
def InsI (B : Nat) (v : Value) (n i : Nat) (xs : List Value) (x0 x1 : Value) (w : World) (e : Ending) (w' : World) : Prop :=
 ∃ u, e = .returned u ∧ w'.ownsRow B 189 2 u (n + 1) (xs.take (i * 2) ++ [x0, x1] ++ xs.drop (i * 2)) ∧ w.grownBy w' v.ownBlock ∧ (u.ownBlock = v.ownBlock ∨ ∀ g, u.ownBlock = some g → w.heap.size ≤ g)
set_option maxRecDepth 100000 in
set_option maxHeartbeats 3200000 in
theorem insertI_any (v : Value) (n i : Nat) (xs : List Value) (x0 x1 : Value) (vb vc B : Nat) (w : World) (h : w.ownsRow B 189 2 v n xs) (hi : i ≤ n) (hv : Blk w vb #[x0, x1] 189) (hvb : v.ownBlock ≠ some vb)
 (h1 : ∀ u ∈ xs, u.oneCell' = true) (h0 : x0.oneCell' = true) (h0' : x1.oneCell' = true) (hn : n ≤ 1000000) (hB : B ≤ w.heap.size) :
 Calls Tryz.prog 203 #[v, .int .i64 (i : Int), .slice (some ⟨vb, 0, none⟩) 1 vc] w (InsI B v n i xs x0 x1 w) := by
 obtain ⟨i0, hi0, hz0, hz1, hz2⟩ := info_parts Tryz.infoRowI
 have hxl : xs.length = n * 2 := h.1
 have hcv : ∀ (j : Nat) (u : Value), [x0, x1][j]? = some u → w.cell? ((⟨vb, 0, none⟩ : Addr).add j) = some u := by
  intro j u hj
  rw [Nm.addr_add, Nat.zero_add, blk_cell hv j]
  simpa using hj
 have hone : ∀ u ∈ [x0, x1], u.oneCell' = true := by
  intro u hu
  simp at hu
  rcases hu with rfl | rfl
  · exact h0
  · exact h0'
 by_cases hin : i = n
 · subst hin
   have hHX : Hid (xs.take (i * 2) ++ [x0, x1] ++ xs.drop (i * 2) = xs ++ [x0, x1]) := by
    show _ = _
    rw [List.take_of_length_le (by omega), List.drop_of_length_le (by omega), List.append_nil]
   rcases h.2 with ⟨rfl, hn0⟩ | ⟨g, cap, cur, rfl, hbg, hg, hnc, hcm, hcs, htk⟩
   · have hi0' : i = 0 := hn0
     subst hi0'
     have hcast : ((0 : Nat) : Int) = 0 := rfl
     rw [hcast]
     go_enter Tryz.func203, Tryz.ntmps203
     go_wp2_with (at_builtin; refine wpList_append_own_at _ rfl (.tmp 23) (.tmp 24) 185 rfl B 189 i0 _ 2 16 Tryz.underlying185 hi0 hz0 hz1 hz2 rfl (by decide) _ _ _ rfl h ⟨vb, 0, none⟩ 1 vc [x0, x1] rfl rfl hcv hone (by unfold maxLen; omega) (by omega) hB ?_; intro va wa ho9 hg9 hnl9 hat9)
     go_ret
     exact ⟨va, rfl, by rw [hHX.out]; exact ho9, hg9, by rcases hat9 with h | h; exact .inl h; right; intro g e; rw [h] at e; simp at e; omega⟩
   · unfold maxLen at hcm
     by_cases hci : cap = i
     all_goals
      go_enter Tryz.func203, Tryz.ntmps203
      go_wp2_with (at_builtin; refine wpList_append_own_at _ rfl (.tmp 23) (.tmp 24) 185 rfl B 189 i0 _ 2 16 Tryz.underlying185 hi0 hz0 hz1 hz2 rfl (by decide) _ _ _ rfl h ⟨vb, 0, none⟩ 1 vc [x0, x1] rfl rfl hcv hone (by unfold maxLen; omega) (by omega) hB ?_; intro va wa ho9 hg9 hnl9 hat9)
      go_ret
      exact ⟨va, rfl, by rw [hHX.out]; exact ho9, hg9, by rcases hat9 with h | h; exact .inl h; right; intro g e; rw [h] at e; simp at e; omega⟩
 · have hlt : i < n := by omega
   rcases h.2 with ⟨rfl, hn0⟩ | ⟨g, cap, cur, rfl, hbg, hg, hnc, hcm, hcs, htk⟩
   · omega
   · have hkg : Blk w g cur 189 := hg
     have hgv : vb ≠ g := fun e => hvb (by rw [e]; rfl)
     have hsz2 : (Tryz.prog.info? 189).map (·.size) = some 2 := by rw [hi0]; simp [hz1]
     have hsrcx : ∀ (W : World), Blk W g cur 189 → ∀ (j : Nat) (u : Value), (xs.drop (i * 2))[j]? = some u → W.cell? ((⟨g, i * 2, none⟩ : Addr).add j) = some u := by
      intro W hW j u hj
      rw [Nm.addr_add, blk_cell hW]
      rw [List.getElem?_drop] at hj
      have hjl := (List.getElem?_eq_some_iff.1 hj).1
      rw [← htk, List.getElem?_take_of_lt (by omega)] at hj
      simpa using hj
     have hdl : (xs.drop (i * 2)).length = (n - i) * 2 := by rw [List.length_drop, hxl]; omega
     have h1d : ∀ u ∈ xs.drop (i * 2), u.oneCell' = true := fun u hu => h1 u (List.mem_of_mem_drop hu)
     unfold maxLen at hcm
     have z1 : ¬ ((i : Int) = (n : Int)) := by omega
     have z2 : (0 : Int) ≤ (i : Int) := by omega
     have z3 : (i : Int) ≤ (n : Int) := by omega
     have z4 : ¬ cap = i := by omega
     have z6 : ((i : Int) + 1).toNat = i + 1 := by omega
     by_cases hroom : n + 1 ≤ cap
     · have hov : ∀ lb cb, (callFunc 218 #[.slice (some ⟨vb, 0, none⟩) 1 vc, .slice (some ⟨g, (i + 1) * 2, none⟩) lb cb]).run Tryz.prog w = .ok (.value (.bool false)) w := fun lb cb => by
        rw [run_callFunc_extern Tryz.func218 (by kernel_rfl) (by kernel_rfl) (by kernel_rfl) (e := Extern.SlicesOverlaps.overlaps #[185, 185] #[4]) (by kernel_rfl),
         Lib.run_overlaps_apart w 185 4 189 Tryz.underlying185 2 (fun w => by rw [sizeOf]; simp [typeInfo, hi0, hz1]) ⟨vb, 0, none⟩ ⟨g, (i + 1) * 2, none⟩ 1 vc lb cb hgv 189 189 2 cur.size (shape_ofI hv) (shape_ofI hkg) (by omega) (frozen_of_row w vb 0 _ _ hv) (frozen_of_row w vb 2 _ _ hv)]
        rfl
       have z5 : ¬ cap = i + 1 := by omega
       obtain ⟨c1, hc1⟩ : ∃ c1, c1 = cur.toList.take ((i + 1) * 2) ++ xs.drop (i * 2) ++ cur.toList.drop ((i + 1) * 2 + (xs.drop (i * 2)).length) := ⟨_, rfl⟩
       obtain ⟨hl1, hall⟩ := ins_room x0 x1 (by rw [Array.length_toList, hcs]) htk hlt hroom c1 hc1
       obtain ⟨c2, hc2⟩ : ∃ c2, c2 = c1.take (i * 2) ++ [x0, x1] ++ c1.drop (i * 2 + [x0, x1].length) := ⟨_, rfl⟩
       obtain ⟨hl2, hres⟩ := hall c2 hc2
       have hcp1 : ∀ ty dc sc, (Builtin.copy_ #[185, 185] ty #[.slice (some ⟨g, (i + 1) * 2, none⟩) (n - i) dc, .slice (some ⟨g, i * 2, none⟩) (n + 1 - i) sc]).run Tryz.prog w.drew = .ok (goInt (Nat.min (n + 1 - i) (n - i))) (w.drew.setRow g c1.toArray) := fun ty dc sc => by
        rw [hc1]
        exact run_copy_rowK w.drew _ _ ty 189 g ((i + 1) * 2) _ dc ⟨g, i * 2, none⟩ _ sc cur 189 (xs.drop (i * 2)) 2 Tryz.underlying185 hsz2 hkg (by rw [hdl]; simp only [Nat.min_def]; split <;> omega) (hsrcx _ hkg) (by rw [hdl, hcs]; omega) h1d
       have hk1 : Blk (w.drew.setRow g c1.toArray) g c1.toArray 189 := setRow_blk (blk_drew hkg) _
       have hcp2 : ∀ ty dc, (Builtin.copy_ #[185, 185] ty #[.slice (some ⟨g, i * 2, none⟩) (n + 1 - i) dc, .slice (some ⟨vb, 0, none⟩) 1 vc]).run Tryz.prog (w.drew.setRow g c1.toArray) = .ok (goInt (Nat.min 1 (n + 1 - i))) ((w.drew.setRow g c1.toArray).setRow g c2.toArray) := fun ty dc => by
        rw [hc2]
        exact run_copy_rowK (w.drew.setRow g c1.toArray) _ _ ty 189 g (i * 2) _ dc ⟨vb, 0, none⟩ 1 vc c1.toArray 189 [x0, x1] 2 Tryz.underlying185 hsz2 hk1 (by simp only [Nat.min_def, List.length_cons, List.length_nil]; split <;> omega) (fun j u hj => by
         rw [World.cell?_of_block (w := w.drew) (by rw [Nm.addr_add]; exact setRow_other w.drew g vb _ hgv)]
         exact hcv j u hj) (by simp only [List.size_toArray, hl1, List.length_cons, List.length_nil]; omega) hone
       have X := Nm.hide (And.intro (own_of_blk (n := n + 1) (cap := cap) (s := 2) (setRow_blk hk1 c2.toArray) hbg (by omega) hcm (by simp [hl2]) (show c2.toArray.toList.take ((n + 1) * 2) = xs.take (i * 2) ++ [x0, x1] ++ xs.drop (i * 2) from hres)) (hgr_step (g := g) ((⟨rfl, rfl, rfl, Nat.le_refl _, fun _ _ _ => rfl⟩ : w.grownBy w.drew (some g))) (hgr_step (setRow_grown w.drew g c1.toArray) (setRow_grown _ g c2.toArray))))
       clear hc1 hc2 hall hres hl1 hl2 hsrcx htk
       go_enter Tryz.func203, Tryz.ntmps203
       go_wp2
       go_region
       all_goals
        go_wp2
        go_ret
        exact ⟨.slice (some ⟨g, 0, none⟩) (n + 1) cap, rfl, X.out.1, X.out.2, .inl rfl⟩
     · have hcn : cap = n := by omega
       obtain ⟨GC, hGC⟩ : ∃ GC, GC = grownCap w (i + (n + 1 - i)) cap 189 := ⟨_, rfl⟩
       have hge : n + 1 ≤ GC := by rw [hGC]; have := grownCap_ge w (i + (n + 1 - i)) cap 189; omega
       have hgm : GC ≤ maxLen := by rw [hGC]; exact grownCap_le_maxLen w _ cap 189 (by unfold maxLen; omega)
       obtain ⟨Z, hZ⟩ : ∃ Z : List Value, Z = (Builtin.zeroCells (Value.agg #[.int .i64 0, .pointer none]).cells (n + 1 - i) ++ Builtin.zeroCells (Value.agg #[.int .i64 0, .pointer none]).cells (GC - (n + 1))).toList := ⟨_, rfl⟩
       have hzl : (xs.take (i * 2) ++ Z).length = GC * 2 := by
        have hzs : (Value.agg #[.int .i64 0, .pointer none]).cells.size = 2 := rfl
        have e1 : (Builtin.zeroCells (Value.agg #[.int .i64 0, .pointer none]).cells (n + 1 - i)).toList.length = (n + 1 - i) * 2 := by rw [Array.length_toList, size_zeroCells, hzs]
        have e2 : (Builtin.zeroCells (Value.agg #[.int .i64 0, .pointer none]).cells (GC - (n + 1))).toList.length = (GC - (n + 1)) * 2 := by rw [Array.length_toList, size_zeroCells, hzs]
        rw [hZ, List.length_append, List.length_take, Array.toList_append, List.length_append, e1, e2, hxl]
        omega
       have hap : ∀ ty, (Builtin.append_ #[185, 3] ty #[.slice (some ⟨g, 0, none⟩) i cap, .int .i64 (((n : Int) + 1 - (i : Int)))]).run Tryz.prog w = .ok (.slice (some ⟨w.heap.size, 0, none⟩) (n + 1) GC) (w.drew.alloc (.cells (xs.take (i * 2) ++ Z).toArray 189)) := by
        intro ty
        have hfc : (Builtin.firstCells i0.size i (.slice (some ⟨g, 0, none⟩) i cap)).run Tryz.prog w.drew = .ok (xs.take (i * 2)).toArray w.drew := by
         have hl := run_loadCells_list (P := Tryz.prog) w.drew ⟨g, 0, none⟩ (xs.take (i * 2)) (fun j u hj => by
          rw [Nm.addr_add, blk_cell (blk_drew hkg), Nat.zero_add]
          rw [List.getElem?_take] at hj
          split at hj
          · rename_i hji
            rw [← htk, List.getElem?_take_of_lt (by omega)] at hj
            simpa using hj
          · cases hj)
         rw [List.length_take, hxl, Nat.min_eq_left (by omega)] at hl
         simp [Builtin.firstCells, hz1, hl]
        have hr := Lib.run_append_grow_zeros (P := Tryz.prog) w 185 3 ty 189 i0 _ .i64 .i64 Tryz.underlying185 Tryz.underlying3 hi0 hz0 (some ⟨g, 0, none⟩) i cap (xs.take (i * 2)) hfc (n + 1 - i) (by omega) (by omega) (by omega) (by omega) (by rw [hz2]; omega) (by rw [hz2]; exact growslice_fits (by omega) (by omega))
        rw [show ((n + 1 - i : Nat) : Int) = (n : Int) + 1 - (i : Int) by omega] at hr
        rw [hr, ← hGC, hZ]
        congr 1
        · rw [show i + (n + 1 - i) = n + 1 by omega]
        · rw [show i + (n + 1 - i) = n + 1 by omega]
          congr 2
          rw [Array.append_assoc]
          apply Array.toList_inj.1
          simp
       have hkW : Blk (w.drew.alloc (.cells (xs.take (i * 2) ++ Z).toArray 189)) w.heap.size (xs.take (i * 2) ++ Z).toArray 189 := blk_new w.drew _ _
       have hbW : Below w.heap.size w (w.drew.alloc (.cells (xs.take (i * 2) ++ Z).toArray 189)) := (Below.refl _ _).drew.alloc (Nat.le_refl _) _
       obtain ⟨c1, hc1⟩ : ∃ c1, c1 = (xs.take (i * 2) ++ Z).take (i * 2) ++ [x0, x1] ++ (xs.take (i * 2) ++ Z).drop (i * 2 + [x0, x1].length) := ⟨_, rfl⟩
       obtain ⟨hl1, hall⟩ := ins_grow x0 x1 hxl hlt hge hzl c1 hc1
       obtain ⟨c2, hc2⟩ : ∃ c2, c2 = c1.take ((i + 1) * 2) ++ xs.drop (i * 2) ++ c1.drop ((i + 1) * 2 + (xs.drop (i * 2)).length) := ⟨_, rfl⟩
       obtain ⟨hl2, hres⟩ := hall c2 hc2
       generalize hW0 : w.drew.alloc (.cells (xs.take (i * 2) ++ Z).toArray 189) = W0 at *
       have hgW0 : Blk W0 g cur 189 := blk_below hkg hbW
       have hvW0 : Blk W0 vb #[x0, x1] 189 := blk_below hv hbW
       have hglt := blk_lt hkg
       have hvlt := blk_lt hv
       have hcp1 : ∀ ty dc, (Builtin.copy_ #[185, 185] ty #[.slice (some ⟨w.heap.size, i * 2, none⟩) (n + 1 - i) dc, .slice (some ⟨vb, 0, none⟩) 1 vc]).run Tryz.prog W0 = .ok (goInt (Nat.min 1 (n + 1 - i))) (W0.setRow w.heap.size c1.toArray) := fun ty dc => by
        rw [hc1]
        exact run_copy_rowK W0 _ _ ty 189 w.heap.size (i * 2) _ dc ⟨vb, 0, none⟩ 1 vc _ 189 [x0, x1] 2 Tryz.underlying185 hsz2 hkW (by simp only [Nat.min_def, List.length_cons, List.length_nil]; split <;> omega) (fun j u hj => by
         rw [Nm.addr_add, blk_cell hvW0, Nat.zero_add]
         simpa using hj) (by simp only [List.size_toArray, hzl, List.length_cons, List.length_nil]; omega) hone
       have hk1 : Blk (W0.setRow w.heap.size c1.toArray) w.heap.size c1.toArray 189 := setRow_blk hkW _
       have hg1 : Blk (W0.setRow w.heap.size c1.toArray).drew g cur 189 := by
        unfold Blk
        show (W0.setRow w.heap.size c1.toArray).heap[g]? = _
        rw [setRow_other W0 _ g _ (by omega)]
        exact hgW0
       have hcp2 : ∀ ty dc sc, (Builtin.copy_ #[185, 185] ty #[.slice (some ⟨w.heap.size, (i + 1) * 2, none⟩) (n - i) dc, .slice (some ⟨g, i * 2, none⟩) (n - i) sc]).run Tryz.prog (W0.setRow w.heap.size c1.toArray).drew = .ok (goInt (Nat.min (n - i) (n - i))) ((W0.setRow w.heap.size c1.toArray).drew.setRow w.heap.size c2.toArray) := fun ty dc sc => by
        rw [hc2]
        exact run_copy_rowK (W0.setRow w.heap.size c1.toArray).drew _ _ ty 189 w.heap.size ((i + 1) * 2) _ dc ⟨g, i * 2, none⟩ _ sc c1.toArray 189 (xs.drop (i * 2)) 2 Tryz.underlying185 hsz2 (blk_drew hk1) (by rw [hdl]; simp only [Nat.min_def]; split <;> omega) (hsrcx _ hg1) (by rw [hdl]; simp only [List.size_toArray, hl1]; omega) h1d
       have X := Nm.hide (And.intro (own_of_blk (B := B) (n := n + 1) (cap := GC) (s := 2) (setRow_blk (blk_drew hk1) c2.toArray) hB hge hgm (by simp [hl2]) (show c2.toArray.toList.take ((n + 1) * 2) = xs.take (i * 2) ++ [x0, x1] ++ xs.drop (i * 2) from hres)) (show w.grownBy ((W0.setRow w.heap.size c1.toArray).drew.setRow w.heap.size c2.toArray) (some g) from by
        refine ⟨hbW.os, hbW.tape, hbW.output, ?_, fun k hk hne => ?_⟩
        · rw [setRow_size]
          show w.heap.size ≤ (W0.setRow w.heap.size c1.toArray).heap.size
          rw [setRow_size]
          exact hbW.size
        · rw [setRow_other _ _ k _ (by omega)]
          show (W0.setRow w.heap.size c1.toArray).heap[k]? = _
          rw [setRow_other _ _ k _ (by omega)]
          exact hbW.block k hk))
       have y1 : ¬ GC = i := by omega
       have y2 : ¬ GC = i + 1 := by omega
       have y3 : ¬ n + 1 ≤ cap := by omega
       have y4 : (cap : Int) < (n : Int) + 1 := by omega
       have y5 : IntKind.i64.wrap ((i : Int) + 1) = (i : Int) + 1 := by rw [IntKind.wrap_i64]; omega
       have y6 : (0 : Int) ≤ (i : Int) + 1 := by omega
       have y7 : (i : Int) + 1 ≤ (n : Int) + 1 := by omega
       unfold maxLen at hgm
       clear hc1 hc2 hall hres hl1 hl2 hsrcx htk hGC hZ hzl hW0 hg1 hk1 hkW hbW hgW0 hvW0 hroom hcn
       go_enter Tryz.func203, Tryz.ntmps203
       go_wp2_with (at_builtin; refine wpList_app_ranT rfl (.tmp 34) (.tmp 39) 185 3 rfl _ _ _ _ rfl rfl (hap _) ?_; clear hap)
       go_region
       all_goals
        go_wp2
        go_ret
        exact ⟨.slice (some ⟨w.heap.size, 0, none⟩) (n + 1) GC, rfl, X.out.1, X.out.2, .inr (fun g' e => by simp [Value.ownBlock] at e; omega)⟩
end Go.Proofs.YtdcbhohlglncnaaGreat
