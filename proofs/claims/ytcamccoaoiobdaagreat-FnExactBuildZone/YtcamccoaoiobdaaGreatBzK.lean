import Derived.Test.YtcamccoaoiobdaaGreatJBzA
/- (*builder).checkRecords by its contract. -/
namespace Go.Proofs.YtcamccoaoiobdaaGreat
open Go.RowKit
set_option linter.unusedVariables false

theorem one_rec {r : Rr} {apex : ByteArray} {xs ys : List ByteArray} (hx : Nm.split r.own = some xs) (hy : Nm.split apex = some ys) : oneC r apex = recC r xs ys := by
  rw [oneC, recC, hx, isUnder_some hx hy]
  simp only [Option.isSome_some, Bool.true_eq_false, if_false]
  split
  · rfl
  · split
    · rfl
    · by_cases h1 : (decide (0 ≤ r.ty) && decide (r.ty ≤ 65535)) = false
      · rw [if_pos h1, if_pos ?_]
        simp only [Bool.and_eq_false_iff, decide_eq_false_iff_not] at h1
        rcases h1 with h1 | h1
        · exact .inr (.inl (by omega))
        · exact .inr (.inr (by omega))
      · rw [if_neg h1]
        by_cases h2 : metaB r.ty = true
        · rw [if_pos h2, if_pos (.inl h2)]
        · rw [if_neg h2, if_neg ?_]
          simp only [Bool.and_eq_false_iff, decide_eq_false_iff_not, not_or, Decidable.not_not] at h1
          rintro (h3 | h3 | h3)
          · exact h2 h3
          · omega
          · omega
theorem one_bad {r : Rr} {apex : ByteArray} (hx : Nm.split r.own = none) : oneC r apex = 1 := by rw [oneC, hx]; rfl
theorem wsum_len : ∀ (xs : List ByteArray), xs.length ≤ Nm.wsum xs := by
  intro xs
  induction xs with
  | nil => simp [Nm.wsum]
  | cons x xs ih => simp only [List.length_cons, Nm.wsum]; omega
theorem lab_fit {s : ByteArray} {xs : List ByteArray} (h : Nm.split s = some xs) : (∀ x ∈ xs, x.size ≤ 1000000000) ∧ xs.length ≤ 255 := by
  have h1 := Nm.split_join h
  have h2 := Nm.split_size h
  have h3 := wsum_len xs
  exact ⟨fun x hx => by have := h1.2 x hx; omega, by omega⟩

theorem outs_grown {fp : List Nat} {w W W' : World} {row : Option Nat} (h : Outs fp w W) (hg : W.grownBy W' row) (hr : ∀ g, row = some g → w.heap.size ≤ g) : Outs fp w W' :=
  ⟨hg.os.trans h.os, hg.tape.trans h.tape, hg.output.trans h.output, Nat.le_trans h.size hg.size, fun k hk hn => (hg.block k (Nat.lt_of_lt_of_le hk h.size) (fun e => by have := hr k e.symm; omega)).trans (h.block k hk hn)⟩
theorem outs_cell {fp : List Nat} {w W : World} {p : Addr} {v : Value} (h : Outs fp w W) (hc : w.cell? p = some v) (hn : p.block ∉ fp) : W.cell? p = some v := by
  have hlt := World.block_lt_of_cell? w _ hc
  rw [World.cell?_of_block (w := w) (h.block p.block hlt hn)]
  exact hc
theorem srow_outs {fp : List Nat} {w W : World} {v : Value} {xs : List ByteArray} (h : Outs fp w W) (hs : Nm.SRow w v xs) (hn : xs ≠ [] → ∀ b, rowBlk v = some b → b ∉ fp) : Nm.SRow W v xs := by
  obtain ⟨a, cap, rfl, h1, h2, h3, h4⟩ := hs
  refine ⟨a, cap, rfl, h1, h2, h3, fun hne => ?_⟩
  obtain ⟨b, off, rfl, hc⟩ := h4 hne
  exact ⟨b, off, rfl, fun k x hx => outs_cell h (hc k x hx) (hn hne b rfl)⟩
theorem srow_own {w : World} {B : Nat} {v : Value} {xs : List ByteArray} (h : w.ownsRow B 9 1 v xs.length (xs.map Value.string)) : Nm.SRow w v xs := Nm.SRow.of_owns h

/-- The labels of records, a row of rows. -/
structure LbRow (W : World) (B : Nat) (v : Value) (lvs : List Value) (xss : List (List ByteArray)) : Prop where
  outer : W.ownsRow B 57 1 v lvs.length lvs
  len : lvs.length = xss.length
  inner : ∀ (i : Nat) (u : Value) (xs : List ByteArray), lvs[i]? = some u → xss[i]? = some xs → W.ownsRow B 9 1 u xs.length (xs.map Value.string)
theorem LbRow.nil (W : World) (B : Nat) : LbRow W B (.slice none 0 0) [] [] := ⟨World.ownsRow_nil _ _ _ _, rfl, by simp⟩
theorem LbRow.below {W W' : World} {B : Nat} {v : Value} {lvs : List Value} {xss : List (List ByteArray)} (h : LbRow W B v lvs xss) (hb : Below W.heap.size W W') : LbRow W' B v lvs xss :=
  ⟨own_below h.outer hb, h.len, fun i u xs h1 h2 => own_below (h.inner i u xs h1 h2) hb⟩
theorem LbRow.set {W : World} {B b i : Nat} {v y : Value} {cs : Array Value} {lvs : List Value} {xss : List (List ByteArray)} (h : LbRow W B v lvs xss) (hb : Blk W b cs 63) : LbRow (W.setCell ⟨b, i, none⟩ y) B v lvs xss :=
  ⟨own_far h.outer (own_nb h.outer hb (by decide)), h.len, fun j u xs h1 h2 => own_far (h.inner j u xs h1 h2) (own_nb (h.inner j u xs h1 h2) hb (by decide))⟩
theorem LbRow.snoc {W W1 : World} {B : Nat} {v v' u : Value} {lvs : List Value} {xs : List ByteArray} {xss : List (List ByteArray)} (h : LbRow W B v lvs xss) (hu : W.ownsRow B 9 1 u xs.length (xs.map Value.string))
    (ho : W1.ownsRow B 57 1 v' (lvs.length + 1) (lvs ++ [u])) (hg : W.grownBy W1 v.ownBlock) : LbRow W1 B v' (lvs ++ [u]) (xss ++ [xs]) := by
  refine ⟨by simpa using ho, by simp [h.len], fun i y zs h1 h2 => ?_⟩
  rcases snoc_cases h1 with ⟨hi, h1'⟩ | ⟨hi, rfl⟩
  · rw [List.getElem?_append_left (by rw [← h.len]; exact hi)] at h2
    have := h.inner i y zs h1' h2
    exact own_besideZ this hg (own_kindsZ this h.outer (by decide))
  · rw [hi, h.len, List.getElem?_append_right (Nat.le_refl _)] at h2
    simp at h2
    subst h2
    exact own_besideZ hu hg (own_kindsZ hu h.outer (by decide))

theorem infoLl : (Tryz.prog.info? 57).map (fun i => (i.zero, i.size, i.bytes)) = some (some (.slice none 0 0), 1, 24) := by kernel_rfl
def labsOf (l : List Rr) : List (List ByteArray) := l.map fun r => (Nm.split r.own).getD []

set_option maxRecDepth 100000 in
set_option maxHeartbeats 3200000 in
theorem checkRecords_any (bb : Nat) (la : Option Addr) (lc : Nat) (list : List Rr) (apex : ByteArray) (ys : List ByteArray) (aa : Option Addr) (ac : Nat) (tv : Value) (w : World) (hk : Blk w bb #[.slice la list.length lc, .string apex, .slice none 0 0, .slice aa ys.length ac, tv, .slice none 0 0] 63)
    (h : CRow w (.slice la list.length lc) list.length 5 (rvVs list)) (hfar : 0 < list.length → rowBlk (.slice la list.length lc) ≠ some bb) (hl : list.length ≤ 500) (hap : Nm.split apex = some ys) (hav : Nm.SRow w (.slice aa ys.length ac) ys) (hafar : rowBlk (.slice aa ys.length ac) ≠ some bb) (ho : ∀ r ∈ list, r.own.size ≤ maxLen ∧ r.da.size ≤ 2000000) :
    Calls Tryz.prog 43 #[.pointer (some ⟨bb, 0, none⟩)] w fun e w' => Outs [bb] w w' ∧
      ((∃ c i, badOne apex list 0 = some (c, i) ∧ e = rsV c i) ∨
      (badOne apex list 0 = none ∧ e = rsV 0 0 ∧ ∃ labv lvs, Blk w' bb #[.slice la list.length lc, .string apex, labv, .slice aa ys.length ac, tv, .slice none 0 0] 63 ∧ LbRow w' w.heap.size labv lvs (labsOf list))) := by
  obtain ⟨i0, hi, hz0, hz1, hz2⟩ := info_parts infoLl
  have rk := fun i => blk_cell hk i
  have hbl := blk_lt hk
  obtain ⟨_, a, cap, e, hcap, hmx, hc⟩ := h
  cases e
  unfold maxLen at hmx
  have HX := Nm.hide (And.intro hfar (And.intro hap (And.intro hav (And.intro hafar ho))))
  clear hfar hap hav hafar ho
  have HK := Nm.hide hk
  clear hk
  go_enter Tryz.func43, Tryz.ntmps43
  go_wp2
  go_loopw [14] (fun i wr => ∃ (k : Nat) (labv : Value) (lvs : List Value), k ≤ list.length ∧ i = .int .i64 k ∧ (∀ (j : Nat) (x : Rr), j < k → list[j]? = some x → oneC x apex = 0) ∧ Blk wr bb #[.slice la list.length lc, .string apex, labv, .slice aa ys.length ac, tv, .slice none 0 0] 63 ∧ LbRow wr w.heap.size labv lvs (labsOf (list.take k)) ∧ Outs [bb] w wr) (fun i _ => list.length - (intOf i).toNat)
  case atStart => exact ⟨0, .slice none 0 0, [], Nat.zero_le _, rfl, fun j x hj => absurd hj (Nat.not_lt_zero _), HK.out, LbRow.nil _ _, Outs.below (Below.refl _ _)⟩
  case round =>
    obtain ⟨k, labv, lvs, hk', rfl, hno, kb, lr, hou⟩ := hrel
    have HR := Nm.hide (And.intro hno (And.intro kb (And.intro lr hou)))
    by_cases hlt : k < list.length
    · obtain ⟨x, hx⟩ : ∃ x, list[k]? = some x := ⟨_, List.getElem?_eq_getElem hlt⟩
      obtain ⟨b, off, rfl, hcell⟩ := hc (by omega)
      have hnb : b ∉ [bb] := fun hm => HX.out.1 (by omega) (by rw [List.mem_singleton.1 hm]; rfl)
      obtain ⟨d0, d1, d2, d3, d4⟩ := rv_cells (w := wr) (fun i y hy => outs_cell hou (hcell i y hy) hnb) hx
      have hxo := HX.out.2.2.2.2 x (List.mem_of_getElem? hx)
      have kr := blk_new wr #[.string x.own, .int .i64 x.ty, .int .i64 x.cl, .int .i64 x.tt, .string x.da] 42
      have ba := (Below.refl wr.heap.size wr).alloc (Nat.le_refl _) (.cells #[.string x.own, .int .i64 x.ty, .int .i64 x.cl, .int .i64 x.tt, .string x.da] 42)
      have hsn := splitName_any x.own (wr.alloc (.cells #[.string x.own, .int .i64 x.ty, .int .i64 x.cl, .int .i64 x.tt, .string x.da] 42)) hxo.1
      have HXX := Nm.hide hx
      have i1 : (0 : Int) ≤ (k : Int) := by omega
      have i2 : (k : Int) < (list.length : Int) := by omega
      clear hc hcell hx hno kb lr hou hnb rk
      go_wp2_with fail
      refine hsn.mono ?_
      rintro e w2 ⟨v, rfl, hv2, b2⟩
      have b2' := Nm.below_two ba b2
      have kr2 := blk_below kr b2
      cases hsp : Nm.split x.own with
      | none =>
        rw [hsp] at hv2
        simp only [Option.isSome_none]
        have HB := Nm.hide (one_bad (apex := apex) hsp)
        clear hsn hsp d0 d1 d2 d3 d4
        go_wp2
        go_ret2
        refine ⟨HR.out.2.2.2.trans (Outs.below b2' (fp := [bb])) (fun k hk => .inl hk), .inl ⟨1, k, ?_, rfl⟩⟩
        have := badOne_at (apex := apex) list k 0 x HR.out.1 HXX.out (by rw [HB.out]; decide)
        rw [this, HB.out, Nat.zero_add]
      | some xs =>
        rw [hsp] at hv2
        simp only [Option.isSome_some, Option.getD_some] at hv2 ⊢
        obtain ⟨va, vc, rfl⟩ := own_sl hv2
        have ou2 : Outs [bb] w w2 := HR.out.2.2.2.trans (Outs.below b2' (fp := [bb])) (fun k hk => .inl hk)
        have kb2 := blk_below HR.out.2.1 b2'
        have c3 := (blk_cell kb2 3).trans rfl
        have hav2 := srow_outs ou2 HX.out.2.2.1 (fun _ b hb hm => HX.out.2.2.2.1 (by rw [hb, List.mem_singleton.1 hm]))
        have hfx := lab_fit hsp
        have hfy := lab_fit HX.out.2.1
        have hcr := checkRecord_any x bb (.slice va xs.length vc) (.slice aa ys.length ac) xs ys w2 hxo.2 (srow_own hv2) hav2 c3 hfx.1 (by omega) (by omega)
        rw [← one_rec hsp HX.out.2.1] at hcr
        have HSP := Nm.hide hsp
        have HOU := Nm.hide ou2
        have rr2 := fun i => blk_cell kr2 i
        clear hsn hsp d0 d1 d2 d3 d4 hav2 ou2
        obtain ⟨OC, hOC⟩ : ∃ OC, OC = oneC x apex := ⟨_, rfl⟩
        rw [← hOC] at hcr
        have HOC := Nm.hide hOC
        clear hOC
        by_cases h0 : OC = 0
        · subst h0
          have hlr := HR.out.2.2.1
          have hlk : lvs.length = k := by
            rw [hlr.len, labsOf, List.length_map, List.length_take]
            omega
          have HLK := Nm.hide hlk
          clear hlk
          go_wp2_with (first
            | (go_at_call 67
               refine hcr.mono ?_
               rintro e w3 ⟨rfl, b3⟩
               have b3' := Nm.below_two b2' b3
               have kb3 := blk_below kb2 b3
               have rk3 := fun i => blk_cell kb3 i
               have lr3 := hlr.below b3'
               have hv3 := own_below hv2 b3
               have lr3o := lr3.outer)
            | (at_builtin
               refine wpList_append_own _ rfl _ _ 56 rfl w.heap.size 57 i0 (.slice none 0 0) 1 24 Tryz.underlying56 hi hz0 hz1 hz2 rfl (by decide) _ _ _ rfl (own_below lr3o ((Below.refl _ _).alloc (Nat.le_refl _) _)) ⟨w3.heap.size, 0, none⟩ 1 1 [.slice va xs.length vc] rfl rfl (cell_one_new _ _ _) (by simp [Value.oneCell']) (by unfold maxLen; have := HLK.out; omega) (by have := HLK.out; omega) (by have := b3'.size; have := HOU.out.size; have := HR.out.2.2.2.size; simp; omega) ?_
               intro v' w5 hown' hgrow _
               obtain ⟨g', cap', rfl⟩ := ownsRow_succ hown'
               have kb4 : Blk (w3.alloc (.cells #[.slice va xs.length vc] 57)) bb #[.slice (some ⟨b, off, none⟩) list.length lc, .string apex, labv, .slice aa ys.length ac, tv, .slice none 0 0] 63 := blk_alloc kb3 _
               have lr4 := lr3.below ((Below.refl _ w3).alloc (Nat.le_refl _) (.cells #[.slice va xs.length vc] 57))
               have kb5 := blk_grown kb4 hgrow (own_nb lr4.outer kb4 (by decide))
               have rk5 := fun i => blk_cell kb5 i
               have fk5 := fun i => blk_frozen kb5 i))
          have lr5 := lr4.snoc (own_base (own_below hv3 ((Below.refl _ w3).alloc (Nat.le_refl _) (.cells #[.slice va xs.length vc] 57))) (by have := b2'.size; have := HR.out.2.2.2.size; have := ba.size; simp at *; omega)) hown' hgrow
          have k6 := blk_set kb5 2 (.slice (some ⟨g', 0, none⟩) (lvs.length + 1) cap')
          simp only [List.setIfInBounds_toArray, List.set_cons_zero, List.set_cons_succ] at k6
          have ou5 := outs_grown (outs_grown (HOU.out.trans (Outs.below b3 (fp := [bb])) (fun k hk => .inl hk)) (grown_of_below ((Below.refl _ w3).alloc (Nat.le_refl _) (.cells #[.slice va xs.length vc] 57))) (fun g e => by cases e)) hgrow (fun g e => (lr4.outer.lt g e).1)
          go_roundw
          case rel =>
            refine ⟨k + 1, _, lvs ++ [.slice va xs.length vc], by omega, by go_num, fun j y hj hy => ?_, k6, ?_, ou5.trans (outs_set (b := bb) (i := 2)) (fun k hk => .inl hk)⟩
            · rcases Nat.lt_succ_iff_lt_or_eq.1 hj with h1 | rfl
              · exact HR.out.1 j y h1 hy
              · rw [HXX.out] at hy; cases hy; exact HOC.out.symm
            · have e9 : labsOf (list.take (k + 1)) = labsOf (list.take k) ++ [xs] := by
                obtain ⟨hkl, ex⟩ := List.getElem?_eq_some_iff.1 HXX.out
                rw [List.take_succ_eq_append_getElem hkl, ex, labsOf, List.map_append, List.map_cons, List.map_nil, HSP.out]
                rfl
              rw [e9]
              exact lr5.set kb5
          case measure => simp [intOf]; omega
        · have n0 : (OC != 0) = true := by simpa using h0
          have H0 := Nm.hide h0
          clear h0
          go_wp2_with (go_at_call 67; refine hcr.mono ?_; rintro e w3 ⟨rfl, b3⟩)
          go_ret2
          refine ⟨HOU.out.trans (Outs.below b3 (fp := [bb])) (fun k hk => .inl hk), .inl ⟨OC, k, ?_, rfl⟩⟩
          have := badOne_at (apex := apex) list k 0 x HR.out.1 HXX.out (by rw [← HOC.out]; exact H0.out)
          rw [this, ← HOC.out, Nat.zero_add]
    · have hke : k = list.length := by omega
      subst hke
      clear hc hno kb lr hou
      go_wp2
      go_ret2
      refine ⟨HR.out.2.2.2, .inr ⟨badOne_no _ _ HR.out.1, rfl, labv, lvs, HR.out.2.1, ?_⟩⟩
      have := HR.out.2.2.1
      rwa [List.take_length] at this
end Go.Proofs.YtcamccoaoiobdaaGreat
