import Derived.Test.YtjokdmmlofbknaaDoorJIGrp
import Derived.Test.YtjokdmmlofbknaaDoorV4I
import Derived.Test.YtjokdmmlofbknaaDoorShelfM
/- impl.readGroups by its contract. -/
namespace Go.Proofs.YtjokdmmlofbknaaDoor
open Go.RowKit

/-- What strings.Split at a colon gives. -/
def PartsC (s : ByteArray) (w w' : World) (v : Value) : Prop :=
  v = .slice (some ⟨w.heap.size, 0, none⟩) (cutB s 58).length (cutB s 58).length ∧ ∀ (k : Nat) (x : ByteArray), (cutB s 58)[k]? = some x → w'.cell? ⟨w.heap.size, k, none⟩ = some (.string x)
theorem splitC_any (s : ByteArray) (w : World) (hsh : w.ShapedOpen Tryd.prog) (hs : s.size ≤ 2000000) :
    Calls Tryd.prog 45 #[.string s, .string ⟨#[58]⟩] w fun e w' => ∃ v, e = .returned v ∧ PartsC s w w' v ∧ Below w.heap.size w w' := by
  refine (Tryd.strings_Split_shaped s ⟨#[58]⟩ w hsh (by omega) (by decide)).mono ?_
  rintro e w' ⟨rfl, rfl⟩
  have hc := count_cut s 58
  have e : Lib.splitB ⟨#[58]⟩ 0 (Lib.countB s ⟨#[58]⟩) s = cutB s 58 := splitB_cut (by omega)
  rw [e, hc]
  refine ⟨_, rfl, ⟨rfl, ?_⟩, (Below.refl _ _).alloc (Nat.le_refl _) _⟩
  intro k x hx
  have hcell : ∀ (o : Array Value) (t : TypeId), (w.alloc (.cells o t)).cell? ⟨w.heap.size, k, none⟩ = o[k]? := fun o t => cell_of_row _ _ k o t (0, 0) (heap_alloc_new w _)
  rw [hcell, List.getElem?_toArray, List.getElem?_map, hx]
  rfl

theorem cutP_small (c : UInt8) : ∀ (l x : List UInt8), x ∈ cutP c l → x.length ≤ l.length := by
  intro l
  induction l with
  | nil => intro x h; simp [cutP] at h; subst h; simp
  | cons y r ih =>
    intro x h
    rw [cutP] at h
    split at h
    · rw [List.mem_cons] at h
      rcases h with rfl | h
      · simp
      · have := ih x h; simp; omega
    · split at h
      · simp at h; subst h; simp
      · rename_i a t e
        rw [List.mem_cons] at h
        rcases h with rfl | h
        · have := ih a (by rw [e]; simp); simp; omega
        · have := ih x (by rw [e]; simp [h]); simp; omega

theorem cell_two (w : World) (x y : Value) (e : Nat) : ∀ (j : Nat) (u : Value), [x, y][j]? = some u → (w.alloc (.cells #[x, y] e)).cell? ((⟨w.heap.size, 0, none⟩ : Addr).add j) = some u := by
  intro j u hj
  match j, hj with
  | 0, hj => simp at hj; subst hj; simp [Addr.add]
  | 1, hj => simp at hj; subst hj; simp [Addr.add]
theorem two_one (x y : Value) (h : x.oneCell' = true) (h' : y.oneCell' = true) : ∀ u : Value, u ∈ [x, y] → u.oneCell' = true := by
  intro u hu; simp at hu; rcases hu with rfl | rfl <;> assumption
theorem bys_put2 {n : Nat} (h : n < 65536) : Nm.bys (put2 n) = [.int .u8 ((n : Int) / 256), .int .u8 ((n : Int) % 256)] := by
  have h1 : (UInt8.ofNat (n / 256)).toNat = n / 256 := by simp; omega
  have h2 : (UInt8.ofNat (n % 256)).toNat = n % 256 := by simp
  simp only [Nm.bys, put2, List.map_cons, List.map_nil, h1, h2]
  rfl
theorem two_step {W wr w1 : World} {v v' x y : Value} {B n : Nat} {l z : List UInt8} (hB : B ≤ wr.heap.size) (hz : Nm.bys z = [x, y])
    (hown : wr.ownsRow B 5 1 v n (Nm.bys l)) (hbel : Below B W wr) (o : Obj)
    (hown' : w1.ownsRow B 5 1 v' (n + 2) (Nm.bys l ++ [x, y])) (hgrow : (wr.alloc o).grownBy w1 v.ownBlock) :
    ∃ X, Hid (X = l ++ z) ∧ w1.ownsRow B 5 1 v' (n + 2) (Nm.bys X) ∧ Below B W w1 ∧ B ≤ w1.heap.size := by
  have hb : Below B W w1 := by
    refine (hbel.alloc hB o).grown hgrow (by simp; omega) ?_
    intro k hk
    exact (hown.lt k hk).1
  refine ⟨l ++ z, rfl, by rw [Nm.bys_append, hz]; exact hown', hb, ?_⟩
  have := hgrow.size
  simp at this
  omega
theorem part_g {p : ByteArray} {q : ByteArray} {c : Int} (h : readV4S p = (q, c)) (hc : c ≠ 0) (b : Bool) : gPart p b = (grpO p).map put2 := by
  rw [gPart, if_neg]
  rw [h]; exact fun h' => hc h'.2
theorem part_4 {p : ByteArray} {q : ByteArray} (h : readV4S p = (q, 0)) : gPart p true = some q.data.toList := by
  rw [gPart, h, if_pos ⟨rfl, rfl⟩]
theorem part_n {p : ByteArray} : gPart p false = (grpO p).map put2 := by rw [gPart, if_neg (fun h => by cases h.1)]

set_option maxRecDepth 100000 in
set_option maxHeartbeats 4000000 in
theorem readGroups_any (s : ByteArray) (last : Bool) (w : World) (hsh : w.ShapedOpen Tryd.prog) (hs : s.size ≤ 200) :
    Calls Tryd.prog 28 #[.string s, .bool last] w fun e w' => ∃ v, e = .returned (.tuple #[v, .bool (groupsS s last).isSome]) ∧ w'.ownsRow w.heap.size 5 1 v ((groupsS s last).getD []).length (Nm.bys ((groupsS s last).getD [])) ∧ Below w.heap.size w w' := by
  obtain ⟨G, HG⟩ : ∃ G, Hid (G = groupsS s last) := ⟨_, rfl⟩
  rw [← HG.out]
  by_cases h0 : s.size = 0
  · obtain ⟨h0', _⟩ := beq_empty h0
    have HN : Hid (G = some []) := by show _ = _; rw [HG.out, groupsS, if_pos h0]
    clear HG h0
    go_enter Tryd.func28, Tryd.ntmps28
    go_wp2
    go_ret2
    rw [HN.out]
    exact ⟨_, rfl, World.ownsRow_nil _ _ _ _, Below.refl _ _⟩
  obtain ⟨h0', _⟩ := not_empty (s := s) (by omega)
  have hcut := splitC_any s w hsh (by omega)
  have hle := cutB_le s 58
  have HGR : Hid (G = gFrom last (cutB s 58)) := by show _ = _; rw [HG.out, groupsS, if_neg h0]
  have hpz : ∀ x, x ∈ cutB s 58 → x.size ≤ 2000000 := by
    intro x hx
    have hm : x.data.toList ∈ (cutB s 58).map (·.data.toList) := List.mem_map.2 ⟨x, hx, rfl⟩
    rw [cutB_data] at hm
    have := cutP_small 58 s.data.toList _ hm
    simp at this
    omega
  unfold PartsC at hcut
  obtain ⟨i0, hi, hz0, hz1, hz2⟩ := info_parts Tryd.infoU8x
  have hll : (cutB s 58).length ≤ 201 := by omega
  clear HG hle h0
  generalize cutB s 58 = ls at *
  have hst := Nm.hide (g_start last ls)
  have HSH : Hid (w.ShapedOpen Tryd.prog) := hsh
  have HPZ := Nm.hide hpz
  have hll' : (ls.length : Int) ≤ 201 := by omega
  clear hsh hpz hs
  go_enter Tryd.func28, Tryd.ntmps28
  go_wp2_with (go_at_call 45; refine hcut.mono ?_; rintro e w1 ⟨v, rfl, ⟨rfl, hcell⟩, hb1⟩; refine Hid.out ?_)
  have hb1s := hb1.size
  clear hcut
  refine Nm.hide ?_
  go_wp2
  go_loopw [6, 20] (fun v i wr => ∃ (k n : Nat) (l : List UInt8), k ≤ ls.length ∧ n ≤ 4 * k ∧ i = .int .i64 k ∧ Hid (GAt last ls k l) ∧ wr.ownsRow w1.heap.size 5 1 v n (Nm.bys l) ∧ Below w1.heap.size w1 wr)
    (fun _ i _ => ls.length - (intOf i).toNat)
  case atStart => exact ⟨0, 0, [], by omega, by omega, rfl, hst, World.ownsRow_nil _ _ _ _, Below.refl _ _⟩
  case round =>
    obtain ⟨k, n, l, hk, hn4, rfl, HV, hown, hbel⟩ := hrel
    clear hst
    have hsz := hbel.size
    by_cases hlt : k < ls.length
    · have hlt' : (k : Int) < (ls.length : Int) := by omega
      obtain ⟨p, hp⟩ : ∃ p, ls[k]? = some p := ⟨_, List.getElem?_eq_getElem hlt⟩
      have hcp : wr.cell? ⟨w.heap.size, k, none⟩ = some (.string p) := (hbel.cell (World.block_lt_of_cell? w1 _ (hcell k p hp))).trans (hcell k p hp)
      have hgrp := fun W => readGroup_any p W
      by_cases hlast : last = true ∧ k + 1 = ls.length
      · obtain ⟨rfl, hkl⟩ := hlast
        have ht : ((k : Int) == (ls.length : Int) - 1) = true := by rw [beq_iff_eq]; omega
        have h4 := implReadV4_any p wr (shaped_below HSH.out (Nm.below_two hb1 hbel)) (HPZ.out p (List.mem_of_getElem? hp))
        obtain ⟨q, c, hqc⟩ : ∃ q c, readV4S p = (q, c) := ⟨_, _, rfl⟩
        rw [hqc] at h4
        simp only [strV] at h4
        by_cases hc : c = 0
        · subst hc
          have hq4 : q.size = 4 := by
            have := v4_four (p := p) (by rw [hqc])
            rw [hqc] at this
            simpa using this
          have HN : Hid (G = some (l ++ q.data.toList)) := by
            show _ = _
            rw [HGR.out]
            exact g_end (g_next HV.out hp (by rw [decide_eq_true hkl]; exact part_4 hqc)) (by omega)
          clear hgrp hqc hp HV HGR
          go_wp2_with (first | (go_at_call 9; refine h4.mono ?_; rintro e w2 ⟨rfl, hb2⟩; have hown2 := own_below hown hb2; have hbel2 := hbel.trans (hb2.mono hsz); have hsz2 := hbel2.size) | (at_builtin; refine Go.Lib.wpList_append_own_string _ rfl (.tmp 40) (.tmp 41) 22 9 rfl w1.heap.size 5 i0 Tryd.underlying22 Tryd.underlying9 hi hz0 hz1 hz2 _ _ _ rfl hown2 q rfl (by unfold maxLen; omega) (by omega) hsz2 ?_; intro vb wb hown3 hgrow3 hnl3; clear hnl3; have R3 := Nm.bys_step_str hsz2 hown2 hbel2 hown3 hgrow3; clear hown3 hgrow3))
          go_ret2
          rw [HN.out]
          refine ⟨_, rfl, ?_, Nm.below_two hb1 R3.2⟩
          have hl : n = l.length := by have := hown.1; rw [Nm.bys_length] at this; omega
          have e : ((some (l ++ q.data.toList)).getD []).length = n + q.size := by simp [hl]
          rw [e]
          exact own_base R3.1 hb1s
        · have hc' : (c == 0) = false := by rw [beq_eq_false_iff_ne]; exact hc
          have hg := part_g hqc hc (true && decide (k + 1 = ls.length))
          cases hO : grpO p with
          | none =>
            rw [hO] at hg hgrp
            have HN : Hid (G = none) := by show _ = _; rw [HGR.out]; exact g_bad HV.out hp hg
            simp only [grp2V, grp2W] at hgrp
            clear hqc hp HV HGR hO hg hc hown
            go_wp2_with (first | (go_at_call 9; refine h4.mono ?_; rintro e w2 ⟨rfl, hb2⟩) | (go_at_call 46; refine (hgrp _).mono ?_; rintro e w3 ⟨rfl, hw⟩; subst hw))
            go_ret2
            rw [HN.out]
            exact ⟨_, rfl, World.ownsRow_nil _ _ _ _, Nm.below_two hb1 (by first | exact hbel | exact hbel.trans (hb2.mono hsz))⟩
          | some m =>
            rw [hO] at hg hgrp
            have HN := Nm.hide (g_next HV.out hp hg)
            have HZ := Nm.hide (bys_put2 (grpO_lt hO))
            simp only [grp2V, grp2W] at hgrp
            generalize ((m : Int) / 256) = A at *
            generalize ((m : Int) % 256) = B at *
            clear hqc hp HV HGR hO hg hc
            go_wp2_with (first | (go_at_call 9; refine h4.mono ?_; rintro e w2 ⟨rfl, hb2⟩; have hown2 := own_below hown hb2; have hbel2 := hbel.trans (hb2.mono hsz); have hsz2 := hbel2.size) | (go_at_call 46; refine (hgrp _).mono ?_; rintro e w3 ⟨rfl, hw⟩; subst hw) | (at_builtin; refine wpList_append_own _ rfl (.tmp 50) (.tmp 51) 22 rfl w1.heap.size 5 i0 (.int .u8 0) 1 1 Tryd.underlying22 hi hz0 hz1 hz2 rfl (by decide) _ _ _ rfl (hown2.alloc _) ⟨w2.heap.size, 0, none⟩ 2 2 [.int .u8 A, .int .u8 B] rfl rfl (cell_two _ _ _ _) (two_one _ _ rfl rfl) (by unfold maxLen; omega) (by omega) (by simp; omega) ?_))
            intro v' w4 hown' hgrow _
            obtain ⟨X, HX, o4, b4, z4⟩ := two_step (by first | exact hsz | exact hsz2) HZ.out (by first | exact hown2 | exact hown) (by first | exact hbel2 | exact hbel) _ hown' hgrow
            clear hown' hgrow hown hbel
            go_wp2
            go_roundw
            case rel => exact ⟨k + 1, n + 2, X, by omega, by omega, by go_num, by show GAt _ _ _ _; rw [HX.out]; exact HN.out, o4, b4⟩
            case measure => simp [intOf]; omega
      · have hg : gPart p (last && decide (k + 1 = ls.length)) = (grpO p).map put2 := by
          have e : (last && decide (k + 1 = ls.length)) = false := by
            rw [Bool.eq_false_iff]
            intro h
            rw [Bool.and_eq_true, decide_eq_true_eq] at h
            exact hlast h
          rw [e]; exact part_n
        have ht : last = true → ((k : Int) == (ls.length : Int) - 1) = false := by
          intro hl
          rw [beq_eq_false_iff_ne]
          intro e
          exact hlast ⟨hl, by omega⟩
        cases hO : grpO p with
        | none =>
          rw [hO] at hg hgrp
          have HN : Hid (G = none) := by show _ = _; rw [HGR.out]; exact g_bad HV.out hp hg
          simp only [grp2V, grp2W] at hgrp
          clear hp HV HGR hO hg hlast hown
          cases last with
          | true =>
            have ht' := ht rfl
            clear ht
            go_wp2_with (go_at_call 46; refine (hgrp _).mono ?_; rintro e w3 ⟨rfl, hw⟩; subst hw)
            go_ret2
            rw [HN.out]
            exact ⟨_, rfl, World.ownsRow_nil _ _ _ _, Nm.below_two hb1 (by first | exact hbel | exact hbel.trans (hb2.mono hsz))⟩
          | false =>
            clear ht
            go_wp2_with (go_at_call 46; refine (hgrp _).mono ?_; rintro e w3 ⟨rfl, hw⟩; subst hw)
            go_ret2
            rw [HN.out]
            exact ⟨_, rfl, World.ownsRow_nil _ _ _ _, Nm.below_two hb1 (by first | exact hbel | exact hbel.trans (hb2.mono hsz))⟩
        | some m =>
          rw [hO] at hg hgrp
          have HN := Nm.hide (g_next HV.out hp hg)
          have HZ := Nm.hide (bys_put2 (grpO_lt hO))
          simp only [grp2V, grp2W] at hgrp
          generalize ((m : Int) / 256) = A at *
          generalize ((m : Int) % 256) = B at *
          clear hp HV HGR hO hg hlast
          cases last with
          | true =>
            have ht' := ht rfl
            clear ht
            go_wp2_with (first | (go_at_call 46; refine (hgrp _).mono ?_; rintro e w3 ⟨rfl, hw⟩; subst hw) | (at_builtin; refine wpList_append_own _ rfl (.tmp 50) (.tmp 51) 22 rfl w1.heap.size 5 i0 (.int .u8 0) 1 1 Tryd.underlying22 hi hz0 hz1 hz2 rfl (by decide) _ _ _ rfl (hown.alloc _) ⟨wr.heap.size, 0, none⟩ 2 2 [.int .u8 A, .int .u8 B] rfl rfl (cell_two _ _ _ _) (two_one _ _ rfl rfl) (by unfold maxLen; omega) (by omega) (by simp; omega) ?_))
            intro v' w4 hown' hgrow _
            obtain ⟨X, HX, o4, b4, z4⟩ := two_step (by first | exact hsz | exact hsz2) HZ.out (by first | exact hown2 | exact hown) (by first | exact hbel2 | exact hbel) _ hown' hgrow
            clear hown' hgrow hown hbel
            go_wp2
            go_roundw
            case rel => exact ⟨k + 1, n + 2, X, by omega, by omega, by go_num, by show GAt _ _ _ _; rw [HX.out]; exact HN.out, o4, b4⟩
            case measure => simp [intOf]; omega
          | false =>
            clear ht
            go_wp2_with (first | (go_at_call 46; refine (hgrp _).mono ?_; rintro e w3 ⟨rfl, hw⟩; subst hw) | (at_builtin; refine wpList_append_own _ rfl (.tmp 50) (.tmp 51) 22 rfl w1.heap.size 5 i0 (.int .u8 0) 1 1 Tryd.underlying22 hi hz0 hz1 hz2 rfl (by decide) _ _ _ rfl (hown.alloc _) ⟨wr.heap.size, 0, none⟩ 2 2 [.int .u8 A, .int .u8 B] rfl rfl (cell_two _ _ _ _) (two_one _ _ rfl rfl) (by unfold maxLen; omega) (by omega) (by simp; omega) ?_))
            intro v' w4 hown' hgrow _
            obtain ⟨X, HX, o4, b4, z4⟩ := two_step (by first | exact hsz | exact hsz2) HZ.out (by first | exact hown2 | exact hown) (by first | exact hbel2 | exact hbel) _ hown' hgrow
            clear hown' hgrow hown hbel
            go_wp2
            go_roundw
            case rel => exact ⟨k + 1, n + 2, X, by omega, by omega, by go_num, by show GAt _ _ _ _; rw [HX.out]; exact HN.out, o4, b4⟩
            case measure => simp [intOf]; omega
    · have hlt' : (ls.length : Int) ≤ (k : Int) := by omega
      have HN : Hid (G = some l) := by show _ = _; rw [HGR.out]; exact g_end HV.out (by omega)
      have hl : n = l.length := by have := hown.1; rw [Nm.bys_length] at this; omega
      clear HV HGR
      go_wp2
      go_ret2
      rw [HN.out]
      subst hl
      exact ⟨_, rfl, own_base hown hb1s, Nm.below_two hb1 hbel⟩
end Go.Proofs.YtjokdmmlofbknaaDoor
