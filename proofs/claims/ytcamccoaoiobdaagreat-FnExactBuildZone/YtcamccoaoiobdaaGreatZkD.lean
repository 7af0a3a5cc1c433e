import Derived.Test.YtcamccoaoiobdaaGreatJMark
import Derived.Deep.RegionHeld3
/- laws.markZone and heldZone: their walks. -/
namespace Go.Proofs.YtcamccoaoiobdaaGreat
open Go.RowKit
set_option linter.unusedVariables false

theorem grown_none {w w' : World} (h : Below w.heap.size w w') : w.grownBy w' none := ⟨h.os, h.tape, h.output, h.size, fun k hk _ => h.block k hk⟩
/-- The blocks of a zone's sets. -/
def zfp (v : Value) (ps : List Zp) : List Nat := v.ownBlock.toList ++ ps.flatMap fun p => p.2.ownBlock.toList
theorem gr_outs {fp : List Nat} {w W W' : World} {row : Option Nat} (h : Outs fp w W) (hg : W.grownBy W' row) (hr : ∀ g, row = some g → g ∈ fp) : Outs fp w W' :=
  ⟨hg.os.trans h.os, hg.tape.trans h.tape, hg.output.trans h.output, Nat.le_trans h.size hg.size, fun k hk hn => (hg.block k (Nat.lt_of_lt_of_le hk h.size) (fun e => hn (hr k e.symm))).trans (h.block k hk hn)⟩
theorem mkZ_snd : ∀ (ps : List Zp) (k : Nat), (mkZ k ps).map (·.2) = ps.map (·.2) := by
  intro ps
  induction ps with
  | nil => intro k; rfl
  | cons p ps ih => intro k; simp [mkZ, mkZp, ih]

set_option maxRecDepth 100000 in
set_option maxHeartbeats 1600000 in
theorem markSetS_own (v : Value) (qs : List Zp) (B k : Nat) (w : World) (h : ZOwn w B v qs) (hn : zl qs ≤ 400000) (hk : k ≤ 100000) :
    Calls Tryz.prog 28 #[v, .int .i64 (k : Int)] w fun e w' => e = .returned (.int .i64 ((k + zl qs : Nat) : Int)) ∧ ZOwn w' B v (mkZ k qs) ∧ Outs (zfp v qs) w w' := by
  have hql := zl_len qs
  have hmt := fun (j : Nat) (hj : j ≤ 1000000000) W => markText_any j W hj
  obtain ⟨a, cap, rfl⟩ := own_sl h.outer
  have hgex : 0 < qs.length → ∃ g, a = some ⟨g, 0, none⟩ := fun hp => by
    rcases h.outer.2 with ⟨e, h0⟩ | ⟨g, c, cur, e, _⟩
    · omega
    · cases e; exact ⟨g, rfl⟩
  have H0 := Nm.hide h
  clear h
  go_enter Tryz.func28, Tryz.ntmps28
  go_wp2
  go_loopw [1, 5] (fun t i wr => ∃ j : Nat, j ≤ qs.length ∧ i = .int .i64 (j : Int) ∧ t = .int .i64 ((k : Int) + (zl (qs.take j) : Int)) ∧ ZOwn wr B (.slice a qs.length cap) ((mkZ k qs).take j ++ qs.drop j) ∧ Outs (zfp (.slice a qs.length cap) qs) w wr) (fun _ i _ => qs.length - (intOf i).toNat)
  case atStart => exact ⟨0, Nat.zero_le _, rfl, by simp [zl], by simpa using H0.out, Outs.below (Below.refl _ _)⟩
  case round =>
    obtain ⟨j, hj, rfl, rfl, hz, hou⟩ := hrel
    by_cases hlt : j < qs.length
    · obtain ⟨q, hq⟩ : ∃ q, qs[j]? = some q := ⟨_, List.getElem?_eq_getElem hlt⟩
      obtain ⟨g, rfl⟩ := hgex (by omega)
      have hmx := mixZ_at (k := k) hq
      have hst := zl_step qs j q hq
      have hle := zl_take_le qs (j + 1)
      have hone := hmt (k + zl (qs.take j)) (by omega) wr
      rw [show ((k + zl (qs.take j) : Nat) : Int) = (k : Int) + (zl (qs.take j) : Int) by omega] at hone
      have hin := hz.inner j q hmx
      obtain ⟨qa, qc, eq⟩ := own_sl hin
      have hlen9 : ((mkZ k qs).take j ++ qs.drop j).length = qs.length := by rw [List.length_append, List.length_take, mkZ_len, List.length_drop]; omega
      have hms : ∀ W, ZOwn W B (.slice (some ⟨g, 0, none⟩) qs.length cap) (((mkZ k qs).take j ++ qs.drop j).set j (⟨mkS (k + zl (qs.take j)), ((k + zl (qs.take j) + 1 : Nat) : Int), ((k + zl (qs.take j) + 2 : Nat) : Int), q.1.da⟩, q.2)) → Calls Tryz.prog 56 #[.slice qa q.1.da.length qc, .int .i64 ((k : Int) + (zl (qs.take j) : Int) + 1 + 1 + 1)] W fun e w' => e = .returned (.int .i64 ((k : Int) + (zl (qs.take (j + 1)) : Int))) ∧ ZOwn w' B (.slice (some ⟨g, 0, none⟩) qs.length cap) ((mkZ k qs).take (j + 1) ++ qs.drop (j + 1)) ∧ W.grownBy w' q.2.ownBlock := by
        intro W hW
        have hget : (((mkZ k qs).take j ++ qs.drop j).set j (⟨mkS (k + zl (qs.take j)), ((k + zl (qs.take j) + 1 : Nat) : Int), ((k + zl (qs.take j) + 2 : Nat) : Int), q.1.da⟩, q.2))[j]? = some (⟨mkS (k + zl (qs.take j)), ((k + zl (qs.take j) + 1 : Nat) : Int), ((k + zl (qs.take j) + 2 : Nat) : Int), q.1.da⟩, q.2) := by
          rw [List.getElem?_set]
          simp only [if_true]
          rw [if_pos (by omega)]
        have hi2 := hW.inner j _ hget
        simp only at hi2
        have hm9 := markStringS_own q.2 q.1.da.length B (k + zl (qs.take j) + 3) _ W hi2 (by omega) (by omega)
        rw [eq] at hm9
        rw [show ((k + zl (qs.take j) + 3 : Nat) : Int) = (k : Int) + (zl (qs.take j) : Int) + 1 + 1 + 1 by omega] at hm9
        refine hm9.mono ?_
        rintro e w' ⟨rfl, ho, hg⟩
        refine ⟨by rw [show (k + zl (qs.take j) + 3 + q.1.da.length : Nat) = k + zl (qs.take (j + 1)) by omega]; congr 2, ?_, by rw [eq]; exact hg⟩
        have hd := hW.data (da := mks (k + zl (qs.take j) + 3) q.1.da.length) hget (by rw [mks_len]) (by rw [eq]; exact ho) (by rw [eq]; exact hg)
        rw [List.set_set] at hd
        rw [← mixZ_set hq]
        exact hd
      have hc0 : ∀ W, wr.grownBy W none → W.cell? ⟨g, j * 4, none⟩ = some (.string q.1.own) ∧ W.cell? ⟨g, j * 4 + 1, none⟩ = some (.int .i64 q.1.ty) ∧ W.cell? ⟨g, j * 4 + 2, none⟩ = some (.int .i64 q.1.tt) ∧ W.cell? ⟨g, j * 4 + 3, none⟩ = some (.slice qa q.1.da.length qc) := by
        have ho := hz.outer
        rw [hlen9] at ho
        have c0 := (ho.cellAt (j * 4) (by omega)).trans (zpVs_at _ j 0 q hmx (by decide))
        have c1 := (ho.cellAt (j * 4 + 1) (by omega)).trans (zpVs_at _ j 1 q hmx (by decide))
        have c2 := (ho.cellAt (j * 4 + 2) (by omega)).trans (zpVs_at _ j 2 q hmx (by decide))
        have c3 := (ho.cellAt (j * 4 + 3) (by omega)).trans (zpVs_at _ j 3 q hmx (by decide))
        rw [← eq]
        intro W hW
        have hk := fun (i : Nat) => World.cell?_of_block (w := wr) (w' := W) (a := ⟨g, i, none⟩) (hW.block g (World.block_lt_of_cell? wr _ c0) (by simp))
        exact ⟨(hk _).trans c0, (hk _).trans c1, (hk _).trans c2, (hk _).trans c3⟩
      have hfz : ∀ W i, wr.grownBy W none → W.frozen? ⟨g, i, none⟩ = false := by
        intro W i hW
        have ho := own_besideZ hz.outer hW (fun g e => by cases e)
        rw [hlen9] at ho
        exact ho.frozenAt i
      have hgq : g ∈ zfp (.slice (some ⟨g, 0, none⟩) qs.length cap) qs := by simp [zfp, Value.ownBlock]
      have hqq : ∀ g', q.2.ownBlock = some g' → g' ∈ zfp (.slice (some ⟨g, 0, none⟩) qs.length cap) qs := fun g' e => by
        simp only [zfp, List.mem_append, List.mem_flatMap]
        exact .inr ⟨q, List.mem_of_getElem? hq, by rw [e]; simp⟩
      have hstores : ∀ W, Below wr.heap.size wr W → ZOwn (((W.setCell ⟨g, j * 4, none⟩ (.string (mkS (k + zl (qs.take j))))).setCell ⟨g, j * 4 + 1, none⟩ (.int .i64 ((k : Int) + (zl (qs.take j) : Int) + 1))).setCell ⟨g, j * 4 + 2, none⟩ (.int .i64 ((k : Int) + (zl (qs.take j) : Int) + 1 + 1))) B (.slice (some ⟨g, 0, none⟩) qs.length cap) (((mkZ k qs).take j ++ qs.drop j).set j (⟨mkS (k + zl (qs.take j)), ((k + zl (qs.take j) + 1 : Nat) : Int), ((k + zl (qs.take j) + 2 : Nat) : Int), q.1.da⟩, q.2)) := by
        intro W hW
        have z1 := hz.below hW
        have zA := ZOwn.cell (i := 0) (y := .string (mkS (k + zl (qs.take j)))) (q := (⟨mkS (k + zl (qs.take j)), q.1.ty, q.1.tt, q.1.da⟩, q.2)) z1 hlen9.symm hmx (by decide) rfl rfl rfl
        have gA : (((mkZ k qs).take j ++ qs.drop j).set j (⟨mkS (k + zl (qs.take j)), q.1.ty, q.1.tt, q.1.da⟩, q.2))[j]? = some (⟨mkS (k + zl (qs.take j)), q.1.ty, q.1.tt, q.1.da⟩, q.2) := by
          rw [List.getElem?_set]
          simp only [if_true]
          rw [if_pos (by omega)]
        have zB := ZOwn.cell (i := 1) (y := .int .i64 ((k : Int) + (zl (qs.take j) : Int) + 1)) (q := (⟨mkS (k + zl (qs.take j)), (k : Int) + (zl (qs.take j) : Int) + 1, q.1.tt, q.1.da⟩, q.2)) zA (by rw [List.length_set, hlen9]) gA (by decide) rfl rfl rfl
        rw [List.set_set] at zB
        have gB : (((mkZ k qs).take j ++ qs.drop j).set j (⟨mkS (k + zl (qs.take j)), (k : Int) + (zl (qs.take j) : Int) + 1, q.1.tt, q.1.da⟩, q.2))[j]? = some (⟨mkS (k + zl (qs.take j)), (k : Int) + (zl (qs.take j) : Int) + 1, q.1.tt, q.1.da⟩, q.2) := by
          rw [List.getElem?_set]
          simp only [if_true]
          rw [if_pos (by omega)]
        have zC := ZOwn.cell (i := 2) (y := .int .i64 ((k : Int) + (zl (qs.take j) : Int) + 1 + 1)) (q := (⟨mkS (k + zl (qs.take j)), (k : Int) + (zl (qs.take j) : Int) + 1, (k : Int) + (zl (qs.take j) : Int) + 1 + 1, q.1.da⟩, q.2)) zB (by rw [List.length_set, hlen9]) gB (by decide) rfl rfl rfl
        rw [List.set_set] at zC
        rw [show ((k + zl (qs.take j) + 1 : Nat) : Int) = (k : Int) + (zl (qs.take j) : Int) + 1 by omega, show ((k + zl (qs.take j) + 2 : Nat) : Int) = (k : Int) + (zl (qs.take j) : Int) + 1 + 1 by omega]
        exact zC
      have HH := Nm.hide (And.intro hstores (And.intro hms (And.intro hc0 (And.intro hfz (And.intro hgq (And.intro hqq hou))))))
      have i1 : (0 : Int) ≤ (j : Int) := by omega
      have i2 : (j : Int) < (qs.length : Int) := by omega
      have hzb : zl (qs.take j) ≤ 400000 := by omega
      clear hstores hms hc0 hfz hgq hqq hou hz hmx hin eq hlen9 hmt hq hst
      generalize hz0 : zl (qs.take j) = z0 at *
      have HZ0 := Nm.hide hz0
      clear hz0
      generalize hz1 : zl (qs.take (j + 1)) = z1 at *
      have HZ1 := Nm.hide hz1
      clear hz1
      go_wp2_with (first
        | (go_at_call 27
           refine hone.mono ?_
           rintro e w1 ⟨rfl, hb1⟩
           have hgn := grown_none hb1
           obtain ⟨c0, c1, c2, c3⟩ := HH.out.2.2.1 w1 hgn
           have f1 := fun i => HH.out.2.2.2.1 w1 i hgn)
        | (go_at_call 56
           refine (HH.out.2.1 _ (HH.out.1 w1 hb1)).mono ?_
           rintro e w5 ⟨rfl, hz5, hg5⟩))
      go_roundw
      case rel =>
        refine ⟨j + 1, by omega, by go_num, by rw [HZ1.out], hz5, ?_⟩
        have o1 := HH.out.2.2.2.2.2.2.trans (Outs.below (fp := zfp (.slice (some ⟨g, 0, none⟩) qs.length cap) qs) hb1) (fun k hk => .inl hk)
        have gm : ∀ g', some g = some g' → g' ∈ zfp (.slice (some ⟨g, 0, none⟩) qs.length cap) qs := fun g' e => by cases e; exact HH.out.2.2.2.2.1
        exact gr_outs (gr_outs (gr_outs (gr_outs o1 (gr_set _ g _ _) gm) (gr_set _ g _ _) gm) (gr_set _ g _ _) gm) hg5 HH.out.2.2.2.2.2.1
      case measure => simp [intOf]; omega
    · have hjn : j = qs.length := by omega
      subst hjn
      rw [List.drop_length, List.append_nil, List.take_of_length_le (by rw [mkZ_len]; exact Nat.le_refl _)] at hz
      clear hmt
      have i2 : (qs.length : Int) ≤ (qs.length : Int) := by omega
      rw [List.take_length]
      go_wp2
      go_ret
      exact ⟨by rw [show ((k + zl qs : Nat) : Int) = (k : Int) + (zl qs : Int) by omega]; rfl, hz, hou⟩
end Go.Proofs.YtcamccoaoiobdaaGreat
