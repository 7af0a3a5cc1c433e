import Derived.Test.YthhagapmcbkeiaaJIwN
import Derived.Test.YthhagapmcbkeiaaJMvM
import Derived.Test.YthhagapmcbkeiaaJWtN
import Derived.Test.YthhagapmcbkeiaaRows
import Derived.RegionTactic
import Derived.BigRegion
import Derived.Test.YthhagapmcbkeiaaJShL8
import Derived.WalkSpells
import Derived.WalkLawsBesides
/- (*writer).name by its contract. -/
namespace Go.Proofs.Ythhagapmcbkeiaa
open Go.RowKit
set_option linter.unusedVariables false

theorem zeroI (w : World) : (zeroValue 3).run Try.prog w = .ok (.int .i64 0) w := by kernel_rfl
theorem map_look {w : World} {r : Nat} {L : List (ByteArray × Nat)} (h : SMap w r L) {x : ByteArray} (hx : x.size ≤ maxLen) :
    (Instr.lookup 91 (.map (some r)) (.string x) true).run Try.prog w = .ok (.tuple #[.int .i64 (if 0 ≤ seenS L x then seenS L x else 0), .bool (decide (0 ≤ seenS L x))]) w :=
  h.get (k := 9) (e := 3) Try.underlying9 Try.underlying91 (zeroI w) hx
theorem map_put {w : World} {r : Nat} {L : List (ByteArray × Nat)} (h : SMap w r L) {x : ByteArray} (hx : x.size ≤ maxLen) (n : Nat) (hn : seenS L x < 0) :
    ∃ w', (Instr.mapUpdate 91 (.map (some r)) (.string x) (.int .i64 (n : Int))).run Try.prog w = .ok () w' ∧ SMap w' r (L ++ [(x, n)]) ∧ w.grownBy w' (some r) :=
  h.put (k := 9) (e := 3) Try.underlying9 Try.underlying91 hx n (seenS_not hn)

set_option maxRecDepth 100000 in
set_option maxHeartbeats 3200000 in
theorem name_w_any (s : ByteArray) (ls0 : List ByteArray) (hs : Nm.split s = some ls0) (g B r : Nat) (bs : List UInt8) (pls : List (ByteArray × Nat)) (vb : Value) (w : World) (h : PM w g B r bs pls vb) (hB : B ≤ w.heap.size) (hl : bs.length + 256 ≤ 50000000) (hok : PlOK pls bs.length) :
    Calls Try.prog 48 #[.pointer (some ⟨g, 0, none⟩), .string s] w fun e w' => e = .returned (.tuple #[]) ∧ ∃ vb', PM w' g B r (nmW ls0 bs pls).1 (nmW ls0 bs pls).2 vb' ∧ Bp B w w' := by
  obtain ⟨i0, hi, hz0, hz1, hz2⟩ := info_parts Try.infoU8w
  have hsz := Nm.split_size hs
  have hxs := (Nm.split_join hs).2
  obtain rfl := nmB_split hs
  generalize hRES : nmW ls0 bs pls = RES
  have hbd : bs.length + Nm.wsum ls0 + 1 ≤ 50000000 := by omega
  have hws0 : Nm.wsum ls0 ≤ 254 := by omega
  clear hsz hs hl
  go_enter Try.func48, Try.ntmps48
  go_wp2
  go_loopw [4] (fun nv wr => ∃ (ls : List ByteArray) (bs' : List UInt8) (pls' : List (ByteArray × Nat)) (vb' : Value), nv = .string (nmB ls) ∧ PM wr g B r bs' pls' vb' ∧ B ≤ wr.heap.size ∧ Bp B w wr ∧ PlOK pls' bs'.length ∧ (∀ x ∈ ls, 1 ≤ x.size ∧ x.size ≤ 63) ∧ bs'.length + Nm.wsum ls + 1 ≤ 50000000 ∧ Nm.wsum ls ≤ 254 ∧ Hid (nmW ls bs' pls' = RES)) (fun nv _ => match nv with | .string t => t.size | _ => 0)
  case atStart => exact ⟨ls0, bs, pls, vb, rfl, h, hB, Bp.refl _ _, hok, hxs, hbd, hws0, hRES⟩
  case round =>
    obtain ⟨ls, bs', pls', vb', rfl, hS, hBw, hbel, hok', hxs', hbd', hws', HR⟩ := hrel
    clear h hB hok hxs hbd hRES hws0
    obtain ⟨xa, ya, hv⟩ := own_sl hS.pw.rb
    subst hv
    have c0 : wr.cell? ⟨g, 0, none⟩ = some (.slice xa bs'.length ya) := (blk_cell hS.pw.blk 0).trans rfl
    have c1 : wr.cell? ⟨g, 1, none⟩ = some (.map (some r)) := (blk_cell hS.pw.blk 1).trans rfl
    have f0 := blk_frozen hS.pw.blk 0
    cases ls with
    | nil =>
      have e1 := nmB_nil
      obtain rfl : (bs' ++ [0], pls') = RES := HR.out
      clear HR
      generalize nmB [] = N0 at *
      go_wp2_with (at_builtin; refine Go.Lib.wpList_append_own_string _ rfl (.tmp 63) _ 22 9 rfl B 5 i0 Try.underlying22 Try.underlying9 hi hz0 hz1 hz2 _ _ _ rfl hS.pw.rb ⟨#[0]⟩ rfl (by unfold maxLen; show bs'.length + 1 ≤ _; omega) (by show bs'.length + 1 ≤ _; omega) hBw ?_)
      intro va wa hown9 hgrow9 hnl9
      clear hnl9
      rw [Nm.bys_str, ← Nm.bys_append] at hown9
      obtain ⟨xb, yb, hvb⟩ := own_sl hown9
      have hblk9 := blk_grown hS.pw.blk hgrow9 (fun e => own_blk hS.pw.rb hS.pw.blk (by decide) e)
      have b9 : Bw B wr wa := (Bw.refl B wr).app hS.pw.rb hgrow9 hBw
      have c9 : wa.cell? ⟨g, 0, none⟩ = some (.slice xa bs'.length ya) := (blk_cell hblk9 0).trans rfl
      have f9 := blk_frozen hblk9 0
      rw [hvb] at hown9 ⊢
      have hlen : bs'.length + (⟨#[0]⟩ : ByteArray).size = (bs' ++ [0]).length := by simp; rfl
      have hS10 : PW (wa.setCell ⟨g, 0, none⟩ (.slice xb (bs'.length + (⟨#[0]⟩ : ByteArray).size) yb)) g B (bs' ++ [0]) (.slice xb (bs'.length + (⟨#[0]⟩ : ByteArray).size) yb) (.map (some r)) := ⟨blk_set hblk9 0 _, by rw [← hlen]; exact own_far hown9 (own_blk hown9 hblk9 (by decide)), hS.pw.bg⟩
      have b10 := b9.set hblk9 hS.pw.bg 0 (.slice xb (bs'.length + (⟨#[0]⟩ : ByteArray).size) yb)
      have hM10 := hS.after hS10 b10
      have k10 := hbel.trans (Bp.ofw b10)
      clear hown9 hgrow9 hblk9 b9 hS10 b10
      go_wp2
      refine bodyPost_end (v := .tuple #[]) ?_ rfl ⟨rfl, ⟨_, hM10⟩, k10⟩
      simp [results, go_sem]
    | cons l ls =>
      obtain ⟨x1, x2⟩ := hxs' l (List.mem_cons_self ..)
      have e1 := nmB_ne l ls x1
      have hws : Nm.wsum (l :: ls) = 1 + l.size + Nm.wsum ls := by simp [Nm.wsum]
      have hnz := nmB_size (l :: ls)
      have hnm : (nmB (l :: ls)).size ≤ maxLen := by unfold maxLen; omega
      have hget := map_look hS.mp hnm
      obtain ⟨s1, s2⟩ := seenS_lt hok' (nmB (l :: ls))
      by_cases hsn : 0 ≤ seenS pls' (nmB (l :: ls))
      · obtain ⟨q, hq⟩ : ∃ q : Nat, seenS pls' (nmB (l :: ls)) = (q : Int) := ⟨_, (Int.toNat_of_nonneg hsn).symm⟩
        have HE : (bs' ++ put2 (49152 + q), pls') = RES := by
          rw [← HR.out, nmW, if_pos hsn, hq, Int.toNat_natCast]
        clear HR
        subst HE
        have hq2 : (q : Int) ≤ 16383 := by omega
        have hq0 : (0 : Int) ≤ (q : Int) := by omega
        rw [hq, if_pos hq0, decide_eq_true hq0] at hget
        have hput : ∀ W, Calls Try.prog 29 #[.int .i64 (49152 + (q : Int)), .int .i64 2] W fun e w' => e = .returned (.string ⟨(put2 (49152 + q)).toArray⟩) ∧ Below W.heap.size W w' := by
          intro W
          have := bigBytes2_any (49152 + q) W (by omega)
          rw [Int.natCast_add] at this
          exact this
        have hcall := number_w_any _ _ _ hput g B bs' _ (.map (some r)) wr hS.pw hBw (by show bs'.length + (put2 _).toArray.size ≤ _; simp [put2]; omega)
        have HP : (ByteArray.mk (put2 (49152 + q)).toArray).data.toList = put2 (49152 + q) := by simp
        rw [HP] at hcall
        clear HP s1 s2 hsn hq hxs' hput
        generalize nmB (l :: ls) = NB at *
        go_wp2_with (go_at_call 49; refine hcall.mono ?_; rintro e w6 ⟨rfl, vb6, hS6, hb6⟩)
        refine bodyPost_ret (v := .tuple #[]) ?_ rfl ⟨rfl, ⟨_, hS.after hS6 hb6⟩, hbel.trans (Bp.ofw hb6)⟩
        simp [results, go_sem]
      · have HR2 : Hid (nmW ls (bs' ++ (UInt8.ofNat l.size :: l.data.toList)) (if bs'.length ≤ 16383 then pls' ++ [(nmB (l :: ls), bs'.length)] else pls') = RES) := by
          have := HR.out
          rw [nmW, if_neg hsn] at this
          exact this
        rw [if_neg hsn, decide_eq_false hsn] at hget
        have hn0 : 0 < (nmB (l :: ls)).size := by omega
        have hidx := fun W => idx0 (nmB (l :: ls)) hn0 W
        rw [nmB_0 l ls x2 hn0] at hidx
        have hpre := nmB_pre l ls
        have hrest := nmB_rest l ls
        rw [Nat.add_comm l.size 1] at hpre hrest
        have hpz : ((nmB (l :: ls)).extract 0 (1 + l.size)).size = 1 + l.size := by rw [ByteArray.size_extract]; omega
        have hzl : (bs' ++ (UInt8.ofNat l.size :: l.data.toList)).length = bs'.length + (1 + l.size) := by simp; omega
        have hnz' : ((nmB (l :: ls)).size : Int) = 1 + l.size + Nm.wsum ls + 1 := by rw [hnz, hws]; omega
        have hxs2 : ∀ x ∈ ls, 1 ≤ x.size ∧ x.size ≤ 63 := fun x hx => hxs' x (List.mem_cons_of_mem _ hx)
        have hgt : ¬ (nmB ls).size ≥ (nmB (l :: ls)).size := by rw [hnz, hws, nmB_size]; omega
        clear HR s1 s2 hxs' hn0
        generalize nmB (l :: ls) = NB at *
        have hcr : 1 + (l.size : Int) ≤ (NB.size : Int) := by omega
        have hle0 : 0 ≤ 1 + (l.size : Int) := by omega
        have hto : (1 + (l.size : Int)).toNat = 1 + l.size := by omega
        clear hnz hnz'
        by_cases hsh : bs'.length ≤ 16383
        · rw [if_pos hsh] at HR2
          have hsh' : (bs'.length : Int) ≤ 16383 := by omega
          have hok2 := (hok'.put (p := (NB, bs'.length)) hsh).mono (m := (bs' ++ (UInt8.ofNat l.size :: l.data.toList)).length) (by simp)
          have hmp := map_put (hS.below (Below.refl _ _).drew).mp hnm bs'.length (by omega)
          obtain ⟨w5, hup, hm5, hg5⟩ := hmp
          have hS5 := (hS.below (Below.refl _ _).drew).put hm5 hg5
          have k5 := (hbel.trans (Bp.of (Below.refl _ _).drew hBw)).map (hS.below (Below.refl _ _).drew).mp hg5 hS.br
          have hB5 : B ≤ w5.heap.size := by have := blk_lt hS5.pw.blk; have := hS5.pw.bg; omega
          have c5 : w5.cell? ⟨g, 0, none⟩ = some (.slice xa bs'.length ya) := (blk_cell hS5.pw.blk 0).trans rfl
          have d5 : w5.cell? ⟨g, 1, none⟩ = some (.map (some r)) := (blk_cell hS5.pw.blk 1).trans rfl
          clear hm5 hg5
          go_wp2_with fail
          refine wp_region_last (fun W => W.cell? ⟨g, 0, none⟩ = some (.slice xa bs'.length ya) ∧ W.cell? ⟨g, 1, none⟩ = some (.map (some r))) 10 (by kernel_rfl) ⟨c0, c1⟩ (fun hHeld => ?_)
          refine wpAnyL_take (i := 0) (v := ?_) rfl (by kernel_rfl) (by kernel_rfl) (by kernel_rfl) (by kernel_rfl) (fun _ _ _ h => h) (Or.inl ⟨by rfl, ?_⟩) (by assumption) ?_
          rotate_left 1
          · (rintro w ⟨hSw1, hSw2⟩; go_simp; try (with_reducible rfl))
          refine wpAnyL_take (i := 1) (v := ?_) rfl (by kernel_rfl) (by kernel_rfl) (by kernel_rfl) (by kernel_rfl) (fun _ _ _ h => h) (Or.inl ⟨by rfl, ?_⟩) (by assumption) ?_
          rotate_left 1
          · (rintro w ⟨hSw1, hSw2⟩; go_simp; try (with_reducible rfl))
          refine wpAnyL_take (i := 2) (v := ?_) rfl (by kernel_rfl) (by kernel_rfl) (by kernel_rfl) (by kernel_rfl) (fun _ _ _ h => h) (Or.inl ⟨by rfl, ?_⟩) (by assumption) ?_
          rotate_left 1
          · (rintro w ⟨hSw1, hSw2⟩; go_simp; try (with_reducible rfl))
          refine wpAnyL_take (i := 3) (v := ?_) rfl (by kernel_rfl) (by kernel_rfl) (by kernel_rfl) (by kernel_rfl) (fun _ _ _ h => h) (Or.inl ⟨by rfl, ?_⟩) (by assumption) ?_
          rotate_left 1
          · (rintro w ⟨hSw1, hSw2⟩; go_simp; try (with_reducible rfl))
          refine wpAnyL_take (i := 4) (v := ?_) rfl (by kernel_rfl) (by kernel_rfl) (by kernel_rfl) (by kernel_rfl) (fun _ _ _ h => h) (Or.inl ⟨by rfl, ?_⟩) (by assumption) ?_
          rotate_left 1
          · (rintro w ⟨hSw1, hSw2⟩; go_simp; try (with_reducible rfl))
          refine wpAnyL_take (i := 5) (v := ?_) rfl (by kernel_rfl) (by kernel_rfl) (by kernel_rfl) (by kernel_rfl) (fun _ _ _ h => h) (Or.inl ⟨by rfl, ?_⟩) (by assumption) ?_
          rotate_left 1
          · (rintro w ⟨hSw1, hSw2⟩; go_simp; try (with_reducible rfl))
          refine wpAnyL_take (i := 6) (v := ?_) rfl (by kernel_rfl) (by kernel_rfl) (by kernel_rfl) (by kernel_rfl) (fun _ _ _ h => h) (Or.inl ⟨by rfl, ?_⟩) (by assumption) ?_
          rotate_left 1
          · (rintro w ⟨hSw1, hSw2⟩; go_simp; try (with_reducible rfl))
          refine wpAnyL_take (i := 7) (v := ?_) rfl (by kernel_rfl) (by kernel_rfl) (by kernel_rfl) (by kernel_rfl) (fun _ _ _ h => h) (Or.inl ⟨by rfl, ?_⟩) (by assumption) ?_
          rotate_left 1
          · (rintro w ⟨hSw1, hSw2⟩; go_simp; try (with_reducible rfl))
          refine wpAnyL_take (i := 8) (v := ?_) rfl (by kernel_rfl) (by kernel_rfl) (by kernel_rfl) (by kernel_rfl) (fun _ _ _ h => h) (Or.inl ⟨by rfl, ?_⟩) (by assumption) ?_
          rotate_left 1
          · (rintro w ⟨hSw1, hSw2⟩; go_simp; try (with_reducible rfl))
          refine wpAnyL_take (i := 9) (v := ?_) rfl (by kernel_rfl) (by kernel_rfl) (by kernel_rfl) (by kernel_rfl) (fun _ _ _ h => h) (Or.inl ⟨by rfl, ?_⟩) (by assumption) ?_
          rotate_left 1
          · (rintro w ⟨hSw1, hSw2⟩; go_simp; try (with_reducible rfl))
          refine wpAnyL_end (by kernel_rfl) rfl (by kernel_rfl) (fun K hK => ?_)
          go_simp
          refine hK.out _ _ ?_
          clear hK K hHeld
          go_wp2_with fail
          refine wp_region_last (fun W => W.cell? ⟨g, 0, none⟩ = some (.slice xa bs'.length ya) ∧ W.cell? ⟨g, 1, none⟩ = some (.map (some r))) 11 (by kernel_rfl) ⟨c5, d5⟩ (fun hHeld => ?_)
          refine wpAnyL_take (i := 0) (v := ?_) rfl (by kernel_rfl) (by kernel_rfl) (by kernel_rfl) (by kernel_rfl) (fun _ _ _ h => h) (Or.inl ⟨by rfl, ?_⟩) (by assumption) ?_
          rotate_left 1
          · (rintro w ⟨hSw1, hSw2⟩; go_simp; try (with_reducible rfl))
          refine wpAnyL_take (i := 1) (v := ?_) rfl (by kernel_rfl) (by kernel_rfl) (by kernel_rfl) (by kernel_rfl) (fun _ _ _ h => h) (Or.inl ⟨by rfl, ?_⟩) (by assumption) ?_
          rotate_left 1
          · (rintro w ⟨hSw1, hSw2⟩; go_simp; try (with_reducible rfl))
          refine wpAnyL_take (i := 2) (v := ?_) rfl (by kernel_rfl) (by kernel_rfl) (by kernel_rfl) (by kernel_rfl) (fun _ _ _ h => h) (Or.inl ⟨by rfl, ?_⟩) (by assumption) ?_
          rotate_left 1
          · (rintro w ⟨hSw1, hSw2⟩; go_simp; try (with_reducible rfl))
          refine wpAnyL_take (i := 3) (v := ?_) rfl (by kernel_rfl) (by kernel_rfl) (by kernel_rfl) (by kernel_rfl) (fun _ _ _ h => h) (Or.inl ⟨by rfl, ?_⟩) (by assumption) ?_
          rotate_left 1
          · (rintro w ⟨hSw1, hSw2⟩; go_simp; try (with_reducible rfl))
          refine wpAnyL_take (i := 4) (v := ?_) rfl (by kernel_rfl) (by kernel_rfl) (by kernel_rfl) (by kernel_rfl) (fun _ _ _ h => h) (Or.inl ⟨by rfl, ?_⟩) (by assumption) ?_
          rotate_left 1
          · (rintro w ⟨hSw1, hSw2⟩; go_simp; try (with_reducible rfl))
          refine wpAnyL_take (i := 5) (v := ?_) rfl (by kernel_rfl) (by kernel_rfl) (by kernel_rfl) (by kernel_rfl) (fun _ _ _ h => h) (Or.inl ⟨by rfl, ?_⟩) (by assumption) ?_
          rotate_left 1
          · (rintro w ⟨hSw1, hSw2⟩; go_simp; try (with_reducible rfl))
          refine wpAnyL_take (i := 6) (v := ?_) rfl (by kernel_rfl) (by kernel_rfl) (by kernel_rfl) (by kernel_rfl) (fun _ _ _ h => h) (Or.inl ⟨by rfl, ?_⟩) (by assumption) ?_
          rotate_left 1
          · (rintro w ⟨hSw1, hSw2⟩; go_simp; try (with_reducible rfl))
          refine wpAnyL_take (i := 7) (v := .string (NB.extract 0 (1 + l.size))) rfl (by kernel_rfl) (by kernel_rfl) (by kernel_rfl) (by kernel_rfl) (fun _ _ _ h => h) (Or.inl ⟨by rfl, ?_⟩) (by assumption) ?_
          · rintro w ⟨hSw1, hSw2⟩
            go_simp
            try rw [if_pos hle0]
          have hSd := hS5.below (Below.refl _ _).drew
          refine wpAnyL_one (i := 8) (by kernel_rfl) rfl (fun K hK => ?_)
          refine step_append_str rfl (.tmp 49) (.tmp 52) 22 9 rfl B 5 i0 Try.underlying22 Try.underlying9 hi hz0 hz1 hz2 (.slice xa bs'.length ya) bs'.length (Nm.bys bs') (by go_simp) hSd.pw.rb (NB.extract 0 (1 + l.size)) (by go_simp) (by rw [hpz]; unfold maxLen; omega) (by rw [hpz]; omega) hB5 ?_
          intro va wa hown9 hgrow9
          rw [Nm.bys_str, ← Nm.bys_append, hpre, hpz] at hown9
          obtain ⟨xb, yb, hvb⟩ := own_sl hown9
          have hblk9 := blk_grown hSd.pw.blk hgrow9 (fun e => own_blk hSd.pw.rb hSd.pw.blk (by decide) e)
          have b9 : Bw B w5 wa := (Bw.of (Below.refl _ _).drew hB5).app hSd.pw.rb hgrow9 hB5
          have c9 : wa.cell? ⟨g, 0, none⟩ = some (.slice xa bs'.length ya) := (blk_cell hblk9 0).trans rfl
          have d9 : wa.cell? ⟨g, 1, none⟩ = some (.map (some r)) := (blk_cell hblk9 1).trans rfl
          have f9 := blk_frozen hblk9 0
          rw [hvb] at hown9 ⊢
          refine hK.out _ _ ⟨c9, d9⟩ (fun hH3 => ?_)
          clear hK K
          refine wpAnyL_one (i := 9) (by kernel_rfl) rfl (fun K hK => ?_)
          go_simp
          refine hK.out _ _ ⟨c9, d9⟩ (fun hH4 => ?_)
          clear hK K
          refine wpAnyL_take (i := 10) (v := ?_) rfl (by kernel_rfl) (by kernel_rfl) (by kernel_rfl) (by kernel_rfl) (fun _ _ _ h => h) (Or.inl ⟨by rfl, ?_⟩) (by assumption) ?_
          rotate_left 1
          · (rintro w ⟨hSw1, hSw2⟩; go_simp; try (with_reducible rfl))
          refine wpAnyL_end (by kernel_rfl) rfl (by kernel_rfl) (fun K hK => ?_)
          go_simp
          refine hK.out _ _ ?_
          clear hK K
          have hS10 : PW (wa.setCell ⟨g, 0, none⟩ (.slice xb (bs'.length + (1 + l.size)) yb)) g B (bs' ++ (UInt8.ofNat l.size :: l.data.toList)) (.slice xb (bs'.length + (1 + l.size)) yb) (.map (some r)) := ⟨blk_set hblk9 0 _, by rw [hzl]; exact own_far hown9 (own_blk hown9 hblk9 (by decide)), hS.pw.bg⟩
          have b10 := b9.set hblk9 hS.pw.bg 0 (.slice xb (bs'.length + (1 + l.size)) yb)
          have hM10 := hS5.after hS10 b10
          have k10 := k5.trans (Bp.ofw b10)
          have hB10 := Nat.le_trans hB5 b10.be.size
          generalize wa.setCell ⟨g, 0, none⟩ (.slice xb (bs'.length + (1 + l.size)) yb) = W10 at *
          clear hown9 hgrow9 hblk9 b9 hS10 b10 hSd c9 d9 f9 hH3 hH4 hHeld
          go_wp2
          go_roundw
          case rel => exact ⟨ls, _, _, _, rfl, hM10, hB10, k10, hok2, hxs2, by rw [hzl]; omega, by omega, HR2⟩
          case measure => simp; omega
        · rw [if_neg hsh] at HR2
          have hsh' : (16383 : Int) < (bs'.length : Int) := by omega
          have hok2 := hok'.mono (m := (bs' ++ (UInt8.ofNat l.size :: l.data.toList)).length) (by simp)
          have hS5 := hS
          have k5 := hbel
          have hB5 := hBw
          have c5 := c0
          have d5 := c1
          go_wp2_with fail
          refine wp_region_last (fun W => W.cell? ⟨g, 0, none⟩ = some (.slice xa bs'.length ya) ∧ W.cell? ⟨g, 1, none⟩ = some (.map (some r))) 11 (by kernel_rfl) ⟨c5, d5⟩ (fun hHeld => ?_)
          refine wpAnyL_take (i := 0) (v := ?_) rfl (by kernel_rfl) (by kernel_rfl) (by kernel_rfl) (by kernel_rfl) (fun _ _ _ h => h) (Or.inl ⟨by rfl, ?_⟩) (by assumption) ?_
          rotate_left 1
          · (rintro w ⟨hSw1, hSw2⟩; go_simp; try (with_reducible rfl))
          refine wpAnyL_take (i := 1) (v := ?_) rfl (by kernel_rfl) (by kernel_rfl) (by kernel_rfl) (by kernel_rfl) (fun _ _ _ h => h) (Or.inl ⟨by rfl, ?_⟩) (by assumption) ?_
          rotate_left 1
          · (rintro w ⟨hSw1, hSw2⟩; go_simp; try (with_reducible rfl))
          refine wpAnyL_take (i := 2) (v := ?_) rfl (by kernel_rfl) (by kernel_rfl) (by kernel_rfl) (by kernel_rfl) (fun _ _ _ h => h) (Or.inl ⟨by rfl, ?_⟩) (by assumption) ?_
          rotate_left 1
          · (rintro w ⟨hSw1, hSw2⟩; go_simp; try (with_reducible rfl))
          refine wpAnyL_take (i := 3) (v := ?_) rfl (by kernel_rfl) (by kernel_rfl) (by kernel_rfl) (by kernel_rfl) (fun _ _ _ h => h) (Or.inl ⟨by rfl, ?_⟩) (by assumption) ?_
          rotate_left 1
          · (rintro w ⟨hSw1, hSw2⟩; go_simp; try (with_reducible rfl))
          refine wpAnyL_take (i := 4) (v := ?_) rfl (by kernel_rfl) (by kernel_rfl) (by kernel_rfl) (by kernel_rfl) (fun _ _ _ h => h) (Or.inl ⟨by rfl, ?_⟩) (by assumption) ?_
          rotate_left 1
          · (rintro w ⟨hSw1, hSw2⟩; go_simp; try (with_reducible rfl))
          refine wpAnyL_take (i := 5) (v := ?_) rfl (by kernel_rfl) (by kernel_rfl) (by kernel_rfl) (by kernel_rfl) (fun _ _ _ h => h) (Or.inl ⟨by rfl, ?_⟩) (by assumption) ?_
          rotate_left 1
          · (rintro w ⟨hSw1, hSw2⟩; go_simp; try (with_reducible rfl))
          refine wpAnyL_take (i := 6) (v := ?_) rfl (by kernel_rfl) (by kernel_rfl) (by kernel_rfl) (by kernel_rfl) (fun _ _ _ h => h) (Or.inl ⟨by rfl, ?_⟩) (by assumption) ?_
          rotate_left 1
          · (rintro w ⟨hSw1, hSw2⟩; go_simp; try (with_reducible rfl))
          refine wpAnyL_take (i := 7) (v := .string (NB.extract 0 (1 + l.size))) rfl (by kernel_rfl) (by kernel_rfl) (by kernel_rfl) (by kernel_rfl) (fun _ _ _ h => h) (Or.inl ⟨by rfl, ?_⟩) (by assumption) ?_
          · rintro w ⟨hSw1, hSw2⟩
            go_simp
            try rw [if_pos hle0]
          have hSd := hS5.below (Below.refl _ _).drew
          refine wpAnyL_one (i := 8) (by kernel_rfl) rfl (fun K hK => ?_)
          refine step_append_str rfl (.tmp 49) (.tmp 52) 22 9 rfl B 5 i0 Try.underlying22 Try.underlying9 hi hz0 hz1 hz2 (.slice xa bs'.length ya) bs'.length (Nm.bys bs') (by go_simp) hSd.pw.rb (NB.extract 0 (1 + l.size)) (by go_simp) (by rw [hpz]; unfold maxLen; omega) (by rw [hpz]; omega) hB5 ?_
          intro va wa hown9 hgrow9
          rw [Nm.bys_str, ← Nm.bys_append, hpre, hpz] at hown9
          obtain ⟨xb, yb, hvb⟩ := own_sl hown9
          have hblk9 := blk_grown hSd.pw.blk hgrow9 (fun e => own_blk hSd.pw.rb hSd.pw.blk (by decide) e)
          have b9 : Bw B wr wa := (Bw.of (Below.refl _ _).drew hB5).app hSd.pw.rb hgrow9 hB5
          have c9 : wa.cell? ⟨g, 0, none⟩ = some (.slice xa bs'.length ya) := (blk_cell hblk9 0).trans rfl
          have d9 : wa.cell? ⟨g, 1, none⟩ = some (.map (some r)) := (blk_cell hblk9 1).trans rfl
          have f9 := blk_frozen hblk9 0
          rw [hvb] at hown9 ⊢
          refine hK.out _ _ ⟨c9, d9⟩ (fun hH3 => ?_)
          clear hK K
          refine wpAnyL_one (i := 9) (by kernel_rfl) rfl (fun K hK => ?_)
          go_simp
          refine hK.out _ _ ⟨c9, d9⟩ (fun hH4 => ?_)
          clear hK K
          refine wpAnyL_take (i := 10) (v := ?_) rfl (by kernel_rfl) (by kernel_rfl) (by kernel_rfl) (by kernel_rfl) (fun _ _ _ h => h) (Or.inl ⟨by rfl, ?_⟩) (by assumption) ?_
          rotate_left 1
          · (rintro w ⟨hSw1, hSw2⟩; go_simp; try (with_reducible rfl))
          refine wpAnyL_end (by kernel_rfl) rfl (by kernel_rfl) (fun K hK => ?_)
          go_simp
          refine hK.out _ _ ?_
          clear hK K
          have hS10 : PW (wa.setCell ⟨g, 0, none⟩ (.slice xb (bs'.length + (1 + l.size)) yb)) g B (bs' ++ (UInt8.ofNat l.size :: l.data.toList)) (.slice xb (bs'.length + (1 + l.size)) yb) (.map (some r)) := ⟨blk_set hblk9 0 _, by rw [hzl]; exact own_far hown9 (own_blk hown9 hblk9 (by decide)), hS.pw.bg⟩
          have b10 := b9.set hblk9 hS.pw.bg 0 (.slice xb (bs'.length + (1 + l.size)) yb)
          have hM10 := hS5.after hS10 b10
          have k10 := k5.trans (Bp.ofw b10)
          have hB10 := Nat.le_trans hB5 b10.be.size
          generalize wa.setCell ⟨g, 0, none⟩ (.slice xb (bs'.length + (1 + l.size)) yb) = W10 at *
          clear hown9 hgrow9 hblk9 b9 hS10 b10 hSd c9 d9 f9 hH3 hH4 hHeld
          go_wp2
          go_roundw
          case rel => exact ⟨ls, _, _, _, rfl, hM10, hB10, k10, hok2, hxs2, by rw [hzl]; omega, by omega, HR2⟩
          case measure => simp; omega
end Go.Proofs.Ythhagapmcbkeiaa
/- impl.mayPoint by its contract. -/
namespace Go.Proofs.Ythhagapmcbkeiaa
open Go.RowKit
set_option linter.unusedVariables false

set_option maxRecDepth 100000 in
set_option maxHeartbeats 800000 in
theorem mayPoint_any (t : Nat) (w : World) :
    Calls Try.prog 58 #[.int .i64 t] w fun e w' => e = .returned (.bool (decide (pointed t))) ∧ w' = w := by
  by_cases h : pointed t
  · have HD : Hid (decide (pointed t) = true) := by exact decide_eq_true h
    rcases h with rfl | rfl | rfl | rfl | rfl
    all_goals
      go_enter Try.func58, Try.ntmps58
      go_wp2
      go_ret
      exact ⟨rfl, rfl⟩
  · have HD : Hid (decide (pointed t) = false) := by exact decide_eq_false h
    unfold pointed at h
    have b2 : ((t : Int) == 2) = false := by rw [beq_eq_false_iff_ne]; omega
    have b5 : ((t : Int) == 5) = false := by rw [beq_eq_false_iff_ne]; omega
    have b6 : ((t : Int) == 6) = false := by rw [beq_eq_false_iff_ne]; omega
    have b12 : ((t : Int) == 12) = false := by rw [beq_eq_false_iff_ne]; omega
    have b15 : ((t : Int) == 15) = false := by rw [beq_eq_false_iff_ne]; omega
    clear h
    go_enter Try.func58, Try.ntmps58
    go_wp2
    go_ret
    rw [HD.out]
    exact ⟨rfl, rfl⟩
end Go.Proofs.Ythhagapmcbkeiaa
/- impl.foldByte by its contract. -/
namespace Go.Proofs.Ythhagapmcbkeiaa
open Go.RowKit

theorem ret_u8 {a b : Int} (h : a = b) : Ending.returned (.int .u8 a) = .returned (.int .u8 b) := by rw [h]

set_option maxRecDepth 100000 in
set_option maxHeartbeats 400000 in
theorem foldByte_any (c : UInt8) (w : World) :
    Calls Try.prog 93 #[.int .u8 c.toNat] w fun e w' => e = .returned (.int .u8 (Nm.low c).toNat) ∧ w' = w := by
  have hcl : (c.toNat : Int) < 256 := by have := c.toNat_lt; omega
  by_cases hup : 65 ≤ c.toNat ∧ c.toNat ≤ 90
  · have HL := Nm.hide (Nm.low_up hup)
    have d1 : decide ((65 : Int) ≤ (c.toNat : Int)) = true := by simp; omega
    have d2 : decide ((c.toNat : Int) ≤ 90) = true := by simp; omega
    have hb1 : (c.toNat : Int) ≤ 90 := by omega
    clear hup
    go_enter Try.func93, Try.ntmps93
    go_wp2
    go_ret
    rw [HL.out]
    exact ⟨rfl, rfl⟩
  · have HL := Nm.hide (Nm.low_id hup)
    by_cases hlo : 65 ≤ c.toNat
    · have d1 : decide ((65 : Int) ≤ (c.toNat : Int)) = true := by simp; omega
      have d2 : decide ((c.toNat : Int) ≤ 90) = false := by simp; omega
      clear hup
      go_enter Try.func93, Try.ntmps93
      go_wp2
      go_ret
      rw [HL.out]
      exact ⟨rfl, rfl⟩
    · have d1 : decide ((65 : Int) ≤ (c.toNat : Int)) = false := by simp; omega
      clear hup
      go_enter Try.func93, Try.ntmps93
      go_wp2
      go_ret
      rw [HL.out]
      exact ⟨rfl, rfl⟩

end Go.Proofs.Ythhagapmcbkeiaa
