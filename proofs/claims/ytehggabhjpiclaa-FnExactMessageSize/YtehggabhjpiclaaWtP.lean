import Derived.Test.YtehggabhjpiclaaJFreeB
/- spec.l04Name by its contract. -/
namespace Go.Proofs.Ytehggabhjpiclaa
open Go.RowKit
set_option linter.unusedVariables false

theorem Try.infoPl : (Try.prog.info? 102).map (fun i => (i.zero, i.size, i.bytes)) = some (some (.agg #[.string ByteArray.empty, .int .i64 0]), 2, 24) := by kernel_rfl

theorem idx0 (s : ByteArray) (h : 0 < s.size) (W : World) : (Instr.index 9 (.string s) (.int .i64 0)).run Try.prog W = .ok (.int .u8 (s[0].toNat : Int)) W := by
  have := byte_in s 0 h W
  simpa using this

set_option maxRecDepth 100000 in
set_option maxHeartbeats 3200000 in
theorem l04Name_any (s : ByteArray) (ls0 : List ByteArray) (hs : Nm.split s = some ls0) (g B : Nat) (bs : List UInt8) (pls : List (ByteArray × Nat)) (vb vp : Value) (w : World) (h : SW w g B bs pls vb vp) (hB : B ≤ w.heap.size) (hl : bs.length + 256 ≤ 50000000) (hok : PlOK pls bs.length) :
    Calls Try.prog 44 #[.pointer (some ⟨g, 0, none⟩), .string s] w fun e w' => e = .returned (.tuple #[]) ∧ ∃ vb' vp', SW w' g B (nmW ls0 bs pls).1 (nmW ls0 bs pls).2 vb' vp' ∧ Bk B w w' := by
  obtain ⟨i0, hi, hz0, hz1, hz2⟩ := info_parts Try.infoPl
  have hsz := Nm.split_size hs
  have hxs := (Nm.split_join hs).2
  obtain rfl := nmB_split hs
  generalize hRES : nmW ls0 bs pls = RES
  have hbd : bs.length + Nm.wsum ls0 + 1 ≤ 50000000 := by omega
  clear hsz hs hl
  go_enter Try.func44, Try.ntmps44
  go_wp2
  go_loopw [1] (fun nv wr => ∃ (ls : List ByteArray) (bs' : List UInt8) (pls' : List (ByteArray × Nat)) (vb' vp' : Value), nv = .string (nmB ls) ∧ SW wr g B bs' pls' vb' vp' ∧ B ≤ wr.heap.size ∧ Bk B w wr ∧ PlOK pls' bs'.length ∧ (∀ x ∈ ls, 1 ≤ x.size ∧ x.size ≤ 63) ∧ bs'.length + Nm.wsum ls + 1 ≤ 50000000 ∧ Hid (nmW ls bs' pls' = RES)) (fun nv _ => match nv with | .string t => t.size | _ => 0)
  case atStart => exact ⟨ls0, bs, pls, vb, vp, rfl, h, hB, Bk.refl _ _, hok, hxs, hbd, hRES⟩
  case round =>
    obtain ⟨ls, bs', pls', vb', vp', rfl, hS, hBw, hbel, hok', hxs', hbd', HR⟩ := hrel
    clear h hB hok hxs hbd hRES
    cases ls with
    | nil =>
      have e1 := nmB_nil
      obtain rfl : (bs' ++ [0], pls') = RES := HR.out
      clear HR
      have hcall := fun W (h : SW W g B bs' pls' vb' vp') (hB : B ≤ W.heap.size) => l04Text_any (nmB []) g B bs' pls' vb' vp' W h hB (by rw [nmB_size]; simp [Nm.wsum] at hbd' ⊢; omega)
      rw [show (nmB []).data.toList = [0] from nmB_data []] at hcall
      generalize nmB [] = N0 at *
      go_wp2_with (go_at_call 26; refine (hcall wr hS hBw).mono ?_; rintro e w5 ⟨rfl, vb5, hS5, hb5⟩)
      refine bodyPost_end (v := .tuple #[]) ?_ rfl ⟨rfl, ⟨vb5, vp', hS5⟩, hbel.trans hb5⟩
      simp [results, Try.results44, go_sem]
    | cons l ls =>
      obtain ⟨x1, x2⟩ := hxs' l (List.mem_cons_self ..)
      have e1 := nmB_ne l ls x1
      have hws : Nm.wsum (l :: ls) = 1 + l.size + Nm.wsum ls := by simp [Nm.wsum]
      have hnz := nmB_size (l :: ls)
      have hse := l04Seen_any (nmB (l :: ls)) g B bs' pls' vb' vp' wr hS (by have := hok'.1; omega)
      obtain ⟨s1, s2⟩ := seenS_lt hok' (nmB (l :: ls))
      by_cases hsn : 0 ≤ seenS pls' (nmB (l :: ls))
      · obtain ⟨q, hq⟩ : ∃ q : Nat, seenS pls' (nmB (l :: ls)) = (q : Int) := ⟨_, (Int.toNat_of_nonneg hsn).symm⟩
        have HE : (bs' ++ put2 (49152 + q), pls') = RES := by
          rw [← HR.out, nmW, if_pos hsn, hq, Int.toNat_natCast]
        clear HR
        subst HE
        rw [hq] at hse
        have hq2 : (q : Int) ≤ 16383 := by omega
        have hq0 : (0 : Int) ≤ (q : Int) := by omega
        have hput : ∀ W, Calls Try.prog 43 #[.int .i64 (49152 + (q : Int)), .int .i64 2] W fun e w' => e = .returned (.string ⟨(put2 (49152 + q)).toArray⟩) ∧ Below W.heap.size W w' := by
          intro W
          have := l02Put2_any (49152 + q) W (by omega)
          rw [Int.natCast_add] at this
          exact this
        have hcall := fun W (h : SW W g B bs' pls' vb' vp') (hB : B ≤ W.heap.size) => l04Text_any ⟨(put2 (49152 + q)).toArray⟩ g B bs' pls' vb' vp' W h hB (by show bs'.length + (put2 _).toArray.size ≤ _; simp [put2]; omega)
        have HP : (ByteArray.mk (put2 (49152 + q)).toArray).data.toList = put2 (49152 + q) := by simp
        rw [HP] at hcall
        clear HP s1 s2 hsn hq hxs'
        generalize (ByteArray.mk (put2 (49152 + q)).toArray) = PB at *
        generalize nmB (l :: ls) = NB at *
        go_wp2_with first
          | (go_at_call 59; refine hse.mono ?_; rintro e wr ⟨rfl, rfl⟩)
          | (go_at_call 43; refine (hput _).mono ?_; rintro e w5 ⟨rfl, hb5⟩)
          | (go_at_call 26; refine (hcall _ (hS.below hb5) (Nat.le_trans hBw hb5.size)).mono ?_; rintro e w6 ⟨rfl, vb6, hS6, hb6⟩)
        refine bodyPost_ret (v := .tuple #[]) ?_ rfl ⟨rfl, ⟨vb6, vp', hS6⟩, hbel.trans ((Bk.of hb5 hBw).trans hb6)⟩
        simp [results, Try.results44, go_sem]
      · have HR2 : Hid (nmW ls (bs' ++ (UInt8.ofNat l.size :: l.data.toList)) (if bs'.length ≤ 16383 then pls' ++ [(nmB (l :: ls), bs'.length)] else pls') = RES) := by
          have := HR.out
          rw [nmW, if_neg hsn] at this
          exact this
        have hq : seenS pls' (nmB (l :: ls)) = -1 := by omega
        rw [hq] at hse
        have hn0 : 0 < (nmB (l :: ls)).size := by omega
        have hidx := fun W => idx0 (nmB (l :: ls)) hn0 W
        rw [nmB_0 l ls x2 hn0] at hidx
        have htx := fun pl vp2 W (h : SW W g B bs' pl vb' vp2) (hB : B ≤ W.heap.size) => l04Text_any ((nmB (l :: ls)).extract 0 (l.size + 1)) g B bs' pl vb' vp2 W h hB (by rw [ByteArray.size_extract]; omega)
        rw [nmB_pre l ls] at htx
        have hrest := nmB_rest l ls
        have hnz' : ((nmB (l :: ls)).size : Int) = 1 + l.size + Nm.wsum ls + 1 := by rw [hnz, hws]; omega
        have hxs2 : ∀ x ∈ ls, 1 ≤ x.size ∧ x.size ≤ 63 := fun x hx => hxs' x (List.mem_cons_of_mem _ hx)
        have hgt : ¬ (nmB ls).size ≥ (nmB (l :: ls)).size := by rw [hnz, hws, nmB_size]; omega
        clear HR hsn hq s1 s2 hxs' hn0
        generalize nmB (l :: ls) = NB at *
        have hcr : (l.size : Int) + 1 ≤ (NB.size : Int) := by omega
        clear hnz hnz'
        obtain ⟨xa, ya, hv⟩ := own_sl hS.rb
        obtain ⟨xp, yp, hvp⟩ := own_sl hS.rp
        subst hv hvp
        have c0 : wr.cell? ⟨g, 0, none⟩ = some (.slice xa bs'.length ya) := (blk_cell hS.blk 0).trans rfl
        have c1 : wr.cell? ⟨g, 1, none⟩ = some (.slice xp pls'.length yp) := (blk_cell hS.blk 1).trans rfl
        by_cases hsh : bs'.length ≤ 16383
        · rw [if_pos hsh] at HR2
          have hsh' : (bs'.length : Int) ≤ 16383 := by omega
          have hok2 := (hok'.put (p := (NB, bs'.length)) hsh).mono (m := (bs' ++ (UInt8.ofNat l.size :: l.data.toList)).length) (by simp)
          go_wp2_with (go_at_call 59; refine hse.mono ?_; rintro e wr ⟨rfl, rfl⟩)
          refine wp_region_last (fun W => W.cell? ⟨g, 0, none⟩ = some (.slice xa bs'.length ya) ∧ W.cell? ⟨g, 1, none⟩ = some (.slice xp pls'.length yp)) 16 (by kernel_rfl) ⟨c0, c1⟩ (fun hHeld => ?_)
          refine wpAnyL_take (i := 0) (v := ?_) rfl (by kernel_rfl) (by kernel_rfl) (by kernel_rfl) (by kernel_rfl) (fun _ _ _ h => h) (Or.inl ⟨by rfl, ?_⟩) (by assumption) ?_
          rotate_left 1
          · (rintro w ⟨hSw1, hSw2⟩; go_simp; try (with_reducible rfl))
          refine wpAnyL_take (i := 1) (v := ?_) rfl (by kernel_rfl) (by kernel_rfl) (by kernel_rfl) (by kernel_rfl) (fun _ _ _ h => h) (Or.inl ⟨by rfl, ?_⟩) (by assumption) ?_
          rotate_left 1
          · (rintro w ⟨hSw1, hSw2⟩; go_simp; try (with_reducible rfl))
          refine wpAnyL_take (i := 2) (v := ?_) rfl (by kernel_rfl) (by kernel_rfl) (by kernel_rfl) (by kernel_rfl) (fun _ _ _ h => h) (Or.inl ⟨by rfl, ?_⟩) (by assumption) ?_
          rotate_left 1
          · (rintro w ⟨hSw1, hSw2⟩; go_simp; try (with_reducible rfl))
          refine wpAnyL_take (i := 3) (v := ?_) rfl (by kernel_rfl) (by kernel_rfl) (by kernel_rfl) (by kernel_rfl) (fun _ _ _ h => h) (Or.inl ⟨by rfl, ?_⟩) (by assumption) ?_
          rotate_left 1
          · (rintro w ⟨hSw1, hSw2⟩; go_simp; try (with_reducible rfl))
          refine wpAnyL_take (i := 4) (v := ?_) rfl (by kernel_rfl) (by kernel_rfl) (by kernel_rfl) (by kernel_rfl) (fun _ _ _ h => h) (Or.inl ⟨by rfl, ?_⟩) (by assumption) ?_
          rotate_left 1
          · (rintro w ⟨hSw1, hSw2⟩; go_simp; try (with_reducible rfl))
          refine wpAnyL_take (i := 5) (v := ?_) rfl (by kernel_rfl) (by kernel_rfl) (by kernel_rfl) (by kernel_rfl) (fun _ _ _ h => h) (Or.inl ⟨by rfl, ?_⟩) (by assumption) ?_
          rotate_left 1
          · (rintro w ⟨hSw1, hSw2⟩; go_simp; try (with_reducible rfl))
          refine wpAnyL_take (i := 6) (v := ?_) rfl (by kernel_rfl) (by kernel_rfl) (by kernel_rfl) (by kernel_rfl) (fun _ _ _ h => h) (Or.inl ⟨by rfl, ?_⟩) (by assumption) ?_
          rotate_left 1
          · (rintro w ⟨hSw1, hSw2⟩; go_simp; try (with_reducible rfl))
          refine wpAnyL_take (i := 7) (v := ?_) rfl (by kernel_rfl) (by kernel_rfl) (by kernel_rfl) (by kernel_rfl) (fun _ _ _ h => h) (Or.inl ⟨by rfl, ?_⟩) (by assumption) ?_
          rotate_left 1
          · (rintro w ⟨hSw1, hSw2⟩; go_simp; try (with_reducible rfl))
          refine wpAnyL_take (i := 8) (v := ?_) rfl (by kernel_rfl) (by kernel_rfl) (by kernel_rfl) (by kernel_rfl) (fun _ _ _ h => h) (Or.inl ⟨by rfl, ?_⟩) (by assumption) ?_
          rotate_left 1
          · (rintro w ⟨hSw1, hSw2⟩; go_simp; try (with_reducible rfl))
          refine wpAnyL_take (i := 9) (v := ?_) rfl (by kernel_rfl) (by kernel_rfl) (by kernel_rfl) (by kernel_rfl) (fun _ _ _ h => h) (Or.inl ⟨by rfl, ?_⟩) (by assumption) ?_
          rotate_left 1
          · (rintro w ⟨hSw1, hSw2⟩; go_simp; try (with_reducible rfl))
          refine wpAnyL_take (i := 10) (v := ?_) rfl (by kernel_rfl) (by kernel_rfl) (by kernel_rfl) (by kernel_rfl) (fun _ _ _ h => h) (Or.inl ⟨by rfl, ?_⟩) (by assumption) ?_
          rotate_left 1
          · (rintro w ⟨hSw1, hSw2⟩; go_simp; try (with_reducible rfl))
          refine wpAnyL_take (i := 11) (v := ?_) rfl (by kernel_rfl) (by kernel_rfl) (by kernel_rfl) (by kernel_rfl) (fun _ _ _ h => h) (Or.inl ⟨by rfl, ?_⟩) (by assumption) ?_
          rotate_left 1
          · (rintro w ⟨hSw1, hSw2⟩; go_simp; try (with_reducible rfl))
          have hSd : SW wr.drew g B bs' pls' (.slice xa bs'.length ya) (.slice xp pls'.length yp) := hS.below (Below.refl _ _).drew
          have hSa := hSd.below ((Below.refl _ _).alloc (Nat.le_refl _) (.cells #[.string NB, .int .i64 bs'.length] 102))
          refine wpAnyL_one (i := 12) (by kernel_rfl) rfl (fun K hK => ?_)
          go_simp
          refine hK.out _ _ ⟨(blk_cell hSa.blk 0).trans rfl, (blk_cell hSa.blk 1).trans rfl⟩ (fun hH2 => ?_)
          clear hK K
          refine wpAnyL_one (i := 13) (by kernel_rfl) rfl (fun K hK => ?_)
          have hba := hSa.rp
          refine step_append_own rfl (.tmp 28) (.tmp 36) 60 rfl B 102 i0 _ 2 24 Try.underlying60 hi hz0 hz1 hz2 rfl (by decide) (.slice xp pls'.length yp) pls'.length (plVs pls') (by rfl) hba ⟨wr.drew.heap.size, 0, none⟩ 1 1 [.string NB, .int .i64 bs'.length] (by rfl) rfl (cell_newW _ _ _) (by intro u hu; simp at hu; rcases hu with rfl | rfl <;> rfl) (by have := hok'.1; unfold maxLen; omega) (by have := hok'.1; omega) (by simp; omega) ?_
          intro va wa hown9 hgrow9 hnl9
          clear hnl9
          obtain ⟨xb, yb, hvb⟩ := own_sl hown9
          have hblk9 : Blk wa g #[.slice xa bs'.length ya, .slice xp pls'.length yp] 62 := blk_grown hSa.blk hgrow9 (fun e => own_blk hba hSa.blk (by decide) e)
          have hrb9 := own_beside hSa.rb hgrow9 (own_kinds hSa.rb hba (by decide))
          have b9 : Bk B w wa := (hbel.trans (Bk.of ((Below.refl wr.heap.size wr).drew.alloc (Nat.le_refl _) _) hBw)).app hba hgrow9 (by simp; omega) (.inr rfl)
          have c9 : wa.cell? ⟨g, 0, none⟩ = some (.slice xa bs'.length ya) := (blk_cell hblk9 0).trans rfl
          have d9 : wa.cell? ⟨g, 1, none⟩ = some (.slice xp pls'.length yp) := (blk_cell hblk9 1).trans rfl
          have f9 := blk_frozen hblk9 1
          rw [hvb]
          refine hK.out _ _ ⟨c9, d9⟩ (fun hH3 => ?_)
          clear hK K
          refine wpAnyL_one (i := 14) (by kernel_rfl) rfl (fun K hK => ?_)
          go_simp
          refine hK.out _ _ ⟨c9, d9⟩ (fun hH4 => ?_)
          clear hK K
          refine wpAnyL_take (i := 15) (v := ?_) rfl (by kernel_rfl) (by kernel_rfl) (by kernel_rfl) (by kernel_rfl) (fun _ _ _ h => h) (Or.inl ⟨by rfl, ?_⟩) (by assumption) ?_
          rotate_left 1
          · (rintro w ⟨hSw1, hSw2⟩; go_simp; try (with_reducible rfl))
          refine wpAnyL_end (by kernel_rfl) rfl (by kernel_rfl) (fun K hK => ?_)
          go_simp
          refine hK.out _ _ ?_
          clear hK K
          rw [hvb] at hown9
          have hS10 : SW (wa.setCell ⟨g, 1, none⟩ (.slice xb (pls'.length + 1) yb)) g B bs' (pls' ++ [(NB, bs'.length)]) (.slice xa bs'.length ya) (.slice xb (pls'.length + 1) yb) := ⟨blk_set hblk9 1 _, own_far hrb9 (own_blk hrb9 hblk9 (by decide)), by rw [plVs_app, List.length_append]; exact own_far hown9 (own_blk hown9 hblk9 (by decide)), hS.bg⟩
          have b10 : Bk B w (wa.setCell ⟨g, 1, none⟩ (.slice xb (pls'.length + 1) yb)) := b9.set hblk9 hS.bg _ _
          have hB10 : B ≤ (wa.setCell ⟨g, 1, none⟩ (.slice xb (pls'.length + 1) yb)).heap.size := by have := blk_lt hblk9; have := hS.bg; simp; omega
          generalize wa.setCell ⟨g, 1, none⟩ (.slice xb (pls'.length + 1) yb) = W10 at *
          clear hown9 hgrow9 hblk9 hrb9 b9 c9 f9 d9 hba hSa hSd hS c0 c1 hse hH2 hH3 hH4 hHeld
          have htx2 := htx _ _ W10 hS10 hB10
          clear htx hok'
          go_wp2_with (go_at_call 26; refine htx2.mono ?_; rintro e w6 ⟨rfl, vb6, hS6, hb6⟩)
          go_roundw
          case rel => exact ⟨ls, _, _, vb6, _, rfl, hS6, Nat.le_trans hB10 hb6.be.size, b10.trans hb6, hok2, hxs2, by simp; omega, HR2⟩
          case measure => simp; omega
        · rw [if_neg hsh] at HR2
          have hsh' : (16383 : Int) < (bs'.length : Int) := by omega
          have hok2 := hok'.mono (m := (bs' ++ (UInt8.ofNat l.size :: l.data.toList)).length) (by simp)
          have htx2 := htx _ _ wr hS hBw
          clear htx hok'
          go_wp2_with first
            | (go_at_call 59; refine hse.mono ?_; rintro e wr ⟨rfl, rfl⟩)
            | (go_at_call 26; refine htx2.mono ?_; rintro e w6 ⟨rfl, vb6, hS6, hb6⟩)
          go_roundw
          case rel => exact ⟨ls, _, _, vb6, _, rfl, hS6, Nat.le_trans hBw hb6.be.size, hbel.trans hb6, hok2, hxs2, by simp; omega, HR2⟩
          case measure => simp; omega
end Go.Proofs.Ytehggabhjpiclaa
