import Derived.Test.YtjokdmmlofbknaaDoorJV6I
/- impl.ShowV6 by its contract. -/
namespace Go.Proofs.YtjokdmmlofbknaaDoor
open Go.RowKit

theorem grps_step (s : ByteArray) (k : Nat) : grps s 0 (k + 1) = grps s 0 k ++ [hexS (grp s k)] := by simp [grps, List.range_succ]

/-- strings.Join over some groups. -/
theorem joined {s : ByteArray} {a k bk o cp : Nat} {w W : World} (hc : ∀ (j : Nat) (x : ByteArray), (grps s a k)[j]? = some x → w.cell? ⟨bk, o + j, none⟩ = some (.string x)) (hbk : bk < w.heap.size) (hk : k ≤ 8) (hcp : k ≤ cp) (hb : Below w.heap.size w W) :
    Calls Tryd.prog 26 #[.slice (some ⟨bk, o, none⟩) k cp, .string ⟨#[58]⟩] W fun e w' => e = .returned (.string (rowS s a k)) ∧ Below w.heap.size w w' := by
  have hl := row_len s a k
  have h := Tryd.strings_Join bk o cp (grps s a k) ⟨#[58]⟩ W (fun j x hx => (hb.cell (World.block_lt_of_cell? w _ (hc j x hx))).trans (hc j x hx)) (Nat.lt_of_lt_of_le hbk hb.size) (by rw [grps_len]; omega) (by rw [grps_len]; exact hcp) (by show (Lib.join _ [58]).length ≤ _; omega)
  rw [grps_len] at h
  refine h.mono ?_
  rintro e w' ⟨rfl, hb2⟩
  refine ⟨?_, Nm.below_two hb hb2⟩
  rw [← row_string s a k]

set_option maxRecDepth 100000 in
set_option maxHeartbeats 1200000 in
theorem implShowV6_any (s : ByteArray) (w : World) (hB : BruTab w) :
    Calls Tryd.prog 5 #[.string s] w fun e w' => e = .returned (.tuple #[.string (showV6S s).1, .int .i64 (showV6S s).2]) ∧ Below w.heap.size w w' := by
  by_cases h16 : s.size = 16
  · have hn16 : ((s.size : Int) != 16) = false := by simp; omega
    obtain ⟨i0, hi, hz0, hz1, hz2⟩ := info_parts Tryd.infoStr
    have HH := Nm.hide h16
    have hs1 : s.size ≤ 16 := by omega
    have hs2 : 16 ≤ s.size := by omega
    clear h16
    go_enter Tryd.func5, Tryd.ntmps5
    go_wp2
    go_loopw [4, 5] (fun v i wr => ∃ k : Nat, k ≤ 8 ∧ i = .int .i64 (2 * (k : Int)) ∧ wr.ownsRow w.heap.size 9 1 v (grps s 0 k).length ((grps s 0 k).map Value.string) ∧ Below w.heap.size w wr)
      (fun _ i _ => 16 - (intOf i).toNat)
    case atStart => exact ⟨0, by omega, by go_num, World.ownsRow_nil _ _ _ _, Below.refl _ _⟩
    case round =>
      obtain ⟨k, hk, rfl, hown, hbel⟩ := hrel
      have hsz := hbel.size
      have hgl := grps_len s 0 k
      by_cases hlt : k < 8
      · have hlt' : 2 * (k : Int) < (s.size : Int) := by omega
        have hb1 : 2 * (k : Int) ≤ 2 * (k : Int) + 2 := by omega
        have hb2 : 2 * (k : Int) + 2 ≤ (s.size : Int) := by omega
        obtain ⟨E, HE, hbig⟩ : ∃ E, Hid (E = s.extract (2 * k) (2 * k + 2)) ∧ ∀ W, Calls Tryd.prog 24 #[.string E] W fun e w' => e = .returned (.int .i64 ((grp s k : Nat) : Int)) ∧ w' = W := ⟨_, rfl, fun W => readBig_any (s.extract (2 * k) (2 * k + 2)) W (by simp; omega)⟩
        have hcut : s.extract (2 * (k : Int)).toNat (2 * (k : Int) + 2).toNat = E := by
          rw [HE.out]; congr 1
        have hfm := formatInt16_any (grp s k) wr (grp_lt s k) (hB.below hbel)
        have HN := Nm.hide (grps_step s k)
        have hll : (grps s 0 k).length ≤ 8 := by omega
        generalize hexS (grp s k) = D at *
        generalize grp s k = G at *
        generalize grps s 0 k = ls at *
        clear hgl
        go_wp2_with (first | (go_at_call 24; refine (hbig _).mono ?_; rintro e w2 ⟨rfl, hw⟩; obtain rfl : wr = w2 := hw.symm; clear hw) | (go_at_call 23; refine hfm.mono ?_; rintro e w3 ⟨rfl, hb3⟩; have hown3 := own_below hown hb3; have hbel3 := Nm.below_two hbel hb3; have hsz3 := hbel3.size; clear hb3) | (at_builtin; refine wpList_append_own _ rfl (.tmp 17) (.tmp 25) 45 rfl w.heap.size 9 i0 (.string ByteArray.empty) 1 16 Tryd.underlying45 hi hz0 hz1 hz2 rfl (by decide) _ _ _ rfl (hown3.alloc _) ⟨w3.heap.size, 0, none⟩ 1 1 [.string D] rfl rfl (cell_new1 _ _ _) (Nm.one_cell _ rfl) (by unfold maxLen; omega) (by omega) (by simp; omega) ?_))
        intro v' w4 hown' hgrow _
        have RR := own_step (x := D) hsz3 hown3 hbel3 _ hown' hgrow
        rw [← HN.out] at RR
        clear hown' hgrow hown3 hbel3 hown hbel
        go_wp2
        go_roundw
        case rel => exact ⟨k + 1, by omega, by go_num, RR.1, RR.2⟩
        case measure => simp [intOf]; omega
      · have hke : k = 8 := by omega
        subst hke
        have hlt' : (s.size : Int) ≤ 2 * (8 : Int) := by omega
        obtain ⟨a, cap, rfl, hcap, hmx, hnl, hc⟩ := Nm.SRow.of_owns hown
        obtain ⟨b, off, rfl, hcell⟩ := hc (by intro e; rw [e] at hgl; simp at hgl)
        rw [hgl] at hcap
        rw [hgl]
        have hbk : b < wr.heap.size := World.block_lt_of_cell? wr _ (hcell 0 (hexS (grp s 0)) (by simp [grps]))
        have hgap := fun W (hb : Below wr.heap.size wr W) => longestGap_any s b off cap W (fun j x hx => (hb.cell (World.block_lt_of_cell? wr _ (hcell j x hx))).trans (hcell j x hx))
        have hg0 := hgap wr (Below.refl _ _)
        clear hown hc hnl hgap
        cases hf : spFind (zf s) with
        | none =>
          have HF := Nm.hide (showV6_none HH.out hf)
          have hlt2 := gap_none hf
          have hle := gapF_le (zf s) 8
          have hj := joined (W := wr) hcell hbk (Nat.le_refl 8) hcap (Below.refl _ _)
          generalize rowS s 0 8 = R1 at *
          generalize (gapF (zf s) 8).2.1 = f at *
          generalize (gapF (zf s) 8).2.2 = t at *
          have h2' : (t : Int) - (f : Int) < 2 := by omega
          have hft : (f : Int) ≤ (t : Int) := by omega
          clear hcell hf hle
          go_wp2_with (first | (go_at_call 25; refine hg0.mono ?_; rintro e w2 ⟨rfl, hw⟩; obtain rfl : wr = w2 := hw.symm; clear hw) | (go_at_call 26; refine hj.mono ?_; rintro e w3 ⟨rfl, hb3⟩))
          go_ret2
          rw [HF.out]
          exact ⟨rfl, Nm.below_two hbel hb3⟩
        | some r =>
          obtain ⟨n, i⟩ := r
          have HF := Nm.hide (showV6_some HH.out hf)
          obtain ⟨hg1, hn2, hin⟩ := gap_some hf
          rw [hg1] at hg0
          have hj1 := fun W (hb : Below wr.heap.size wr W) => joined (s := s) (a := 0) (k := i) (bk := b) (o := off) (cp := cap) (W := W) (w := wr) (fun j x hx => hcell j x (by rw [← grps_take s (show i ≤ 8 by omega), List.getElem?_take] at hx; split at hx; exact hx; cases hx)) hbk (by omega) (by omega) hb
          have hj2a : ∀ W, Below wr.heap.size wr W → (cap = i + n) → Calls Tryd.prog 26 #[.slice (some ⟨b, off, none⟩) 0 0, .string ⟨#[58]⟩] W fun e w' => e = .returned (.string (rowS s (i + n) (8 - (i + n)))) ∧ Below wr.heap.size wr w' := by
            intro W hb hct
            have e : 8 - (i + n) = 0 := by omega
            rw [e]
            exact joined (s := s) (a := i + n) (k := 0) (bk := b) (o := off) (cp := 0) (W := W) (w := wr) (fun j x hx => by simp [grps] at hx) hbk (by omega) (by omega) hb
          have hj2b : ∀ W, Below wr.heap.size wr W → Calls Tryd.prog 26 #[.slice (some ⟨b, off + (i + n), none⟩) (8 - (i + n)) (cap - (i + n)), .string ⟨#[58]⟩] W fun e w' => e = .returned (.string (rowS s (i + n) (8 - (i + n)))) ∧ Below wr.heap.size wr w' := fun W hb =>
            joined (s := s) (a := i + n) (k := 8 - (i + n)) (bk := b) (o := off + (i + n)) (cp := cap - (i + n)) (W := W) (w := wr) (fun j x hx => by
              rw [← grps_drop, List.getElem?_drop] at hx
              have := hcell (i + n + j) x hx
              rw [← Nat.add_assoc] at this
              exact this) hbk (by omega) (by omega) hb
          have z1 := rowS_size s 0 i
          have z2 := rowS_size s (i + n) (8 - (i + n))
          have hx58 : (⟨#[58, 58]⟩ : ByteArray).size = 2 := rfl
          have hic : i ≤ cap := by omega
          have hi8 : i ≤ 8 := by omega
          have hgt : 2 ≤ i + n - i := by omega
          clear hcell hf hg1
          generalize i + n = t at *
          generalize rowS s 0 i = R1 at *
          generalize rowS s t (8 - t) = R2 at *
          obtain ⟨X1, e1⟩ : ∃ X, X = R1 ++ (⟨#[58, 58]⟩ : ByteArray) := ⟨_, rfl⟩
          obtain ⟨X2, e2⟩ : ∃ X, X = X1 ++ R2 := ⟨_, rfl⟩
          have y1 : X1.size = R1.size + 2 := by rw [e1, ByteArray.size_append, hx58]
          have a1 : ∀ W, (Go.Op.stringOp .add R1 ⟨#[58, 58]⟩).run Tryd.prog W = .ok (.string X1) W := fun W => by rw [e1]; exact run_string_add_sum W _ _ (by rw [hx58]; omega)
          have a2 : ∀ W, (Go.Op.stringOp .add X1 R2).run Tryd.prog W = .ok (.string X2) W := fun W => by rw [e2]; exact run_string_add_sum W _ _ (by rw [y1]; omega)
          rw [← e1, ← e2] at HF
          have h2' : (2 : Int) ≤ (t : Int) - (i : Int) := by omega
          have hit : (i : Int) ≤ (t : Int) := by omega
          have ht8 : (t : Int) ≤ 8 := by omega
          have hicI : (i : Int) ≤ (cap : Int) := by omega
          have hi8I : (i : Int) ≤ 8 := by omega
          have hS0 : Below wr.heap.size wr wr.drew := (Below.refl _ _).drew
          clear e1 e2 y1 z1 z2 hx58 hmx
          by_cases hct : cap = t
          · have hj2 : ∀ W, Below wr.heap.size wr W → Calls Tryd.prog 26 #[.slice (some ⟨b, off, none⟩) 0 0, .string ⟨#[58]⟩] W fun e w' => e = .returned (.string R2) ∧ Below wr.heap.size wr w' := fun W hb => hj2a W hb hct
            have ht : t = 8 := by omega
            subst ht
            subst hct
            clear hj2a hj2b
            go_wp2_with (go_at_call 25; refine hg0.mono ?_; rintro e w2 ⟨rfl, hw⟩; obtain rfl : wr = w2 := hw.symm; clear hw)
            refine wp_region_held_drew (S := fun w' => Below wr.heap.size wr w') (by kernel_rfl) hS0 (fun hHeld => ?_)
            refine wpAnyH_take (i := 0) (v := ?_) rfl (by kernel_rfl) (by kernel_rfl) (by kernel_rfl) (fun _ _ _ h => h) (Or.inl ⟨by rfl, ?_⟩) (by assumption) ?_
            rotate_left 1
            · (intro w hSw; go_simp; try (with_reducible rfl))
            refine wpAnyH_take (i := 1) (v := ?_) rfl (by kernel_rfl) (by kernel_rfl) (by kernel_rfl) (fun _ _ _ h => h) (Or.inl ⟨by rfl, ?_⟩) (by assumption) ?_
            rotate_left 1
            · (intro w hSw; go_simp; try (with_reducible rfl))
            refine wpAnyH_take (i := 2) (v := ?_) rfl (by kernel_rfl) (by kernel_rfl) (by kernel_rfl) (fun _ _ _ h => h) (Or.inl ⟨by rfl, ?_⟩) (by assumption) ?_
            rotate_left 1
            · (intro w hSw; go_simp; try (with_reducible rfl))
            refine wpAnyH_take (i := 5) (v := ?_) rfl (by kernel_rfl) (by kernel_rfl) (by kernel_rfl) (fun _ _ _ h => h) (Or.inl ⟨by rfl, ?_⟩) (by assumption) ?_
            rotate_left 1
            · (intro w hSw; go_simp; try (with_reducible rfl))
            refine wpAnyH_take (i := 6) (v := ?_) rfl (by kernel_rfl) (by kernel_rfl) (by kernel_rfl) (fun _ _ _ h => h) (Or.inl ⟨by rfl, ?_⟩) (by assumption) ?_
            rotate_left 1
            · (intro w hSw; go_simp; try (with_reducible rfl))
            refine wpAnyH_take (i := 7) (v := ?_) rfl (by kernel_rfl) (by kernel_rfl) (by kernel_rfl) (fun _ _ _ h => h) (Or.inl ⟨by rfl, ?_⟩) (by assumption) ?_
            rotate_left 1
            · (intro w hSw; go_simp; try (with_reducible rfl))
            refine wpAnyH_ready (rs := [3]) (by kernel_rfl) (by simp) ?_
            refine AllReadyH.cons rfl (fun K hK => ?_) AllReadyH.nil
            go_simp
            refine (hj1 _ (by assumption)).mono ?_
            rintro e v0 ⟨rfl, hS1⟩
            go_wp2_with fail
            refine hK.out _ _ hS1 (fun _ => ?_)
            clear hK K
            refine wpAnyH_take (i := 4) (v := ?_) rfl (by kernel_rfl) (by kernel_rfl) (by kernel_rfl) (fun _ _ _ h => h) (Or.inl ⟨by rfl, ?_⟩) (by assumption) ?_
            rotate_left 1
            · (intro w hSw; go_simp; try (with_reducible rfl))
            refine wpAnyH_ready (rs := [8]) (by kernel_rfl) (by simp) ?_
            refine AllReadyH.cons rfl (fun K hK => ?_) AllReadyH.nil
            go_simp
            refine (hj2 _ (by assumption)).mono ?_
            rintro e v1 ⟨rfl, hS2⟩
            go_wp2_with fail
            refine hK.out _ _ hS2 (fun _ => ?_)
            clear hK K
            refine wpAnyH_take (i := 9) (v := ?_) rfl (by kernel_rfl) (by kernel_rfl) (by kernel_rfl) (fun _ _ _ h => h) (Or.inl ⟨by rfl, ?_⟩) (by assumption) ?_
            rotate_left 1
            · (intro w hSw; go_simp; try (with_reducible rfl))
            refine wpAnyH_take (i := 10) (v := ?_) rfl (by kernel_rfl) (by kernel_rfl) (by kernel_rfl) (fun _ _ _ h => h) (Or.inl ⟨by rfl, ?_⟩) (by assumption) ?_
            rotate_left 1
            · (intro w hSw; go_simp; try (with_reducible rfl))
            refine wpAnyH_take (i := 11) (v := ?_) rfl (by kernel_rfl) (by kernel_rfl) (by kernel_rfl) (fun _ _ _ h => h) (Or.inl ⟨by rfl, ?_⟩) (by assumption) ?_
            rotate_left 1
            · (intro w hSw; go_simp; try (with_reducible rfl))
            refine wpAnyH_done (by kernel_rfl) ?_ _
            go_wp2
            go_ret2
            rw [HF.out]
            exact ⟨rfl, Nm.below_two hbel hS2⟩
          · clear hj2a
            have hj2 := hj2b
            clear hj2b
            go_wp2_with (go_at_call 25; refine hg0.mono ?_; rintro e w2 ⟨rfl, hw⟩; obtain rfl : wr = w2 := hw.symm; clear hw)
            refine wp_region_held_drew (S := fun w' => Below wr.heap.size wr w') (by kernel_rfl) hS0 (fun hHeld => ?_)
            refine wpAnyH_take (i := 0) (v := ?_) rfl (by kernel_rfl) (by kernel_rfl) (by kernel_rfl) (fun _ _ _ h => h) (Or.inl ⟨by rfl, ?_⟩) (by assumption) ?_
            rotate_left 1
            · (intro w hSw; go_simp; try (with_reducible rfl))
            refine wpAnyH_take (i := 1) (v := ?_) rfl (by kernel_rfl) (by kernel_rfl) (by kernel_rfl) (fun _ _ _ h => h) (Or.inl ⟨by rfl, ?_⟩) (by assumption) ?_
            rotate_left 1
            · (intro w hSw; go_simp; try (with_reducible rfl))
            refine wpAnyH_take (i := 2) (v := ?_) rfl (by kernel_rfl) (by kernel_rfl) (by kernel_rfl) (fun _ _ _ h => h) (Or.inl ⟨by rfl, ?_⟩) (by assumption) ?_
            rotate_left 1
            · (intro w hSw; go_simp; try (with_reducible rfl))
            refine wpAnyH_take (i := 5) (v := ?_) rfl (by kernel_rfl) (by kernel_rfl) (by kernel_rfl) (fun _ _ _ h => h) (Or.inl ⟨by rfl, ?_⟩) (by assumption) ?_
            rotate_left 1
            · (intro w hSw; go_simp; try (with_reducible rfl))
            refine wpAnyH_take (i := 6) (v := ?_) rfl (by kernel_rfl) (by kernel_rfl) (by kernel_rfl) (fun _ _ _ h => h) (Or.inl ⟨by rfl, ?_⟩) (by assumption) ?_
            rotate_left 1
            · (intro w hSw; go_simp; try (with_reducible rfl))
            refine wpAnyH_take (i := 7) (v := ?_) rfl (by kernel_rfl) (by kernel_rfl) (by kernel_rfl) (fun _ _ _ h => h) (Or.inl ⟨by rfl, ?_⟩) (by assumption) ?_
            rotate_left 1
            · (intro w hSw; go_simp; try (with_reducible rfl))
            refine wpAnyH_ready (rs := [3]) (by kernel_rfl) (by simp) ?_
            refine AllReadyH.cons rfl (fun K hK => ?_) AllReadyH.nil
            go_simp
            refine (hj1 _ (by assumption)).mono ?_
            rintro e v0 ⟨rfl, hS1⟩
            go_wp2_with fail
            refine hK.out _ _ hS1 (fun _ => ?_)
            clear hK K
            refine wpAnyH_take (i := 4) (v := ?_) rfl (by kernel_rfl) (by kernel_rfl) (by kernel_rfl) (fun _ _ _ h => h) (Or.inl ⟨by rfl, ?_⟩) (by assumption) ?_
            rotate_left 1
            · (intro w hSw; go_simp; try (with_reducible rfl))
            refine wpAnyH_ready (rs := [8]) (by kernel_rfl) (by simp) ?_
            refine AllReadyH.cons rfl (fun K hK => ?_) AllReadyH.nil
            go_simp
            refine (hj2 _ (by assumption)).mono ?_
            rintro e v1 ⟨rfl, hS2⟩
            go_wp2_with fail
            refine hK.out _ _ hS2 (fun _ => ?_)
            clear hK K
            refine wpAnyH_take (i := 9) (v := ?_) rfl (by kernel_rfl) (by kernel_rfl) (by kernel_rfl) (fun _ _ _ h => h) (Or.inl ⟨by rfl, ?_⟩) (by assumption) ?_
            rotate_left 1
            · (intro w hSw; go_simp; try (with_reducible rfl))
            refine wpAnyH_take (i := 10) (v := ?_) rfl (by kernel_rfl) (by kernel_rfl) (by kernel_rfl) (fun _ _ _ h => h) (Or.inl ⟨by rfl, ?_⟩) (by assumption) ?_
            rotate_left 1
            · (intro w hSw; go_simp; try (with_reducible rfl))
            refine wpAnyH_take (i := 11) (v := ?_) rfl (by kernel_rfl) (by kernel_rfl) (by kernel_rfl) (fun _ _ _ h => h) (Or.inl ⟨by rfl, ?_⟩) (by assumption) ?_
            rotate_left 1
            · (intro w hSw; go_simp; try (with_reducible rfl))
            refine wpAnyH_done (by kernel_rfl) ?_ _
            go_wp2
            go_ret2
            rw [HF.out]
            exact ⟨rfl, Nm.below_two hbel hS2⟩
  · have HR := Nm.hide (showV6_bad h16)
    have hn16 : ((s.size : Int) != 16) = true := by simp; omega
    go_enter Tryd.func5, Tryd.ntmps5
    go_wp2
    go_ret2
    rw [HR.out]
    exact ⟨rfl, Below.refl _ _⟩
end Go.Proofs.YtjokdmmlofbknaaDoor
