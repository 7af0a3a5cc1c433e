/- spec.ReplaceTail by its contract. -/
import Derived.Test.YtakonfkefoeenagRepl
import Derived.Test.YtakonfkefoeenagSMake
namespace Go.Proofs.Ytakonfkefoeenag
open Go.RowKit

set_option maxRecDepth 100000 in
set_option maxHeartbeats 800000 in
theorem specReplaceTail_any (a b c : ByteArray) (w : World) (ha : a.size ≤ maxLen) (hb : b.size ≤ maxLen) (hc : c.size ≤ maxLen) :
    Calls Try.prog 10 #[.string a, .string b, .string c] w fun e w' => e = .returned (.tuple #[.string (replS a b c).1, .int .i64 (replS a b c).2]) ∧ Below w.heap.size w w' := by
  have hsa := l01Split_any a w ha
  have hsb := fun W => l01Split_any b W hb
  have hsc := fun W => l01Split_any c W hc
  by_cases hbad : Nm.split a = none ∨ Nm.split b = none ∨ Nm.split c = none
  · have HA := Nm.hide (repl_bad hbad)
    have hg : ((Nm.split a).isSome = false) ∨ ((Nm.split a).isSome = true ∧ (Nm.split b).isSome = false) ∨ ((Nm.split a).isSome = true ∧ (Nm.split b).isSome = true ∧ (Nm.split c).isSome = false) := by
      cases h1 : Nm.split a <;> cases h2 : Nm.split b <;> cases h3 : Nm.split c <;> simp_all
    clear hbad
    generalize Nm.split a = sa at *
    generalize Nm.split b = sb at *
    generalize Nm.split c = sc at *
    rcases hg with h1 | ⟨h1, h2⟩ | ⟨h1, h2, h3⟩
    all_goals
      go_enter Try.func10, Try.ntmps10
      go_wp2_with fail
      refine hsa.mono ?_
      rintro e w1 ⟨v, rfl, hown, hbel⟩
      go_wp2_with fail
      refine (hsb _).mono ?_
      rintro e w2 ⟨v2, rfl, hown2, hbel2⟩
      go_wp2_with fail
      refine (hsc _).mono ?_
      rintro e w3 ⟨v3, rfl, hown3, hbel3⟩
      have hb4 := Nm.below_two (Nm.below_two hbel hbel2) hbel3
      clear hown hown2 hown3
      go_wp2
      go_ret2
      rw [HA.out]
      exact ⟨rfl, hb4⟩
  · obtain ⟨xs, hqa⟩ : ∃ xs, Nm.split a = some xs := Option.ne_none_iff_exists'.1 (fun h => hbad (.inl h))
    obtain ⟨ys, hqb⟩ : ∃ ys, Nm.split b = some ys := Option.ne_none_iff_exists'.1 (fun h => hbad (.inr (.inl h)))
    obtain ⟨zs, hqc⟩ : ∃ zs, Nm.split c = some zs := Option.ne_none_iff_exists'.1 (fun h => hbad (.inr (.inr h)))
    have hza := Nm.split_size hqa
    have hzb := Nm.split_size hqb
    have hzc := Nm.split_size hqc
    have hla := Nm.length_le_wsum xs
    have hlb := Nm.length_le_wsum ys
    have hlc := Nm.length_le_wsum zs
    have hisu := fun W => specIsUnder_any a b W ha hb
    rw [isUnder_some hqa hqb] at hisu
    have hzone := repl_zone hqa hqb hqc
    have hgood := repl_good hqa hqb hqc
    rw [hqa] at hsa
    rw [hqb] at hsb
    rw [hqc] at hsc
    clear hbad hqa hqb hqc
    obtain ⟨i0, hi, hz0, hz1, hz2⟩ := info_parts Try.infoStr
    by_cases hno : ¬ (underB xs ys = true ∧ xs.length ≠ ys.length)
    · have HA := Nm.hide (hzone hno)
      clear hzone hgood
      cases hu : underB xs ys with
      | false =>
        rw [hu] at hisu
        clear hno
        go_enter Try.func10, Try.ntmps10
        go_wp2_with fail
        refine hsa.mono ?_
        rintro e w1 ⟨v, rfl, hown, hbel⟩
        go_wp2_with fail
        refine (hsb _).mono ?_
        rintro e w2 ⟨v2, rfl, hown2, hbel2⟩
        go_wp2_with fail
        refine (hsc _).mono ?_
        rintro e w3 ⟨v3, rfl, hown3, hbel3⟩
        have hb4 := Nm.below_two (Nm.below_two hbel hbel2) hbel3
        clear hown hown2 hown3
        go_wp2_with fail
        refine (hisu _).mono ?_
        rintro e w4 ⟨rfl, hbel4⟩
        go_wp2
        go_ret2
        rw [HA.out]
        exact ⟨rfl, Nm.below_two hb4 hbel4⟩
      | true =>
        rw [hu] at hisu
        have heq : ((xs.length : Int) == (ys.length : Int)) = true := by
          have : xs.length = ys.length := Classical.byContradiction (fun h => hno ⟨hu, h⟩)
          simp [this]
        clear hno
        go_enter Try.func10, Try.ntmps10
        go_wp2_with fail
        refine hsa.mono ?_
        rintro e w1 ⟨v, rfl, hown, hbel⟩
        go_wp2_with fail
        refine (hsb _).mono ?_
        rintro e w2 ⟨v2, rfl, hown2, hbel2⟩
        go_wp2_with fail
        refine (hsc _).mono ?_
        rintro e w3 ⟨v3, rfl, hown3, hbel3⟩
        have hb4 := Nm.below_two (Nm.below_two hbel hbel2) hbel3
        obtain ⟨a1, cap1, rfl, hcap1, hmx1, hnl1, hc1⟩ := Nm.SRow.of_owns hown
        obtain ⟨a2, cap2, rfl, hcap2, hmx2, hnl2, hc2⟩ := Nm.SRow.of_owns hown2
        simp only [Option.getD_some] at *
        clear hown hown2 hown3 hc1 hc2 hnl1 hnl2
        go_wp2_with fail
        refine (hisu _).mono ?_
        rintro e w4 ⟨rfl, hbel4⟩
        go_wp2
        go_ret2
        rw [HA.out]
        exact ⟨rfl, Nm.below_two hb4 hbel4⟩
    · have hyes : underB xs ys = true ∧ xs.length ≠ ys.length := Classical.byContradiction hno
      have HA := Nm.hide (hgood hyes)
      have hu := hyes.1
      have hlt : ys.length < xs.length := by
        have h1 := hyes.1
        have h2 := hyes.2
        rw [underB] at h1
        simp at h1
        omega
      rw [hu] at hisu
      have heq : ((xs.length : Int) == (ys.length : Int)) = false := by rw [beq_eq_false_iff_ne]; omega
      obtain ⟨d, hdd⟩ : ∃ d, d = xs.length - ys.length := ⟨_, rfl⟩
      rw [← hdd] at HA
      have hq : (xs.length : Int) - (ys.length : Int) = (d : Int) := by omega
      have hdl : d ≤ xs.length := by omega
      have hwt := Nm.wsum_take_le xs d
      have hwa := Nm.wsum_append (xs.take d) zs
      have hmk := fun V W h => specMakeName_any V (xs.take d ++ zs) W h
      generalize makeS (xs.take d ++ zs) = M at *
      clear hzone hgood hno hyes hu hdd
      go_enter Try.func10, Try.ntmps10
      go_wp2_with fail
      refine hsa.mono ?_
      rintro e w1 ⟨v, rfl, hown, hbel⟩
      go_wp2_with fail
      refine (hsb _).mono ?_
      rintro e w2 ⟨v2, rfl, hown2, hbel2⟩
      go_wp2_with fail
      refine (hsc _).mono ?_
      rintro e w3 ⟨v3, rfl, hown3, hbel3⟩
      have hb4 := Nm.below_two (Nm.below_two hbel hbel2) hbel3
      have r1 := ((Nm.SRow.of_owns hown).below hbel2).below hbel3
      have r2 := (Nm.SRow.of_owns hown2).below hbel3
      have r3 := Nm.SRow.of_owns hown3
      simp only [Option.getD_some] at r1 r2 r3
      have r1' := r1
      have r3' := r3
      obtain ⟨a1, cap1, rfl, hcap1, hmx1, hnl1, hc1⟩ := r1
      obtain ⟨a2, cap2, rfl, hcap2, hmx2, hnl2, hc2⟩ := r2
      obtain ⟨a3, cap3, rfl, hcap3, hmx3, hnl3, hc3⟩ := r3
      clear hown hown2 hown3 hnl1 hnl2 hnl3 hc1 hc2 hc3
      go_wp2_with fail
      refine (hisu _).mono ?_
      rintro e w4 ⟨rfl, hbel4⟩
      have r1'' := r1'.below hbel4
      have r3'' := r3'.below hbel4
      obtain ⟨_, _, e1, _, _, _, hc1⟩ := r1''
      simp only [Value.slice.injEq] at e1
      obtain ⟨rfl, _, rfl⟩ := e1
      obtain ⟨_, _, e3, _, _, _, hc3⟩ := r3''
      simp only [Value.slice.injEq] at e3
      obtain ⟨rfl, _, rfl⟩ := e3
      have hb5 := Nm.below_two hb4 hbel4
      clear r1' r3' hisu hbel hbel2 hbel3 hbel4 hb4
      go_wp2
      go_loopw [14, 15] (fun v i wr => ∃ k : Nat, k ≤ d ∧ i = .int .i64 k ∧ wr.ownsRow w4.heap.size 9 1 v (xs.take k).length ((xs.take k).map Value.string) ∧ Below w4.heap.size w4 wr)
        (fun _ i _ => d - (intOf i).toNat)
      case atStart => exact ⟨0, Nat.zero_le _, rfl, World.ownsRow_made w4 #[] 0 (Nat.le_refl _) (by decide) rfl, (Below.refl _ _).alloc (Nat.le_refl _) _⟩
      case round =>
        obtain ⟨k, hk, rfl, hownk, hbelk⟩ := hrel
        have hszk := hbelk.size
        have hlk : (xs.take k).length = k := by simp; omega
        by_cases hkd : k < d
        · obtain ⟨x, hx⟩ : ∃ x, xs[k]? = some x := ⟨_, List.getElem?_eq_getElem (by omega)⟩
          obtain ⟨b1, off1, rfl, hcell⟩ := hc1 (by intro h; rw [h] at hlt; simp at hlt)
          have hcx : wr.cell? ⟨b1, off1 + k, none⟩ = some (.string x) := (hbelk.cell (World.block_lt_of_cell? w4 _ (hcell k x hx))).trans (hcell k x hx)
          have HT := Nm.hide (Nm.take_step hx)
          have HLK := Nm.hide hlk
          clear hx hcell hc1 hc3 hlk hmk
          go_wp2_with (at_builtin; refine wpList_append_own _ rfl (.tmp 63) (.tmp 68) 30 rfl w4.heap.size 9 i0 (.string ByteArray.empty) 1 16 Try.underlying30 hi hz0 hz1 hz2 rfl (by decide) _ _ _ rfl (hownk.alloc _) ⟨wr.heap.size, 0, none⟩ 1 1 [.string x] rfl rfl (cell_one_new _ _ _) (Nm.one_cell _ rfl) (by have := HLK.out; unfold maxLen; omega) (by have := HLK.out; omega) (by simp; omega) ?_; intro v' w5 hown' hgrow hnl'; clear hnl'; have R := own_step hszk hownk hbelk _ hown' hgrow; clear hown' hgrow)
          go_roundw
          case rel => exact ⟨k + 1, by omega, by go_num, by rw [HT.out]; exact R.1, R.2⟩
          case measure => simp [intOf]; omega
        · have hke : k = d := by omega
          subst hke
          clear hc1
          go_wp2
          go_loopw [14, 16] (fun v i wi => ∃ j : Nat, j ≤ zs.length ∧ i = .int .i64 j ∧ wi.ownsRow w4.heap.size 9 1 v (xs.take k ++ zs.take j).length ((xs.take k ++ zs.take j).map Value.string) ∧ Below w4.heap.size w4 wi)
            (fun _ i _ => zs.length - (intOf i).toNat)
          case atStart => exact ⟨0, Nat.zero_le _, rfl, by simpa using hownk, hbelk⟩
          case round =>
            obtain ⟨j, hj, rfl, hownj, hbelj⟩ := hrel
            have hszj := hbelj.size
            have hlj : (xs.take k ++ zs.take j).length = k + j := by simp; omega
            clear hownk hbelk hszk
            by_cases hjz : j < zs.length
            · obtain ⟨x, hx⟩ : ∃ x, zs[j]? = some x := ⟨_, List.getElem?_eq_getElem hjz⟩
              obtain ⟨b3, off3, rfl, hcell⟩ := hc3 (by intro h; rw [h] at hjz; simp at hjz)
              have hcx : wr.cell? ⟨b3, off3 + j, none⟩ = some (.string x) := (hbelj.cell (World.block_lt_of_cell? w4 _ (hcell j x hx))).trans (hcell j x hx)
              have HT := Nm.hide (Nm.take_step hx)
              have HLK := Nm.hide hlj
              clear hx hcell hc3 hlj hmk hlk
              go_wp2_with (at_builtin; refine wpList_append_own _ rfl (.tmp 76) (.tmp 81) 30 rfl w4.heap.size 9 i0 (.string ByteArray.empty) 1 16 Try.underlying30 hi hz0 hz1 hz2 rfl (by decide) _ _ _ rfl (hownj.alloc _) ⟨wr.heap.size, 0, none⟩ 1 1 [.string x] rfl rfl (cell_one_new _ _ _) (Nm.one_cell _ rfl) (by have := HLK.out; unfold maxLen; omega) (by have := HLK.out; omega) (by simp; omega) ?_; intro v' w5 hown' hgrow hnl'; clear hnl'; have R := own_step hszj hownj hbelj _ hown' hgrow; clear hown' hgrow)
              go_roundw
              case rel => exact ⟨j + 1, by omega, by go_num, by rw [HT.out, ← List.append_assoc]; exact R.1, R.2⟩
              case measure => simp [intOf]; omega
            · have hje : j = zs.length := by omega
              subst hje
              rw [List.take_length] at hownj
              have hr := Nm.SRow.of_owns hownj
              clear hownj hc3 hlj hlk
              go_wp2_with fail
              refine (hmk _ _ hr).mono ?_
              rintro e w6 ⟨rfl, hbel6⟩
              go_wp2
              go_ret2
              rw [HA.out]
              exact ⟨rfl, Nm.below_two hb5 (Nm.below_two hbelj hbel6)⟩
end Go.Proofs.Ytakonfkefoeenag
