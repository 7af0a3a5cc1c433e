import Derived.Test.YtmaopfagkffccaaGreatJPartsM
import Derived.Test.YtmaopfagkffccaaGreatJMath
import Derived.Test.YtmaopfagkffccaaGreatData2
import Derived.Test.YtmaopfagkffccaaGreatData3
import Derived.Test.YtmaopfagkffccaaGreatJPtM
import Derived.Test.YtmaopfagkffccaaGreatRows
import Derived.RegionTactic
import Derived.BigRegion
import Derived.Test.YtmaopfagkffccaaGreatJBytesRow
import Derived.Laws.OwnMore
import Derived.Test.YtmaopfagkffccaaGreatJTake2
import Derived.Laws.IdiomCopy
import Derived.Test.YtmaopfagkffccaaGreatData1
import Derived.Test.YtmaopfagkffccaaGreatJMvM
import Derived.Test.YtmaopfagkffccaaGreatJTake1
/- spec.l02Parts by its contract. -/
namespace Go.Proofs.YtmaopfagkffccaaGreat
open Go.RowKit

/-- The letters that a form is made of. -/
def okForm (f : ByteArray) : Prop := f.size ≤ 100 ∧ ∀ k, (h : k < f.size) → f[k] = 110 ∨ f[k] = 98 ∨ f[k] = 116 ∨ f[k] = 115 ∨ f[k] = 99 ∨ f[k] = 109 ∨ f[k] = 42

set_option maxRecDepth 100000 in
set_option maxHeartbeats 40000000 in
theorem l02Parts_any (f d0 : ByteArray) (w : World) (hf : okForm f) (hd : d0.size ≤ 65535) :
    Calls Tryz.prog 81 #[.string f, .string d0] w fun e w' => ∃ v, e = .returned (.tuple #[v, .bool (Dt.parts (f.data.toList.map Dt.letP) d0).isSome]) ∧
      (∀ ps, Dt.parts (f.data.toList.map Dt.letP) d0 = some ps → w'.ownsRow w.heap.size 9 1 v ps.length (ps.map Value.string)) ∧ Below w.heap.size w w' := by
  obtain ⟨i0, hi, hz0, hz1, hz2⟩ := info_parts Tryz.infoStr
  obtain ⟨hf1, hf2⟩ := hf
  have hst := Dt.pat_start (f.data.toList.map Dt.letP) d0
  go_enter Tryz.func81, Tryz.ntmps81
  go_wp2
  go_loopw [6, 1, 7] (fun v x i wr => ∃ (k : Nat) (ps : List ByteArray) (d : ByteArray), k ≤ f.size ∧ i = .int .i64 k ∧ x = .string d ∧ d.size ≤ d0.size ∧ ps.length = k ∧ Dt.PAt (f.data.toList.map Dt.letP) d0 ps ((f.data.toList.map Dt.letP).drop k) d ∧ wr.ownsRow w.heap.size 9 1 v ps.length (ps.map Value.string) ∧ Below w.heap.size w wr)
    (fun _ _ i _ => f.size - (intOf i).toNat)
  case atStart => exact ⟨0, [], d0, Nat.zero_le _, rfl, rfl, Nat.le_refl _, rfl, by simpa using hst, World.ownsRow_made w #[] 0 (Nat.le_refl _) (by decide) rfl, (Below.refl _ _).alloc (Nat.le_refl _) _⟩
  case round =>
    obtain ⟨k, ps, d, hk, rfl, rfl, hdz, hpl, hat, hown, hbel⟩ := hrel
    have hsz := hbel.size
    have hpb : ps.length ≤ 100 := by omega
    have HPL := Nm.hide hpl
    clear hst hpl
    by_cases hlt : k < f.size
    · have hlt' : (k : Int) < (f.size : Int) := by omega
      rw [Dt.drop_let hlt] at hat
      rcases hf2 k hlt with hc | hc | hc | hc | hc | hc | hc
      · skip
        rw [hc] at hat
        have hv : f[k].toNat = 110 := by rw [hc]; rfl
        have q1 : ((f[k].toNat : Int) == 110) = true := by rw [beq_iff_eq]; omega
        have q8 : ((f[k].toNat : Int) != 109) = true := by rw [bne_iff_ne]; omega
        have q9 : ((f[k].toNat : Int) != 42) = true := by rw [bne_iff_ne]; omega
        clear hv hc hf2
        have hcall := l02NameAt_any d
        by_cases h0 : (Dt.nameAtS d).size = 0
        · have HN := Nm.hide (Dt.pat_none hat (by show Dt.sz .nm d = none; rw [Dt.sz, if_pos h0]))
          obtain ⟨e1, e2⟩ := beq_empty h0
          clear hat
          go_wp2_with (go_at_call 88; refine (hcall _).mono ?_; rintro e w2 ⟨rfl, hw⟩; obtain rfl : wr = w2 := hw.symm; clear hw)
          go_ret2
          rw [HN.out]
          exact ⟨_, rfl, (fun ps h => by cases h), hbel⟩
        · have HN := Nm.hide (Dt.pat_step hat (n := (Dt.nameAtS d).size) (by show Dt.sz .nm d = some _; rw [Dt.sz, if_neg h0]) (Dt.name_ext d h0))
          obtain ⟨e1, e2⟩ := not_empty (s := Dt.nameAtS d) (by omega)
          have hle := Dt.name_le d
          have hle' : ((Dt.nameAtS d).size : Int) ≤ (d.size : Int) := by omega
          clear hat h0
          generalize Dt.nameAtS d = P at *
          go_wp2_with (first | (go_at_call 88; refine (hcall _).mono ?_; rintro e w2 ⟨rfl, hw⟩; obtain rfl : wr = w2 := hw.symm; clear hw) | (at_builtin; refine wpList_append_own _ rfl (.tmp 96) (.tmp 98) 93 rfl w.heap.size 9 i0 (.string ByteArray.empty) 1 16 Tryz.underlying93 hi hz0 hz1 hz2 rfl (by decide) _ _ _ rfl (hown.alloc _) ⟨wr.heap.size, 0, none⟩ 1 1 [.string P] rfl rfl (cell_new1 _ _ _) (Nm.one_cell _ rfl) (by unfold maxLen; omega) (by omega) (by simp; omega) ?_))
          · intro v' w1 hown' hgrow _
            have R := own_step hsz hown hbel _ hown' hgrow
            clear hown' hgrow hown hbel
            go_wp2
            go_roundw
            case rel => exact ⟨k + 1, _, _, by omega, by go_num, rfl, by simp <;> omega, by have := HPL.out; simp; omega, HN.out, R.1, R.2⟩
            case measure => simp [intOf]; omega
      · skip
        rw [hc] at hat
        have hv : f[k].toNat = 98 := by rw [hc]; rfl
        have q1 : ((f[k].toNat : Int) == 110) = false := by rw [beq_eq_false_iff_ne]; omega
        have q2 : ((f[k].toNat : Int) == 98) = true := by rw [beq_iff_eq]; omega
        have q8 : ((f[k].toNat : Int) != 109) = true := by rw [bne_iff_ne]; omega
        have q9 : ((f[k].toNat : Int) != 42) = true := by rw [bne_iff_ne]; omega
        clear hv hc hf2
        by_cases h0 : d.size = 0
        · have HN := Nm.hide (Dt.pat_none hat (by show Dt.sz (.bs 1) d = none; rw [Dt.sz, if_neg (by omega)]))
          obtain ⟨e1, e2⟩ := beq_empty h0
          clear hat
          go_wp2
          go_ret2
          rw [HN.out]
          exact ⟨_, rfl, (fun ps h => by cases h), hbel⟩
        · have hs1 : (d.extract 0 1).size = 1 := by simp; omega
          have HN := Nm.hide (Dt.pat_step hat (n := 1) (x := d.extract 0 1) (by show Dt.sz (.bs 1) d = some _; rw [Dt.sz, if_pos (by omega)]) rfl)
          rw [hs1] at HN
          obtain ⟨e1, e2⟩ := not_empty (s := d) (by omega)
          obtain ⟨e3, e4⟩ := not_empty (s := d.extract 0 1) (by omega)
          have hle' : (1 : Int) ≤ (d.size : Int) := by omega
          have hle : 1 ≤ d.size := by omega
          clear hat h0
          go_wp2_with (first | (fail) | (at_builtin; refine wpList_append_own _ rfl (.tmp 96) (.tmp 98) 93 rfl w.heap.size 9 i0 (.string ByteArray.empty) 1 16 Tryz.underlying93 hi hz0 hz1 hz2 rfl (by decide) _ _ _ rfl (hown.alloc _) ⟨wr.heap.size, 0, none⟩ 1 1 [.string (d.extract 0 1)] rfl rfl (cell_new1 _ _ _) (Nm.one_cell _ rfl) (by unfold maxLen; omega) (by omega) (by simp; omega) ?_))
          · intro v' w1 hown' hgrow _
            have R := own_step hsz hown hbel _ hown' hgrow
            clear hown' hgrow hown hbel
            go_wp2
            go_roundw
            case rel => exact ⟨k + 1, _, _, by omega, by go_num, rfl, by simp <;> omega, by have := HPL.out; simp; omega, HN.out, R.1, R.2⟩
            case measure => simp [intOf]; omega
      · skip
        rw [hc] at hat
        have hv : f[k].toNat = 116 := by rw [hc]; rfl
        have q1 : ((f[k].toNat : Int) == 110) = false := by rw [beq_eq_false_iff_ne]; omega
        have q2 : ((f[k].toNat : Int) == 98) = false := by rw [beq_eq_false_iff_ne]; omega
        have q3 : ((f[k].toNat : Int) == 116) = true := by rw [beq_iff_eq]; omega
        have q8 : ((f[k].toNat : Int) != 109) = true := by rw [bne_iff_ne]; omega
        have q9 : ((f[k].toNat : Int) != 42) = true := by rw [bne_iff_ne]; omega
        clear hv hc hf2
        have hcall := fun w => l02Text_any d w (by unfold maxLen; omega)
        by_cases h0 : (Dt.txtS d).size = 0
        · have HN := Nm.hide (Dt.pat_none hat (by show Dt.sz .tx d = none; rw [Dt.sz, if_pos h0]))
          obtain ⟨e1, e2⟩ := beq_empty h0
          clear hat
          go_wp2_with (go_at_call 89; refine (hcall _).mono ?_; rintro e w2 ⟨rfl, hw⟩; obtain rfl : wr = w2 := hw.symm; clear hw)
          go_ret2
          rw [HN.out]
          exact ⟨_, rfl, (fun ps h => by cases h), hbel⟩
        · have HN := Nm.hide (Dt.pat_step hat (n := (Dt.txtS d).size) (by show Dt.sz .tx d = some _; rw [Dt.sz, if_neg h0]) (Dt.txt_ext d))
          obtain ⟨e1, e2⟩ := not_empty (s := Dt.txtS d) (by omega)
          have hle := Dt.txt_le d
          have hle' : ((Dt.txtS d).size : Int) ≤ (d.size : Int) := by omega
          clear hat h0
          generalize Dt.txtS d = P at *
          go_wp2_with (first | (go_at_call 89; refine (hcall _).mono ?_; rintro e w2 ⟨rfl, hw⟩; obtain rfl : wr = w2 := hw.symm; clear hw) | (at_builtin; refine wpList_append_own _ rfl (.tmp 96) (.tmp 98) 93 rfl w.heap.size 9 i0 (.string ByteArray.empty) 1 16 Tryz.underlying93 hi hz0 hz1 hz2 rfl (by decide) _ _ _ rfl (hown.alloc _) ⟨wr.heap.size, 0, none⟩ 1 1 [.string P] rfl rfl (cell_new1 _ _ _) (Nm.one_cell _ rfl) (by unfold maxLen; omega) (by omega) (by simp; omega) ?_))
          · intro v' w1 hown' hgrow _
            have R := own_step hsz hown hbel _ hown' hgrow
            clear hown' hgrow hown hbel
            go_wp2
            go_roundw
            case rel => exact ⟨k + 1, _, _, by omega, by go_num, rfl, by simp <;> omega, by have := HPL.out; simp; omega, HN.out, R.1, R.2⟩
            case measure => simp [intOf]; omega
      · skip
        rw [hc] at hat
        have hv : f[k].toNat = 115 := by rw [hc]; rfl
        have q1 : ((f[k].toNat : Int) == 110) = false := by rw [beq_eq_false_iff_ne]; omega
        have q2 : ((f[k].toNat : Int) == 98) = false := by rw [beq_eq_false_iff_ne]; omega
        have q3 : ((f[k].toNat : Int) == 116) = false := by rw [beq_eq_false_iff_ne]; omega
        have q4 : ((f[k].toNat : Int) == 115) = true := by rw [beq_iff_eq]; omega
        have q8 : ((f[k].toNat : Int) != 109) = true := by rw [bne_iff_ne]; omega
        have q9 : ((f[k].toNat : Int) != 42) = true := by rw [bne_iff_ne]; omega
        clear hv hc hf2
        have htst := Dt.tat_start d
        go_wp2
        go_loop [8] (fun v => ∃ p, v = .string p ∧ Dt.TAt d p) (fun v => match v with | .string p => d.size - p.size | _ => 0)
        case atStart => exact ⟨_, rfl, htst⟩
        case round =>
          obtain ⟨p, rfl, ht⟩ := hrel
          clear htst
          have hple := ht.1
          have hple' : (p.size : Int) ≤ (d.size : Int) := by omega
          have hcall := fun w => l02Text_any (d.extract p.size d.size) w (by unfold maxLen; simp; omega)
          by_cases h0 : (Dt.txtS (d.extract p.size d.size)).size = 0
          · obtain ⟨e1, e2⟩ := beq_empty h0
            have hts := Dt.tat_end ht h0
            by_cases hp0 : p.size = 0
            · have HN := Nm.hide (Dt.pat_none hat (by show Dt.sz .txs d = none; rw [Dt.sz, if_pos (by omega)]))
              obtain ⟨e3, e4⟩ := beq_empty hp0
              clear hat ht h0 hts hp0
              go_wp2_with (go_at_call 89; refine (hcall _).mono ?_; rintro e w2 ⟨rfl, hw⟩; obtain rfl : wr = w2 := hw.symm; clear hw)
              go_ret2
              rw [HN.out]
              exact ⟨_, rfl, (fun ps h => by cases h), hbel⟩
            · have HN := Nm.hide (Dt.pat_step hat (n := p.size) (by show Dt.sz .txs d = some _; rw [Dt.sz, if_neg (by omega), hts]) ht.2.1)
              obtain ⟨e3, e4⟩ := not_empty (s := p) (by omega)
              clear hat ht h0 hts hp0
              go_wp2_with (first | (go_at_call 89; refine (hcall _).mono ?_; rintro e w2 ⟨rfl, hw⟩; obtain rfl : wr = w2 := hw.symm; clear hw) | (at_builtin; refine wpList_append_own _ rfl (.tmp 96) (.tmp 98) 93 rfl w.heap.size 9 i0 (.string ByteArray.empty) 1 16 Tryz.underlying93 hi hz0 hz1 hz2 rfl (by decide) _ _ _ rfl (hown.alloc _) ⟨wr.heap.size, 0, none⟩ 1 1 [.string p] rfl rfl (cell_new1 _ _ _) (Nm.one_cell _ rfl) (by unfold maxLen; omega) (by omega) (by simp; omega) ?_))
              · intro v' w1 hown' hgrow _
                have R := own_step hsz hown hbel _ hown' hgrow
                clear hown' hgrow hown hbel
                go_wp2
                go_roundw
                case rel => exact ⟨k + 1, _, _, by omega, by go_num, rfl, by simp <;> omega, by have := HPL.out; simp; omega, HN.out, R.1, R.2⟩
                case measure => simp [intOf]; omega
          · obtain ⟨e1, e2⟩ := not_empty (s := Dt.txtS (d.extract p.size d.size)) (by omega)
            have HT := Nm.hide (Dt.tat_step ht h0)
            have hle := Dt.txt_le (d.extract p.size d.size)
            have hdz2 : (d.extract p.size d.size).size = d.size - p.size := by simp
            rw [hdz2] at hle
            clear ht hat
            generalize Dt.txtS (d.extract p.size d.size) = T at *
            go_wp2_with (go_at_call 89; refine (hcall _).mono ?_; rintro e w2 ⟨rfl, hw⟩; obtain rfl : wr = w2 := hw.symm; clear hw)
            go_round
            case rel => exact ⟨_, rfl, HT.out⟩
            case measure => simp; omega
      · skip
        rw [hc] at hat
        have hv : f[k].toNat = 99 := by rw [hc]; rfl
        have q1 : ((f[k].toNat : Int) == 110) = false := by rw [beq_eq_false_iff_ne]; omega
        have q2 : ((f[k].toNat : Int) == 98) = false := by rw [beq_eq_false_iff_ne]; omega
        have q3 : ((f[k].toNat : Int) == 116) = false := by rw [beq_eq_false_iff_ne]; omega
        have q4 : ((f[k].toNat : Int) == 115) = false := by rw [beq_eq_false_iff_ne]; omega
        have q5 : ((f[k].toNat : Int) == 99) = true := by rw [beq_iff_eq]; omega
        have q8 : ((f[k].toNat : Int) != 109) = true := by rw [bne_iff_ne]; omega
        have q9 : ((f[k].toNat : Int) != 42) = true := by rw [bne_iff_ne]; omega
        clear hv hc hf2
        have hcall := fun w => l02Text_any d w (by unfold maxLen; omega)
        have htl := Dt.txt_le d
        by_cases h0 : (Dt.txtS d).size < 2
        · have HN := Nm.hide (Dt.pat_none hat (by show Dt.sz .tagr d = none; rw [Dt.sz, Dt.tag_short (.inl h0)]; rfl))
          have h0' : ((Dt.txtS d).size : Int) < 2 := by omega
          clear hat
          go_wp2_with (go_at_call 89; refine (hcall _).mono ?_; rintro e w2 ⟨rfl, hw⟩; obtain rfl : wr = w2 := hw.symm; clear hw)
          go_ret2
          rw [HN.out]
          exact ⟨_, rfl, (fun ps h => by cases h), hbel⟩
        · have h0' : (2 : Int) ≤ ((Dt.txtS d).size : Int) := by omega
          by_cases h1 : 16 < (Dt.txtS d).size
          · have HN := Nm.hide (Dt.pat_none hat (by show Dt.sz .tagr d = none; rw [Dt.sz, Dt.tag_short (.inr h1)]; rfl))
            have h1' : (16 : Int) < ((Dt.txtS d).size : Int) := by omega
            clear hat
            go_wp2_with (go_at_call 89; refine (hcall _).mono ?_; rintro e w2 ⟨rfl, hw⟩; obtain rfl : wr = w2 := hw.symm; clear hw)
            go_ret2
            rw [HN.out]
            exact ⟨_, rfl, (fun ps h => by cases h), hbel⟩
          · have h1' : ((Dt.txtS d).size : Int) ≤ 16 := by omega
            have htb := fun j (h2 : 1 ≤ j) (h3 : j < (Dt.txtS d).size) => Dt.tag_bad (d := d) (k := j) h2 h3
            have htg := Dt.tag_good (d := d) (by omega) (by omega)
            have hb : Hid (∀ b, Dt.tagB d = b → Dt.sz .tagr d = if b then some d.size else none) := by show ∀ b, _; intro b hb; rw [Dt.sz, hb]
            generalize Dt.txtS d = P at *
            go_wp2_with (go_at_call 89; refine (hcall _).mono ?_; rintro e w2 ⟨rfl, hw⟩; obtain rfl : wr = w2 := hw.symm; clear hw)
            go_loop [9] (fun v => ∃ j : Nat, 1 ≤ j ∧ j ≤ P.size ∧ v = .int .i64 j ∧ ∀ i, 1 ≤ i → i < j → (hi : i < P.size) → Dt.alnumB P[i] = true) (fun v => P.size - (intOf v).toNat)
            case atStart => exact ⟨1, by omega, by omega, rfl, fun i h1 h2 => by omega⟩
            case round =>
              obtain ⟨j, hj1, hj2, rfl, hj⟩ := hrel
              by_cases hjl : j < P.size
              · have hjl' : (j : Int) < (P.size : Int) := by omega
                have hal := l02Alnum_any P[j]
                cases hA : Dt.alnumB P[j] with
                | false =>
                  have HN := Nm.hide (Dt.pat_none hat (by show Dt.sz .tagr d = none; rw [hb.out _ (htb j hj1 hjl hA)]; rfl))
                  rw [hA] at hal
                  clear hat htb htg hb hj hA
                  go_wp2_with (go_at_call 90; refine (hal _).mono ?_; rintro e w2 ⟨rfl, hw⟩; obtain rfl : wr = w2 := hw.symm; clear hw)
                  go_ret2
                  rw [HN.out]
                  exact ⟨_, rfl, (fun ps h => by cases h), hbel⟩
                | true =>
                  have HJ : Hid (∀ i, 1 ≤ i → i < j + 1 → (hi : i < P.size) → Dt.alnumB P[i] = true) := by
                    show ∀ i, _
                    intro i h1 h2 h3
                    by_cases e : i = j
                    · subst e; exact hA
                    · exact hj i h1 (by omega) h3
                  rw [hA] at hal
                  clear hat htb htg hb hj hA
                  go_wp2_with (go_at_call 90; refine (hal _).mono ?_; rintro e w2 ⟨rfl, hw⟩; obtain rfl : wr = w2 := hw.symm; clear hw)
                  go_round
                  case rel => exact ⟨j + 1, by omega, by omega, by go_num, HJ.out⟩
                  case measure => simp [intOf]; omega
              · have hjl' : (P.size : Int) ≤ (j : Int) := by omega
                have htt := htg (fun i h1 h2 => hj i h1 (by omega) h2)
                have HN := Nm.hide (Dt.pat_step hat (n := d.size) (by show Dt.sz .tagr d = some _; rw [hb.out _ htt]; rfl) (Dt.ext_all d))
                rw [Dt.ext_none] at HN
                obtain ⟨e1, e2⟩ := not_empty (s := d) (by omega)
                clear hat htb htg hb hj htt
                go_wp2_with (first | (fail) | (at_builtin; refine wpList_append_own _ rfl (.tmp 96) (.tmp 98) 93 rfl w.heap.size 9 i0 (.string ByteArray.empty) 1 16 Tryz.underlying93 hi hz0 hz1 hz2 rfl (by decide) _ _ _ rfl (hown.alloc _) ⟨wr.heap.size, 0, none⟩ 1 1 [.string d] rfl rfl (cell_new1 _ _ _) (Nm.one_cell _ rfl) (by unfold maxLen; omega) (by omega) (by simp; omega) ?_))
                · intro v' w1 hown' hgrow _
                  have R := own_step hsz hown hbel _ hown' hgrow
                  clear hown' hgrow hown hbel
                  go_wp2
                  go_roundw
                  case rel => exact ⟨k + 1, _, _, by omega, by go_num, rfl, by simp <;> omega, by have := HPL.out; simp; omega, HN.out, R.1, R.2⟩
                  case measure => simp [intOf]; omega
      · skip
        rw [hc] at hat
        have hv : f[k].toNat = 109 := by rw [hc]; rfl
        have q1 : ((f[k].toNat : Int) == 110) = false := by rw [beq_eq_false_iff_ne]; omega
        have q2 : ((f[k].toNat : Int) == 98) = false := by rw [beq_eq_false_iff_ne]; omega
        have q3 : ((f[k].toNat : Int) == 116) = false := by rw [beq_eq_false_iff_ne]; omega
        have q4 : ((f[k].toNat : Int) == 115) = false := by rw [beq_eq_false_iff_ne]; omega
        have q5 : ((f[k].toNat : Int) == 99) = false := by rw [beq_eq_false_iff_ne]; omega
        have q6 : ((f[k].toNat : Int) == 109) = true := by rw [beq_iff_eq]; omega
        have q8 : ((f[k].toNat : Int) != 109) = false := by rw [bne_eq_false_iff_eq]; omega
        have q9 : ((f[k].toNat : Int) != 42) = true := by rw [bne_iff_ne]; omega
        clear hv hc hf2
        have hcall := fun w => l02Map_any d w (by unfold maxLen; omega)
        cases hM : mapS d with
        | false =>
          have HN := Nm.hide (Dt.pat_none hat (by show Dt.sz .mp d = none; rw [Dt.sz, hM]; rfl))
          rw [hM] at hcall
          clear hat hM
          go_wp2_with (go_at_call 91; refine (hcall _).mono ?_; rintro e w2 ⟨rfl, hw⟩; obtain rfl : wr = w2 := hw.symm; clear hw)
          go_ret2
          rw [HN.out]
          exact ⟨_, rfl, (fun ps h => by cases h), hbel⟩
        | true =>
          have HN := Nm.hide (Dt.pat_step hat (n := d.size) (by show Dt.sz .mp d = some _; rw [Dt.sz, hM]; rfl) (Dt.ext_all d))
          rw [Dt.ext_none] at HN
          rw [hM] at hcall
          clear hat hM
          by_cases h0 : d.size = 0
          · obtain ⟨e1, e2⟩ := beq_empty h0
            clear h0
            go_wp2_with (first | (go_at_call 91; refine (hcall _).mono ?_; rintro e w2 ⟨rfl, hw⟩; obtain rfl : wr = w2 := hw.symm; clear hw) | (at_builtin; refine wpList_append_own _ rfl (.tmp 96) (.tmp 98) 93 rfl w.heap.size 9 i0 (.string ByteArray.empty) 1 16 Tryz.underlying93 hi hz0 hz1 hz2 rfl (by decide) _ _ _ rfl (hown.alloc _) ⟨wr.heap.size, 0, none⟩ 1 1 [.string d] rfl rfl (cell_new1 _ _ _) (Nm.one_cell _ rfl) (by unfold maxLen; omega) (by omega) (by simp; omega) ?_))
            · intro v' w1 hown' hgrow _
              have R := own_step hsz hown hbel _ hown' hgrow
              clear hown' hgrow hown hbel
              go_wp2
              go_roundw
              case rel => exact ⟨k + 1, _, _, by omega, by go_num, rfl, by simp <;> omega, by have := HPL.out; simp; omega, HN.out, R.1, R.2⟩
              case measure => simp [intOf]; omega
          · obtain ⟨e1, e2⟩ := not_empty (s := d) (by omega)
            clear h0
            go_wp2_with (first | (go_at_call 91; refine (hcall _).mono ?_; rintro e w2 ⟨rfl, hw⟩; obtain rfl : wr = w2 := hw.symm; clear hw) | (at_builtin; refine wpList_append_own _ rfl (.tmp 96) (.tmp 98) 93 rfl w.heap.size 9 i0 (.string ByteArray.empty) 1 16 Tryz.underlying93 hi hz0 hz1 hz2 rfl (by decide) _ _ _ rfl (hown.alloc _) ⟨wr.heap.size, 0, none⟩ 1 1 [.string d] rfl rfl (cell_new1 _ _ _) (Nm.one_cell _ rfl) (by unfold maxLen; omega) (by omega) (by simp; omega) ?_))
            · intro v' w1 hown' hgrow _
              have R := own_step hsz hown hbel _ hown' hgrow
              clear hown' hgrow hown hbel
              go_wp2
              go_roundw
              case rel => exact ⟨k + 1, _, _, by omega, by go_num, rfl, by simp <;> omega, by have := HPL.out; simp; omega, HN.out, R.1, R.2⟩
              case measure => simp [intOf]; omega
      · skip
        rw [hc] at hat
        have hv : f[k].toNat = 42 := by rw [hc]; rfl
        have q1 : ((f[k].toNat : Int) == 110) = false := by rw [beq_eq_false_iff_ne]; omega
        have q2 : ((f[k].toNat : Int) == 98) = false := by rw [beq_eq_false_iff_ne]; omega
        have q3 : ((f[k].toNat : Int) == 116) = false := by rw [beq_eq_false_iff_ne]; omega
        have q4 : ((f[k].toNat : Int) == 115) = false := by rw [beq_eq_false_iff_ne]; omega
        have q5 : ((f[k].toNat : Int) == 99) = false := by rw [beq_eq_false_iff_ne]; omega
        have q6 : ((f[k].toNat : Int) == 109) = false := by rw [beq_eq_false_iff_ne]; omega
        have q7 : ((f[k].toNat : Int) == 42) = true := by rw [beq_iff_eq]; omega
        have q8 : ((f[k].toNat : Int) != 109) = true := by rw [bne_iff_ne]; omega
        have q9 : ((f[k].toNat : Int) != 42) = false := by rw [bne_eq_false_iff_eq]; omega
        clear hv hc hf2
        have HN := Nm.hide (Dt.pat_step hat (n := d.size) (by show Dt.sz .rs d = some _; rw [Dt.sz]) (Dt.ext_all d))
        rw [Dt.ext_none] at HN
        clear hat
        by_cases h0 : d.size = 0
        · obtain ⟨e1, e2⟩ := beq_empty h0
          clear h0
          go_wp2_with (first | (fail) | (at_builtin; refine wpList_append_own _ rfl (.tmp 96) (.tmp 98) 93 rfl w.heap.size 9 i0 (.string ByteArray.empty) 1 16 Tryz.underlying93 hi hz0 hz1 hz2 rfl (by decide) _ _ _ rfl (hown.alloc _) ⟨wr.heap.size, 0, none⟩ 1 1 [.string d] rfl rfl (cell_new1 _ _ _) (Nm.one_cell _ rfl) (by unfold maxLen; omega) (by omega) (by simp; omega) ?_))
          · intro v' w1 hown' hgrow _
            have R := own_step hsz hown hbel _ hown' hgrow
            clear hown' hgrow hown hbel
            go_wp2
            go_roundw
            case rel => exact ⟨k + 1, _, _, by omega, by go_num, rfl, by simp <;> omega, by have := HPL.out; simp; omega, HN.out, R.1, R.2⟩
            case measure => simp [intOf]; omega
        · obtain ⟨e1, e2⟩ := not_empty (s := d) (by omega)
          clear h0
          go_wp2_with (first | (fail) | (at_builtin; refine wpList_append_own _ rfl (.tmp 96) (.tmp 98) 93 rfl w.heap.size 9 i0 (.string ByteArray.empty) 1 16 Tryz.underlying93 hi hz0 hz1 hz2 rfl (by decide) _ _ _ rfl (hown.alloc _) ⟨wr.heap.size, 0, none⟩ 1 1 [.string d] rfl rfl (cell_new1 _ _ _) (Nm.one_cell _ rfl) (by unfold maxLen; omega) (by omega) (by simp; omega) ?_))
          · intro v' w1 hown' hgrow _
            have R := own_step hsz hown hbel _ hown' hgrow
            clear hown' hgrow hown hbel
            go_wp2
            go_roundw
            case rel => exact ⟨k + 1, _, _, by omega, by go_num, rfl, by simp <;> omega, by have := HPL.out; simp; omega, HN.out, R.1, R.2⟩
            case measure => simp [intOf]; omega
    · have hlt' : (f.size : Int) ≤ (k : Int) := by omega
      have hnil : (f.data.toList.map Dt.letP).drop k = [] := List.drop_eq_nil_of_le (by simp; omega)
      rw [hnil] at hat
      clear hf2 hnil
      by_cases h0 : d.size = 0
      · have HN := Nm.hide (Dt.pat_end hat h0)
        obtain ⟨e1, e2⟩ := beq_empty h0
        clear hat h0
        go_wp2
        go_ret2
        rw [HN.out]
        exact ⟨_, rfl, (fun qs h => by cases h; exact hown), hbel⟩
      · have HN := Nm.hide (Dt.pat_left hat h0)
        obtain ⟨e1, e2⟩ := not_empty (s := d) (by omega)
        clear hat h0
        go_wp2
        go_ret2
        rw [HN.out]
        exact ⟨_, rfl, (fun ps h => by cases h), hbel⟩
end Go.Proofs.YtmaopfagkffccaaGreat
/- spec.l04Pointed by its contract. -/
namespace Go.Proofs.YtmaopfagkffccaaGreat
open Go.RowKit
set_option linter.unusedVariables false

set_option maxRecDepth 100000 in
set_option maxHeartbeats 800000 in
theorem l04Pointed_any (t : Nat) (w : World) :
    Calls Tryz.prog 79 #[.int .i64 t] w fun e w' => e = .returned (.bool (decide (pointed t))) ∧ w' = w := by
  by_cases h : pointed t
  · rcases h with rfl | rfl | rfl | rfl | rfl
    all_goals
      go_enter Tryz.func79, Tryz.ntmps79
      go_wp2
      go_ret
      exact ⟨rfl, rfl⟩
  · have HD : Hid (decide (pointed t) = false) := by exact decide_eq_false h
    unfold pointed at h
    have b2 : ((t : Int) == 2) = false := by rw [beq_eq_false_iff_ne]; omega
    have b5 : ((t : Int) == 5) = false := by rw [beq_eq_false_iff_ne]; omega
    have b6 : ((t : Int) == 6) = false := by rw [beq_eq_false_iff_ne]; omega
    have b12 : ((t : Int) == 12) = false := by rw [beq_eq_false_iff_ne]; omega
    have b15 : ((t : Int) == 15) = false := by rw [beq_eq_false_iff_ne]; omega
    clear h
    go_enter Tryz.func79, Tryz.ntmps79
    go_wp2
    go_ret
    rw [HD.out]
    exact ⟨rfl, rfl⟩
end Go.Proofs.YtmaopfagkffccaaGreat
/- A byte of the model's writer is stored. -/
namespace Go.Proofs.YtmaopfagkffccaaGreat
open Go.RowKit
set_option linter.unusedVariables false

theorem bys_set (bs : List UInt8) (j : Nat) (x : UInt8) : (Nm.bys bs).set j (.int .u8 (x.toNat : Int)) = Nm.bys (bs.set j x) := by
  simp [Nm.bys, List.map_set]
theorem SW.store {w : World} {g B b cap n : Nat} {bs : List UInt8} {pls : List (ByteArray × Nat)} {vp : Value} (h : SW w g B bs pls (.slice (some ⟨b, 0, none⟩) n cap) vp) (hn : n = bs.length) (j : Nat) (x : UInt8) :
    SW (w.setCell ⟨b, j, none⟩ (.int .u8 (x.toNat : Int))) g B (bs.set j x) pls (.slice (some ⟨b, 0, none⟩) n cap) vp := by
  subst hn
  have hb := h.rb
  have hne : (Value.slice (some ⟨b, 0, none⟩) bs.length cap).ownBlock ≠ some g := own_blk hb h.blk (by decide)
  have hgb : g ≠ b := by intro e; subst e; exact hne rfl
  refine ⟨blk_far h.blk hgb, ?_, ?_, h.bg⟩
  · rw [← bys_set, List.length_set]
    exact (hb.stored j _).1
  · refine own_far h.rp ?_
    exact own_kinds h.rp hb (by decide) b rfl
theorem SW.storeBk {w0 w : World} {g B b cap n : Nat} {bs : List UInt8} {pls : List (ByteArray × Nat)} {vp : Value} (h : SW w g B bs pls (.slice (some ⟨b, 0, none⟩) n cap) vp) (hk : Bk B w0 w) (j : Nat) (x : Value) :
    Bk B w0 (w.setCell ⟨b, j, none⟩ x) := by
  have hb := h.rb
  have hBb : B ≤ b := (hb.lt b rfl).1
  refine ⟨hk.be.setCell hBb _, fun k c T hk' h1 h2 h3 => ?_⟩
  have hk2 := hk.kp k c T hk' h1 h2 h3
  refine blk_far hk2 (fun e => ?_)
  subst e
  exact own_blk hb hk2 (Ne.symm h1) rfl
theorem SW.some {w : World} {g B : Nat} {bs : List UInt8} {pls : List (ByteArray × Nat)} {vb vp : Value} (h : SW w g B bs pls vb vp) (hn : 0 < bs.length) : ∃ b cap, vb = .slice (some ⟨b, 0, none⟩) bs.length cap := by
  rcases h.rb.2 with ⟨rfl, h2⟩ | ⟨g', cap', cur, rfl, _⟩
  · simp at h2; simp [h2] at hn
  · exact ⟨g', cap', rfl⟩
theorem Bk.row {B b e s n : Nat} {w w' : World} {v : Value} {xs : List Value} (h : Bk B w w') (ho : w.ownsRow b e s v n xs) (h1 : e ≠ 5) (h2 : e ≠ 129) (h3 : e ≠ 98) : w'.ownsRow b e s v n xs := by
  refine ⟨ho.1, ?_⟩
  rcases ho.2 with hn | ⟨g, cap, cur, rfl, hb, hh, r⟩
  · exact .inl hn
  · exact .inr ⟨g, cap, cur, rfl, hb, h.kp g cur e hh h1 h2 h3, r⟩
theorem daP_step {fs : List Dt.Pc} {ps : List ByteArray} {k : Nat} {p : Dt.Pc} {x : ByteArray} {s : Wst} (hp : fs[k]? = some p) (hx : ps[k]? = some x) :
    daP (fs.drop k) (ps.drop k) s = daP (fs.drop (k + 1)) (ps.drop (k + 1)) (if p.isN then nmX x s else (s.1 ++ x.data.toList, s.2)) := by
  obtain ⟨h1, e1⟩ := List.getElem?_eq_some_iff.1 hp
  obtain ⟨h2, e2⟩ := List.getElem?_eq_some_iff.1 hx
  rw [List.drop_eq_getElem_cons h1, List.drop_eq_getElem_cons h2, e1, e2, daP]
theorem catL_step {ps : List ByteArray} {k : Nat} {x : ByteArray} (hx : ps[k]? = some x) : (Dt.catL (ps.drop k)).length = x.size + (Dt.catL (ps.drop (k + 1))).length := by
  obtain ⟨h2, e2⟩ := List.getElem?_eq_some_iff.1 hx
  rw [List.drop_eq_getElem_cons h2, e2]
  simp [Dt.catL]
end Go.Proofs.YtmaopfagkffccaaGreat
/- Two bytes of a string are copied into a row of the writer's. -/
namespace Go.Proofs.YtmaopfagkffccaaGreat
open Go.RowKit
set_option linter.unusedVariables false

theorem run_copy_str2 {P : Program} (w : World) (dT sT ty elem : TypeId) (b o dLen dCap : Nat) (S : ByteArray) (x y : UInt8) (hS : S.data.toList = [x, y])
    (hu : P.underlying dT = some (.slice elem)) (hs : (P.info? elem).map (·.size) = some 1) (h2 : 2 ≤ dLen)
    (hc0 : (w.cell? ⟨b, o, none⟩).isSome = true) (hc1 : (w.cell? ⟨b, o + 1, none⟩).isSome = true) (hf0 : w.frozen? ⟨b, o, none⟩ = false) (hf1 : w.frozen? ⟨b, o + 1, none⟩ = false) :
    (Builtin.copy_ #[dT, sT] ty #[.slice (some ⟨b, o, none⟩) dLen dCap, .string S]).run P w = .ok (goInt 2) ((w.setCell ⟨b, o, none⟩ (.int .u8 (x.toNat : Int))).setCell ⟨b, o + 1, none⟩ (.int .u8 (y.toNat : Int))) := by
  have hst := run_storeCells_cells (P := P) b o [.int .u8 (x.toNat : Int), .int .u8 (y.toNat : Int)] 0 w
    (by intro j hj; simp at hj; rcases (show j = 0 ∨ j = 1 by omega) with rfl | rfl; exact hc0; exact hc1)
    (by intro j hj; simp at hj; rcases (show j = 0 ∨ j = 1 by omega) with rfl | rfl; exact hf0; exact hf1)
    (by intro v hv; simp at hv; rcases hv with rfl | rfl <;> rfl)
  have hsz : S.size = 2 := by
    have := congrArg List.length hS
    simpa using this
  have hmin : Nat.min S.size dLen = 2 := by rw [hsz]; exact Nat.min_eq_left h2
  have hcells : ((S.extract 0 2).data.map fun b => (Value.int .u8 (b.toNat : Int))).toList = [.int .u8 (x.toNat : Int), .int .u8 (y.toNat : Int)] := by
    have e : S.extract 0 2 = S := by rw [← hsz]; exact Dt.ext_all S
    rw [e, Array.toList_map, hS]
    rfl
  cases hq : P.info? elem with
  | none => simp [hq] at hs
  | some i =>
    have hi : i.size = 1 := by simpa [hq] using hs
    have hst2 : (storeCells ⟨b, o, none⟩ [.int .u8 (x.toNat : Int), .int .u8 (y.toNat : Int)]).run P w = .ok () ((w.setCell ⟨b, o, none⟩ (.int .u8 (x.toNat : Int))).setCell ⟨b, o + 1, none⟩ (.int .u8 (y.toNat : Int))) := hst
    have hsz2 : ∀ W : World, (Builtin.firstCells 1 2 (.string S)).run P W = .ok ((S.extract 0 2).data.map fun b => (Value.int .u8 (b.toNat : Int))) W := fun W => rfl
    have hlen : ∀ W : World, (Builtin.lenOf (.string S)).run P W = .ok 2 W := fun W => by
      have : (Builtin.lenOf (.string S)).run P W = .ok S.size W := rfl
      rw [this, hsz]
    have hmin2 : Nat.min 2 dLen = 2 := Nat.min_eq_left h2
    have hcl : (Array.map (fun b => Value.int IntKind.u8 (b.toNat : Int)) (S.extract 0 2).data) = #[.int .u8 (x.toNat : Int), .int .u8 (y.toNat : Int)] := Array.toList_inj.1 hcells
    rw [hcl] at hsz2
    simp [Builtin.copy_, run_underlying hu, hlen, hmin2, sizeOf, typeInfo, hq, hi, hsz2, hst2]
    done

theorem step_copy_str2 {P : Program} {ops : Array Oper} {o : Oper} {a : Act} {w : World} {K : Act → World → Prop} {Q : Exit → Act → World → Prop} {E : Prop} (hgd : o.guard = none) (d s : Operand) (dT sT : TypeId)
    (ho : o.op = .call { callee := .builtin .copy, args := #[d, s], argTypes := #[dT, sT] }) (elem : TypeId) (hu : P.underlying dT = some (.slice elem)) (hsz : (P.info? elem).map (·.size) = some 1)
    (b off dLen dCap : Nat) (hd : a.eval d = .slice (some ⟨b, off, none⟩) dLen dCap) (S : ByteArray) (hs : a.eval s = .string S) (x y : UInt8) (hS : S.data.toList = [x, y]) (h2 : 2 ≤ dLen)
    (hc0 : (w.cell? ⟨b, off, none⟩).isSome = true) (hc1 : (w.cell? ⟨b, off + 1, none⟩).isSome = true) (hf0 : w.frozen? ⟨b, off, none⟩ = false) (hf1 : w.frozen? ⟨b, off + 1, none⟩ = false)
    (h : K (a.put o.dst (goInt 2)) ((w.setCell ⟨b, off, none⟩ (.int .u8 (x.toNat : Int))).setCell ⟨b, off + 1, none⟩ (.int .u8 (y.toNat : Int)))) :
    if Region.wanted o (yielded ops a.tmps) = true then Oper.wp P o a w K Q else E := by
  have hw : Region.wanted o (yielded ops a.tmps) = true := by simp [Region.wanted, hgd]
  rw [if_pos hw]
  have hrun := run_copy_str2 (P := P) w dT sT o.type elem b off dLen dCap S x y hS hu hsz h2 hc0 hc1 hf0 hf1
  unfold Oper.wp
  simp [execOp, ho, resolve, invoke, builtin, hd, hs, hrun, Result.andThen]
  exact h

theorem PW.store {w : World} {g B b cap n : Nat} {bs : List UInt8} {vm : Value} (h : PW w g B bs (.slice (some ⟨b, 0, none⟩) n cap) vm) (hn : n = bs.length) (j : Nat) (x : UInt8) :
    PW (w.setCell ⟨b, j, none⟩ (.int .u8 (x.toNat : Int))) g B (bs.set j x) (.slice (some ⟨b, 0, none⟩) n cap) vm := by
  subst hn
  have hb := h.rb
  have hne : (Value.slice (some ⟨b, 0, none⟩) bs.length cap).ownBlock ≠ some g := own_blk hb h.blk (by decide)
  have hgb : g ≠ b := by intro e; subst e; exact hne rfl
  refine ⟨blk_far h.blk hgb, ?_, h.bg⟩
  rw [← bys_set, List.length_set]
  exact (hb.stored j _).1
theorem PW.storeBw {w0 w : World} {g B b cap n : Nat} {bs : List UInt8} {vm : Value} (h : PW w g B bs (.slice (some ⟨b, 0, none⟩) n cap) vm) (hk : Bw B w0 w) (j : Nat) (x : Value) :
    Bw B w0 (w.setCell ⟨b, j, none⟩ x) := by
  have hb := h.rb
  have hBb : B ≤ b := (hb.lt b rfl).1
  refine ⟨hk.be.setCell hBb _, fun k o hk' h1 h2 => ?_⟩
  have hk2 := hk.kp k o hk' h1 h2
  have hne : k ≠ b := by
    intro e
    subst e
    rcases hb.2 with ⟨h3, _⟩ | ⟨g', cap', cur, h3, _, hh, _⟩
    · cases h3
    · cases h3
      rw [hh] at hk2
      cases hk2
      exact h1 rfl
  rw [heap_setCell_other w ⟨b, j, none⟩ k _ (by simpa using hne)]
  exact hk2
theorem PW.some {w : World} {g B : Nat} {bs : List UInt8} {vb vm : Value} (h : PW w g B bs vb vm) (hn : 0 < bs.length) : ∃ b cap, vb = .slice (some ⟨b, 0, none⟩) bs.length cap := by
  rcases h.rb.2 with ⟨rfl, h2⟩ | ⟨g', cap', cur, rfl, _⟩
  · simp at h2; simp [h2] at hn
  · exact ⟨g', cap', rfl⟩
end Go.Proofs.YtmaopfagkffccaaGreat
/- spec.l04WriteRecord by its contract. -/
namespace Go.Proofs.YtmaopfagkffccaaGreat
open Go.RowKit
set_option linter.unusedVariables false

theorem u8_hi {n : Nat} (h : n < 65536) : ((UInt8.ofNat (n / 256)).toNat : Int) = (n : Int) / 256 := by
  simp
  omega
theorem u8_lo (n : Nat) : ((UInt8.ofNat (n % 256)).toNat : Int) = (n : Int) % 256 := by
  simp

set_option maxRecDepth 100000 in
set_option maxHeartbeats 3200000 in
theorem l04WriteRecord_plain (o : ByteArray) (t c : Nat) (tt : Int) (d : ByteArray) (hr : rcW ⟨o, t, c, tt, d⟩) (hpl : d.size = 0 ∨ ¬ pointed t) (g B : Nat) (bs : List UInt8) (pls : List (ByteArray × Nat)) (vb vp : Value) (w : World) (h : SW w g B bs pls vb vp) (hB : B ≤ w.heap.size) (hl : bs.length + 70000 ≤ 50000000) (hok : PlOK pls bs.length) :
    Calls Tryz.prog 60 #[.pointer (some ⟨g, 0, none⟩), .agg #[.string o, .int .i64 t, .int .i64 c, .int .i64 tt, .string d]] w fun e w' => e = .returned (.tuple #[]) ∧ ∃ vb' vp', SW w' g B (rrW ⟨o, t, c, tt, d⟩ (bs, pls)).1 (rrW ⟨o, t, c, tt, d⟩ (bs, pls)).2 vb' vp' ∧ Bk B w w' := by
  obtain ⟨h1, ⟨t', ht, htl⟩, ⟨c', hc, hcl⟩, ht0, ht1, h6, h7⟩ := hr
  have ht : (t : Int) = t' := ht
  have hc : (c : Int) = c' := hc
  obtain rfl : t = t' := by omega
  obtain rfl : c = c' := by omega
  simp only [Int.toNat_natCast] at h1 ht0 ht1 h6 h7
  clear ht hc
  obtain ⟨ls, hs⟩ := Option.isSome_iff_exists.1 h1
  have hos := name_short h1
  have hal := rrA_len h1 t c tt (bs, pls)
  have hao := rrA_ok o t c tt (bs, pls) hok
  have hdl := daW_lenW h6 (rrA o t c tt (bs, pls))
  rw [show rrW ⟨o, t, c, tt, d⟩ (bs, pls) = rrFin (rrA o t c tt (bs, pls)).1.length (daW t d (rrA o t c tt (bs, pls))) from rfl]
  have HA1 : Hid ((nmW ls bs pls).1 ++ (((⟨(put2 t).toArray⟩ : ByteArray) ++ ⟨(put2 c).toArray⟩ ++ ⟨(put4 tt).toArray⟩) ++ ⟨#[0, 0]⟩).data.toList = (rrA o t c tt (bs, pls)).1) := by
    show _ = _
    simp [rrA, nmX_of hs, ByteArray.data_append]
  have HA2 : Hid ((nmW ls bs pls).2 = (rrA o t c tt (bs, pls)).2) := by
    show _ = _
    simp [rrA, nmX_of hs]
  have hps : (((⟨(put2 t).toArray⟩ : ByteArray) ++ ⟨(put2 c).toArray⟩ ++ ⟨(put4 tt).toArray⟩) ++ ⟨#[0, 0]⟩).size = 10 := by
    rw [ByteArray.size_append, ByteArray.size_append, ByteArray.size_append]; rfl
  have hq2 : ¬ 9223372036854775807 < (⟨(put2 t).toArray⟩ : ByteArray).size + (⟨(put2 c).toArray⟩ : ByteArray).size := by
    have : (⟨(put2 t).toArray⟩ : ByteArray).size + (⟨(put2 c).toArray⟩ : ByteArray).size = 4 := rfl
    omega
  have hq3 : (⟨(put2 t).toArray⟩ : ByteArray).size + (⟨(put2 c).toArray⟩ : ByteArray).size + (⟨(put4 tt).toArray⟩ : ByteArray).size = 8 := rfl
  have hnl := nmW_len ls bs pls (fun x hx => ((Nm.split_join hs).2 x hx).1)
  have hnz := Nm.split_size hs
  generalize rrA o t c tt (bs, pls) = A at *
  have HD : Hid ((A.1 ++ d.data.toList, A.2) = daW t d A) := by show _ = _; rw [daW, if_pos hpl]
  generalize daW t d A = D at *
  obtain ⟨RES, HR⟩ : ∃ R, Hid (rrFin A.1.length D = R) := ⟨_, rfl⟩
  rw [HR.out]
  have bA := (Below.refl w.heap.size w).alloc (Nat.le_refl _) (.cells #[.string o, .int .i64 t, .int .i64 c, .int .i64 tt, .string d] 72)
  have hblk := blk_new w #[.string o, .int .i64 t, .int .i64 c, .int .i64 tt, .string d] 72
  have hnm := l04Name_any o ls hs g B bs pls vb vp _ (h.below bA) (Nat.le_trans hB bA.size) (by omega) hok
  have hp1 := fun W => l02Put2_any t W htl
  have hp2 := fun W => l02Put2_any c W hcl
  have hp4 := fun W => l02Put_any tt W ht0 ht1
  have hgl : w.heap.size < (w.alloc (.cells #[.string o, .int .i64 t, .int .i64 c, .int .i64 tt, .string d] 72)).heap.size := by simp
  have htx := fun vb2 vp2 W (h : SW W g B (nmW ls bs pls).1 (nmW ls bs pls).2 vb2 vp2) (hB : B ≤ W.heap.size) => l04Text_any (((⟨(put2 t).toArray⟩ : ByteArray) ++ ⟨(put2 c).toArray⟩ ++ ⟨(put4 tt).toArray⟩) ++ ⟨#[0, 0]⟩) g B _ _ vb2 vp2 W h hB (by rw [hps]; omega)
  rw [HA1.out] at htx
  clear hps HA1 hs
  generalize (⟨(put2 t).toArray⟩ : ByteArray) = P1 at *
  generalize (⟨(put2 c).toArray⟩ : ByteArray) = P2 at *
  generalize (⟨(put4 tt).toArray⟩ : ByteArray) = P3 at *
  generalize nmW ls bs pls = N at *
  go_enter Tryz.func60, Tryz.ntmps60
  go_wp2_with (go_at_call 78; refine hnm.mono ?_; rintro e w1 ⟨rfl, vb1, vp1, hS1, hb1⟩)
  have hbk : SWB w w1 g B N.1 N.2 vb1 vp1 w.heap.size #[.string o, .int .i64 t, .int .i64 c, .int .i64 tt, .string d] 72 := ⟨⟨hS1, Nat.le_trans hB (Nat.le_trans bA.size hb1.be.size), (Bk.of bA hB).trans hb1⟩, hb1.kp _ _ _ hblk (by decide) (by decide) (by decide)⟩
  clear hS1 hb1 hblk bA hnm h hgl hB
  generalize w.heap.size = bx at *
  refine wp_region_held_drew (S := fun W => W.cell? ⟨bx, 1, none⟩ = some (.int .i64 t) ∧ W.cell? ⟨bx, 2, none⟩ = some (.int .i64 c) ∧ W.cell? ⟨bx, 3, none⟩ = some (.int .i64 tt)) (by kernel_rfl) ⟨(blk_cell hbk.2 1).trans rfl, (blk_cell hbk.2 2).trans rfl, (blk_cell hbk.2 3).trans rfl⟩ (fun hHeld => ?_)
  refine wpAnyH_take (i := 0) (v := ?_) rfl (by kernel_rfl) (by kernel_rfl) (by kernel_rfl) (fun _ _ _ h => h) (Or.inl ⟨by rfl, ?_⟩) (by assumption) ?_
  rotate_left 1
  · (rintro w ⟨hSw1, hSw2, hSw3⟩; go_simp; try (with_reducible rfl))
  refine wpAnyH_take (i := 1) (v := ?_) rfl (by kernel_rfl) (by kernel_rfl) (by kernel_rfl) (fun _ _ _ h => h) (Or.inl ⟨by rfl, ?_⟩) (by assumption) ?_
  rotate_left 1
  · (rintro w ⟨hSw1, hSw2, hSw3⟩; go_simp; try (with_reducible rfl))
  refine wpAnyH_take (i := 2) (v := ?_) rfl (by kernel_rfl) (by kernel_rfl) (by kernel_rfl) (fun _ _ _ h => h) (Or.inl ⟨by rfl, ?_⟩) (by assumption) ?_
  rotate_left 1
  · (rintro w ⟨hSw1, hSw2, hSw3⟩; go_simp; try (with_reducible rfl))
  refine wpAnyH_take (i := 4) (v := ?_) rfl (by kernel_rfl) (by kernel_rfl) (by kernel_rfl) (fun _ _ _ h => h) (Or.inl ⟨by rfl, ?_⟩) (by assumption) ?_
  rotate_left 1
  · (rintro w ⟨hSw1, hSw2, hSw3⟩; go_simp; try (with_reducible rfl))
  refine wpAnyH_take (i := 5) (v := ?_) rfl (by kernel_rfl) (by kernel_rfl) (by kernel_rfl) (fun _ _ _ h => h) (Or.inl ⟨by rfl, ?_⟩) (by assumption) ?_
  rotate_left 1
  · (rintro w ⟨hSw1, hSw2, hSw3⟩; go_simp; try (with_reducible rfl))
  refine wpAnyH_take (i := 8) (v := ?_) rfl (by kernel_rfl) (by kernel_rfl) (by kernel_rfl) (fun _ _ _ h => h) (Or.inl ⟨by rfl, ?_⟩) (by assumption) ?_
  rotate_left 1
  · (rintro w ⟨hSw1, hSw2, hSw3⟩; go_simp; try (with_reducible rfl))
  refine wpAnyH_take (i := 9) (v := ?_) rfl (by kernel_rfl) (by kernel_rfl) (by kernel_rfl) (fun _ _ _ h => h) (Or.inl ⟨by rfl, ?_⟩) (by assumption) ?_
  rotate_left 1
  · (rintro w ⟨hSw1, hSw2, hSw3⟩; go_simp; try (with_reducible rfl))
  have hbk := hbk.below (Below.refl _ _).drew
  refine wpAnyH_ready (rs := [3]) (by kernel_rfl) (by simp) ?_
  refine AllReadyH.cons rfl (fun K hK => ?_) AllReadyH.nil
  go_simp
  refine (hp1 _).mono ?_
  rintro e wn ⟨rfl, hbn⟩
  go_wp2_with fail
  have hbk := hbk.below hbn
  refine hK.out _ _ ⟨(blk_cell hbk.2 1).trans rfl, (blk_cell hbk.2 2).trans rfl, (blk_cell hbk.2 3).trans rfl⟩ (fun _ => ?_)
  clear hK K
  refine wpAnyH_ready (rs := [6]) (by kernel_rfl) (by simp) ?_
  refine AllReadyH.cons rfl (fun K hK => ?_) AllReadyH.nil
  go_simp
  refine (hp2 _).mono ?_
  rintro e wn ⟨rfl, hbn⟩
  go_wp2_with fail
  have hbk := hbk.below hbn
  refine hK.out _ _ ⟨(blk_cell hbk.2 1).trans rfl, (blk_cell hbk.2 2).trans rfl, (blk_cell hbk.2 3).trans rfl⟩ (fun _ => ?_)
  clear hK K
  refine wpAnyH_take (i := 7) (v := .string (P1 ++ P2)) rfl (by kernel_rfl) (by kernel_rfl) (by kernel_rfl) (fun _ _ _ h => h) (Or.inl ⟨by rfl, ?_⟩) (by assumption) ?_
  · rintro w ⟨hSw1, hSw2⟩
    go_simp
    try (rw [if_neg hq2])
    try rfl
  refine wpAnyH_ready (rs := [10]) (by kernel_rfl) (by simp) ?_
  refine AllReadyH.cons rfl (fun K hK => ?_) AllReadyH.nil
  go_simp
  refine (hp4 _).mono ?_
  rintro e wn ⟨rfl, hbn⟩
  go_wp2_with fail
  have hbk := hbk.below hbn
  refine hK.out _ _ ⟨(blk_cell hbk.2 1).trans rfl, (blk_cell hbk.2 2).trans rfl, (blk_cell hbk.2 3).trans rfl⟩ (fun _ => ?_)
  clear hK K
  refine wpAnyH_take (i := 11) (v := .string (P1 ++ P2 ++ P3)) rfl (by kernel_rfl) (by kernel_rfl) (by kernel_rfl) (fun _ _ _ h => h) (Or.inl ⟨by rfl, ?_⟩) (by assumption) ?_
  · rintro w ⟨hSw1, hSw2⟩
    go_simp
    try omega
  refine wpAnyH_take (i := 12) (v := .string (P1 ++ P2 ++ P3 ++ ⟨#[0, 0]⟩)) rfl (by kernel_rfl) (by kernel_rfl) (by kernel_rfl) (fun _ _ _ h => h) (Or.inl ⟨by rfl, ?_⟩) (by assumption) ?_
  · rintro w ⟨hSw1, hSw2⟩
    go_simp
    try omega
  refine wpAnyH_ready (rs := [13]) (by kernel_rfl) (by simp) ?_
  refine AllReadyH.cons rfl (fun K hK => ?_) AllReadyH.nil
  go_simp
  refine (htx _ _ _ hbk.1.1 hbk.1.2.1).mono ?_
  rintro e w6 ⟨rfl, vb6, hS6, hb6⟩
  rw [HA2.out] at hS6
  go_wp2_with fail
  have hb7 := hb6.kp _ _ _ hbk.2 (by decide) (by decide) (by decide)
  refine hK.out _ _ ⟨(blk_cell hb7 1).trans rfl, (blk_cell hb7 2).trans rfl, (blk_cell hb7 3).trans rfl⟩ (fun _ => ?_)
  clear hK K
  refine wpAnyH_done (by kernel_rfl) ?_ _
  have hk6 := hbk.1.2.2.trans hb6
  have hB6 : B ≤ w6.heap.size := Nat.le_trans hbk.1.2.1 hb6.be.size
  clear hbk hb6 htx hp1 hp2 hp4 hHeld hq2 hq3
  have hb7d := blk_cell hb7 4
  have hb7t := blk_cell hb7 1
  have htd := l04Text_any d g B A.1 A.2 vb6 vp1 w6 hS6 hB6 (by omega)
  have HD1 : A.1 ++ d.data.toList = D.1 := by rw [← HD.out]
  have HD2 : A.2 = D.2 := by rw [← HD.out]
  rw [HD1, HD2] at htd
  clear HD1 HD2
  obtain ⟨k, hk⟩ : ∃ k, A.1.length = k + 2 := ⟨A.1.length - 2, by omega⟩
  obtain ⟨n, hn⟩ : ∃ n, D.1.length = k + 2 + n := ⟨D.1.length - (k + 2), by omega⟩
  have hn2 : (n : Int) ≤ 65535 := by omega
  have q1 : (k : Int) + 2 + n - (k + 2) = n := by omega
  have q2 : (k : Int) + 2 - 1 = k + 1 := by omega
  have q3 : (n : Int) >>> (8 : Nat) = (n : Int) / 256 := by rw [Int.shiftRight_eq_div_pow]; rfl
  have q4 : (n : Int) / 256 % 256 = (n : Int) / 256 := by omega
  obtain ⟨xa, ya, hv⟩ := own_sl hS6.rb
  subst hv
  have c6 : w6.cell? ⟨g, 0, none⟩ = some (.slice xa A.1.length ya) := (blk_cell hS6.blk 0).trans rfl
  clear HD
  by_cases hd0 : d.size = 0
  · have e1 : (d.toList == []) = true := by rw [str_empty]; simpa using hd0
    clear hdl hd0 hpl h6
    go_wp2_with (
      go_at_call 57
      refine htd.mono ?_
      rintro e w8 ⟨rfl, vb8, hS8, hb8⟩
      obtain ⟨b, cap, hvb8⟩ := hS8.some (by omega)
      subst hvb8
      rw [hn] at hS8
      have c8 : (w8).cell? ⟨g, 0, none⟩ = some (.slice (some ⟨b, 0, none⟩) (k + 2 + n) cap) := (blk_cell hS8.blk 0).trans rfl
      have hrb8 := hS8.rb
      rw [hn] at hrb8
      have f8 := hrb8.frozenAt k
      obtain ⟨vk, hvk⟩ : ∃ v, (Nm.bys D.1)[k]? = some v := ⟨_, List.getElem?_eq_getElem (by simp [Nm.bys]; omega)⟩
      have d8 := (hrb8.cellAt k (by omega)).trans hvk
      have hS9 := hS8.store hn.symm k (UInt8.ofNat (n / 256))
      rw [u8_hi (by omega : n < 65536)] at hS9
      have k9 := hS8.storeBk hb8 k (.int .u8 ((n : Int) / 256))
      have hn9 : (D.1.set k (UInt8.ofNat (n / 256))).length = k + 2 + n := by rw [List.length_set, hn]
      have c9 : ((w8).setCell ⟨b, k, none⟩ (.int .u8 ((n : Int) / 256))).cell? ⟨g, 0, none⟩ = some (.slice (some ⟨b, 0, none⟩) (k + 2 + n) cap) := (blk_cell hS9.blk 0).trans rfl
      have hrb9 := hS9.rb
      rw [hn9] at hrb9
      have f9 := hrb9.frozenAt (k + 1)
      obtain ⟨vk9, hvk9⟩ : ∃ v, (Nm.bys (D.1.set k (UInt8.ofNat (n / 256))))[k + 1]? = some v := ⟨_, List.getElem?_eq_getElem (by rw [Nm.bys, List.length_map, hn9]; omega)⟩
      have d9 := (hrb9.cellAt (k + 1) (by omega)).trans hvk9
      have hS10 := hS9.store hn9.symm (k + 1) (UInt8.ofNat (n % 256))
      rw [u8_lo n] at hS10
      have k10 := hS9.storeBk k9 (k + 1) (.int .u8 ((n : Int) % 256))
      have HS10 : Hid (SW (((w8).setCell ⟨b, k, none⟩ (.int .u8 ((n : Int) / 256))).setCell ⟨b, k + 1, none⟩ (.int .u8 ((n : Int) % 256))) g B RES.1 RES.2 (.slice (some ⟨b, 0, none⟩) (k + 2 + n) cap) vp1) := by
        show SW _ _ _ _ _ _ _
        rw [← HR.out, rrFin, hn, hk, show k + 2 + n - (k + 2) = n by omega, show k + 2 - 2 = k by omega, show k + 2 - 1 = k + 1 by omega]
        exact hS10
      clear hrb8 hrb9 hS9 hS8 hS10 hvk9 hvk hn9 k9)
    refine bodyPost_end (v := .tuple #[]) ?_ rfl ⟨rfl, _, _, HS10.out, hk6.trans k10⟩
    simp [results, Tryz.results60, go_sem]
  · have e1 : (d.toList == []) = false := by rw [str_empty]; simpa using hd0
    have hpt := l04Pointed_any t
    rw [decide_eq_false (hpl.resolve_left hd0)] at hpt
    go_wp2_with first
      | (go_at_call 79; refine (hpt _).mono ?_; rintro e wx ⟨rfl, hwx⟩; obtain rfl := hwx)
      | (
      go_at_call 57
      refine htd.mono ?_
      rintro e w8 ⟨rfl, vb8, hS8, hb8⟩
      obtain ⟨b, cap, hvb8⟩ := hS8.some (by omega)
      subst hvb8
      rw [hn] at hS8
      have c8 : (w8).cell? ⟨g, 0, none⟩ = some (.slice (some ⟨b, 0, none⟩) (k + 2 + n) cap) := (blk_cell hS8.blk 0).trans rfl
      have hrb8 := hS8.rb
      rw [hn] at hrb8
      have f8 := hrb8.frozenAt k
      obtain ⟨vk, hvk⟩ : ∃ v, (Nm.bys D.1)[k]? = some v := ⟨_, List.getElem?_eq_getElem (by simp [Nm.bys]; omega)⟩
      have d8 := (hrb8.cellAt k (by omega)).trans hvk
      have hS9 := hS8.store hn.symm k (UInt8.ofNat (n / 256))
      rw [u8_hi (by omega : n < 65536)] at hS9
      have k9 := hS8.storeBk hb8 k (.int .u8 ((n : Int) / 256))
      have hn9 : (D.1.set k (UInt8.ofNat (n / 256))).length = k + 2 + n := by rw [List.length_set, hn]
      have c9 : ((w8).setCell ⟨b, k, none⟩ (.int .u8 ((n : Int) / 256))).cell? ⟨g, 0, none⟩ = some (.slice (some ⟨b, 0, none⟩) (k + 2 + n) cap) := (blk_cell hS9.blk 0).trans rfl
      have hrb9 := hS9.rb
      rw [hn9] at hrb9
      have f9 := hrb9.frozenAt (k + 1)
      obtain ⟨vk9, hvk9⟩ : ∃ v, (Nm.bys (D.1.set k (UInt8.ofNat (n / 256))))[k + 1]? = some v := ⟨_, List.getElem?_eq_getElem (by rw [Nm.bys, List.length_map, hn9]; omega)⟩
      have d9 := (hrb9.cellAt (k + 1) (by omega)).trans hvk9
      have hS10 := hS9.store hn9.symm (k + 1) (UInt8.ofNat (n % 256))
      rw [u8_lo n] at hS10
      have k10 := hS9.storeBk k9 (k + 1) (.int .u8 ((n : Int) % 256))
      have HS10 : Hid (SW (((w8).setCell ⟨b, k, none⟩ (.int .u8 ((n : Int) / 256))).setCell ⟨b, k + 1, none⟩ (.int .u8 ((n : Int) % 256))) g B RES.1 RES.2 (.slice (some ⟨b, 0, none⟩) (k + 2 + n) cap) vp1) := by
        show SW _ _ _ _ _ _ _
        rw [← HR.out, rrFin, hn, hk, show k + 2 + n - (k + 2) = n by omega, show k + 2 - 2 = k by omega, show k + 2 - 1 = k + 1 by omega]
        exact hS10
      clear hrb8 hrb9 hS9 hS8 hS10 hvk9 hvk hn9 k9)
    refine bodyPost_end (v := .tuple #[]) ?_ rfl ⟨rfl, _, _, HS10.out, hk6.trans k10⟩
    simp [results, Tryz.results60, go_sem]
end Go.Proofs.YtmaopfagkffccaaGreat
/- (*writer).record by its contract. -/
namespace Go.Proofs.YtmaopfagkffccaaGreat
open Go.RowKit
set_option linter.unusedVariables false

theorem number_pm (n k : Int) (PB : ByteArray) (hput : ∀ W, Calls Tryz.prog 72 #[.int .i64 n, .int .i64 k] W fun e w' => e = .returned (.string PB) ∧ Below W.heap.size W w') (g B r : Nat) (bs : List UInt8) (pls : List (ByteArray × Nat)) (vb : Value) (w : World) (h : PM w g B r bs pls vb) (hB : B ≤ w.heap.size) (hl : bs.length + PB.size ≤ 100000000) :
    Calls Tryz.prog 70 #[.pointer (some ⟨g, 0, none⟩), .int .i64 n, .int .i64 k] w fun e w' => e = .returned (.tuple #[]) ∧ ∃ vb', PM w' g B r (bs ++ PB.data.toList) pls vb' ∧ Bp B w w' := by
  refine (number_w_any n k PB hput g B bs vb _ w h.pw hB hl).mono ?_
  rintro e w' ⟨rfl, vb', h1, h2⟩
  exact ⟨rfl, vb', h.after h1 h2, Bp.ofw h2⟩
theorem number2_pm (n : Nat) (hn : n < 65536) (g B r : Nat) (bs : List UInt8) (pls : List (ByteArray × Nat)) (vb : Value) (w : World) (h : PM w g B r bs pls vb) (hB : B ≤ w.heap.size) (hl : bs.length + 2 ≤ 100000000) :
    Calls Tryz.prog 70 #[.pointer (some ⟨g, 0, none⟩), .int .i64 (n : Int), .int .i64 2] w fun e w' => e = .returned (.tuple #[]) ∧ ∃ vb', PM w' g B r (bs ++ put2 n) pls vb' ∧ Bp B w w' := by
  have := number_pm (n : Int) 2 ⟨(put2 n).toArray⟩ (fun W => bigBytes2_any n W hn) g B r bs pls vb w h hB (by show bs.length + (put2 n).toArray.size ≤ _; simp [put2]; omega)
  simpa using this
theorem number4_pm (n : Int) (h0 : 0 ≤ n) (h1 : n ≤ 4294967295) (g B r : Nat) (bs : List UInt8) (pls : List (ByteArray × Nat)) (vb : Value) (w : World) (h : PM w g B r bs pls vb) (hB : B ≤ w.heap.size) (hl : bs.length + 4 ≤ 100000000) :
    Calls Tryz.prog 70 #[.pointer (some ⟨g, 0, none⟩), .int .i64 n, .int .i64 4] w fun e w' => e = .returned (.tuple #[]) ∧ ∃ vb', PM w' g B r (bs ++ put4 n) pls vb' ∧ Bp B w w' := by
  have := number_pm n 4 ⟨(put4 n).toArray⟩ (fun W => bigBytes4_any n W h0 h1) g B r bs pls vb w h hB (by show bs.length + (put4 n).toArray.size ≤ _; simp [put4]; omega)
  simpa using this

set_option maxRecDepth 100000 in
set_option maxHeartbeats 3200000 in
theorem record_w_any (o : ByteArray) (t c : Nat) (tt : Int) (d : ByteArray) (hr : rcOK ⟨o, t, c, tt, d⟩ = true) (g B r : Nat) (bs : List UInt8) (pls : List (ByteArray × Nat)) (vb : Value) (w : World) (h : PM w g B r bs pls vb) (hB : B ≤ w.heap.size) (hl : bs.length + 70000 ≤ 50000000) (hok : PlOK pls bs.length) :
    Calls Tryz.prog 48 #[.pointer (some ⟨g, 0, none⟩), .agg #[.string o, .int .i64 t, .int .i64 c, .int .i64 tt, .string d]] w fun e w' => e = .returned (.tuple #[]) ∧ ∃ vb', PM w' g B r (rrW ⟨o, t, c, tt, d⟩ (bs, pls)).1 (rrW ⟨o, t, c, tt, d⟩ (bs, pls)).2 vb' ∧ Bp B w w' := by
  obtain ⟨h1, ⟨t', ht, htl⟩, ⟨c', hc, hcl⟩, ht0, ht1, h6, h7⟩ := rc_parts hr
  have ht : (t : Int) = t' := ht
  have hc : (c : Int) = c' := hc
  obtain rfl : t = t' := by omega
  obtain rfl : c = c' := by omega
  simp only at h1 ht0 ht1 h6 h7
  clear ht hc hr
  obtain ⟨ls, hs⟩ := Option.isSome_iff_exists.1 h1
  have hos := name_short h1
  have hal := rrA_len h1 t c tt (bs, pls)
  simp only at hal
  have hao := rrA_ok o t c tt (bs, pls) hok
  have hdl := daW_len h6 (rrA o t c tt (bs, pls))
  rw [show rrW ⟨o, t, c, tt, d⟩ (bs, pls) = rrFin (rrA o t c tt (bs, pls)).1.length (daW t d (rrA o t c tt (bs, pls))) from rfl]
  have hnl := nmW_len ls bs pls (fun x hx => ((Nm.split_join hs).2 x hx).1)
  have hnz := Nm.split_size hs
  have HA1 : Hid ((((((nmW ls bs pls).1 ++ put2 t) ++ put2 c) ++ put4 tt) ++ put2 0) = (rrA o t c tt (bs, pls)).1) := by
    show _ = _
    simp [rrA, nmX_of hs, put2]
  have HA2 : Hid ((nmW ls bs pls).2 = (rrA o t c tt (bs, pls)).2) := by
    show _ = _
    simp [rrA, nmX_of hs]
  generalize rrA o t c tt (bs, pls) = A at *
  have bA := (Below.refl w.heap.size w).alloc (Nat.le_refl _) (.cells #[.string o, .int .i64 t, .int .i64 c, .int .i64 tt, .string d] 72)
  have hblk := blk_new w #[.string o, .int .i64 t, .int .i64 c, .int .i64 tt, .string d] 72
  have hgl : w.heap.size < (w.alloc (.cells #[.string o, .int .i64 t, .int .i64 c, .int .i64 tt, .string d] 72)).heap.size := by simp
  have hnm := name_w_any o ls hs g B r bs pls vb _ (h.below bA) (Nat.le_trans hB bA.size) (by omega) hok
  have hn1 := fun vb W (h : PM W g B r (nmW ls bs pls).1 (nmW ls bs pls).2 vb) (hB : B ≤ W.heap.size) => number2_pm t htl g B r _ _ vb W h hB (by omega)
  have hn2 := fun vb W (h : PM W g B r ((nmW ls bs pls).1 ++ put2 t) (nmW ls bs pls).2 vb) (hB : B ≤ W.heap.size) => number2_pm c hcl g B r _ _ vb W h hB (by simp [put2]; omega)
  have hn3 := fun vb W (h : PM W g B r (((nmW ls bs pls).1 ++ put2 t) ++ put2 c) (nmW ls bs pls).2 vb) (hB : B ≤ W.heap.size) => number4_pm tt ht0 ht1 g B r _ _ vb W h hB (by simp [put2]; omega)
  have hn4 := fun vb W (h : PM W g B r ((((nmW ls bs pls).1 ++ put2 t) ++ put2 c) ++ put4 tt) (nmW ls bs pls).2 vb) (hB : B ≤ W.heap.size) => number2_pm 0 (by decide) g B r _ _ vb W h hB (by simp [put2, put4]; omega)
  rw [HA1.out, show ((0 : Nat) : Int) = 0 from rfl] at hn4
  have hda := fun vb W (h : PM W g B r A.1 A.2 vb) (hB : B ≤ W.heap.size) => data_w_any t d h6 h7 g B r A.1 A.2 vb W h hB (by omega) hao
  rw [show daW t d (A.1, A.2) = daW t d A from rfl] at hda
  generalize daW t d A = D at *
  obtain ⟨RES, HR⟩ : ∃ R, Hid (rrFin A.1.length D = R) := ⟨_, rfl⟩
  rw [HR.out]
  obtain ⟨k, hk⟩ : ∃ k, A.1.length = k + 2 := ⟨A.1.length - 2, by omega⟩
  obtain ⟨n, hn⟩ : ∃ n, D.1.length = k + 2 + n := ⟨D.1.length - (k + 2), by omega⟩
  have hn2' : (n : Int) ≤ 65535 := by omega
  have hkI : (k : Int) ≤ 60000000 := by omega
  have hwk : IntKind.i64.wrap (k : Int) = (k : Int) := wrap_pos k (by omega)
  have hwn : IntKind.i64.wrap (n : Int) = (n : Int) := wrap_pos n (by omega)
  have q1 : (k : Int) + 2 + n - (k + 2) = n := by omega
  have hbb := fun W => bigBytes2_any n W (by omega)
  generalize nmW ls bs pls = N at *
  clear HA1 hs hnl hnz
  go_enter Tryz.func48, Tryz.ntmps48
  go_wp2_with first
    | (
      go_at_call 69
      refine hnm.mono ?_
      rintro e w1 ⟨rfl, vb1, hM1, k1⟩
      have hB1 := Nat.le_trans hB (Nat.le_trans bA.size k1.be.size)
      have kb1 := k1.kp _ _ _ hblk (by decide) (by decide)
      have x1 := (blk_cell kb1 1).trans rfl)
    | (
      go_at_call 70
      with_reducible refine (hn1 _ _ hM1 hB1).mono ?_
      rintro e w2 ⟨rfl, vb2, hM2, k2⟩
      have hB2 := Nat.le_trans hB1 k2.be.size
      have kb2 := k2.kp _ _ _ kb1 (by decide) (by decide)
      have x2 := (blk_cell kb2 2).trans rfl)
    | (
      go_at_call 70
      with_reducible refine (hn2 _ _ hM2 hB2).mono ?_
      rintro e w3 ⟨rfl, vb3, hM3, k3⟩
      have hB3 := Nat.le_trans hB2 k3.be.size
      have kb3 := k3.kp _ _ _ kb2 (by decide) (by decide)
      have x3 := (blk_cell kb3 3).trans rfl)
    | (
      go_at_call 70
      with_reducible refine (hn3 _ _ hM3 hB3).mono ?_
      rintro e w4 ⟨rfl, vb4, hM4, k4⟩
      have hB4 := Nat.le_trans hB3 k4.be.size
      have kb4 := k4.kp _ _ _ kb3 (by decide) (by decide))
    | (
      go_at_call 70
      with_reducible refine (hn4 _ _ hM4 hB4).mono ?_
      rintro e w5 ⟨rfl, vb5, hM5, k5⟩
      rw [HA2.out] at hM5
      have hB5 := Nat.le_trans hB4 k5.be.size
      have kb5 := k5.kp _ _ _ kb4 (by decide) (by decide)
      have x51 := (blk_cell kb5 1).trans rfl
      have x54 := (blk_cell kb5 4).trans rfl
      obtain ⟨b5, cap5, hv5⟩ := hM5.pw.some (by omega)
      subst hv5
      have y50 := (blk_cell hM5.pw.blk 0).trans rfl)
    | (
      go_at_call 71
      refine (hda _ _ hM5 hB5).mono ?_
      rintro e w6 ⟨rfl, vb6, hM6, k6⟩
      have hB6 := Nat.le_trans hB5 k6.be.size)
  obtain ⟨b, cap, hv6⟩ := hM6.pw.some (by omega)
  subst hv6
  have hM6p := hM6
  rw [hn] at hM6
  have hrb6 := hM6.pw.rb
  rw [hn] at hrb6
  have c6 : w6.cell? ⟨g, 0, none⟩ = some (.slice (some ⟨b, 0, none⟩) (k + 2 + n) cap) := (blk_cell hM6.pw.blk 0).trans rfl
  have hk6 : Bp B w w6 := (Bp.of bA hB).trans (k1.trans (k2.trans (k3.trans (k4.trans (k5.trans k6)))))
  clear hnm hn1 hn2 hn3 hn4 hda hM1 hM2 hM3 hM4 hM5 kb1 kb2 kb3 kb4 kb5 k1 k2 k3 k4 k5 k6 x1 x2 x3 x51 x54 y50 hblk bA hgl h hB1 hB2 hB3 hB4 hB5
  obtain ⟨hcap, hmx⟩ : k + 2 + n ≤ cap ∧ cap ≤ maxLen := by
    obtain ⟨_, a', cap', e, h1, h2, _⟩ := CRow.of_owns hrb6
    cases e
    exact ⟨h1, h2⟩
  unfold maxLen at hmx
  refine wp_region_held_drew (S := fun W => W.cell? ⟨g, 0, none⟩ = some (.slice (some ⟨b, 0, none⟩) (k + 2 + n) cap)) (by kernel_rfl) c6 (fun hHeld => ?_)
  refine wpAnyH_take (i := 0) (v := ?_) rfl (by kernel_rfl) (by kernel_rfl) (by kernel_rfl) (fun _ _ _ h => h) (Or.inl ⟨by rfl, ?_⟩) (by assumption) ?_
  rotate_left 1
  · (intro w hSw1; go_simp; try (with_reducible rfl))
  refine wpAnyH_take (i := 1) (v := ?_) rfl (by kernel_rfl) (by kernel_rfl) (by kernel_rfl) (fun _ _ _ h => h) (Or.inl ⟨by rfl, ?_⟩) (by assumption) ?_
  rotate_left 1
  · (intro w hSw1; go_simp; try (with_reducible rfl))
  refine wpAnyH_take (i := 2) (v := ?_) rfl (by kernel_rfl) (by kernel_rfl) (by kernel_rfl) (fun _ _ _ h => h) (Or.inl ⟨by rfl, ?_⟩) (by assumption) ?_
  rotate_left 1
  · (intro w hSw1; go_simp; try (with_reducible rfl))
  refine wpAnyH_take (i := 3) (v := ?_) rfl (by kernel_rfl) (by kernel_rfl) (by kernel_rfl) (fun _ _ _ h => h) (Or.inl ⟨by rfl, ?_⟩) (by assumption) ?_
  rotate_left 1
  · (intro w hSw1; go_simp; try (with_reducible rfl))
  refine wpAnyH_take (i := 4) (v := ?_) rfl (by kernel_rfl) (by kernel_rfl) (by kernel_rfl) (fun _ _ _ h => h) (Or.inl ⟨by rfl, ?_⟩) (by assumption) ?_
  rotate_left 1
  · (intro w hSw1; go_simp; try (with_reducible rfl))
  refine wpAnyH_take (i := 5) (v := .int .i64 (k : Int)) rfl (by kernel_rfl) (by kernel_rfl) (by kernel_rfl) (fun _ _ _ h => h) (Or.inl ⟨by rfl, ?_⟩) (by assumption) ?_
  · intro w hSw1
    go_simp
    try rw [hwk]
  have hck : ¬ cap = k := by omega
  refine wpAnyH_take (i := 6) (v := .slice (some ⟨b, k, none⟩) (k + 2 + n - k) (cap - k)) rfl (by kernel_rfl) (by kernel_rfl) (by kernel_rfl) (fun _ _ _ h => h) (Or.inl ⟨by rfl, ?_⟩) (by assumption) ?_
  · intro w hSw1
    go_simp
    try rw [if_neg hck]
    try (intro hx; exfalso; omega)
  refine wpAnyH_take (i := 7) (v := ?_) rfl (by kernel_rfl) (by kernel_rfl) (by kernel_rfl) (fun _ _ _ h => h) (Or.inl ⟨by rfl, ?_⟩) (by assumption) ?_
  rotate_left 1
  · (intro w hSw1; go_simp; try (with_reducible rfl))
  refine wpAnyH_take (i := 8) (v := ?_) rfl (by kernel_rfl) (by kernel_rfl) (by kernel_rfl) (fun _ _ _ h => h) (Or.inl ⟨by rfl, ?_⟩) (by assumption) ?_
  rotate_left 1
  · (intro w hSw1; go_simp; try (with_reducible rfl))
  refine wpAnyH_take (i := 9) (v := ?_) rfl (by kernel_rfl) (by kernel_rfl) (by kernel_rfl) (fun _ _ _ h => h) (Or.inl ⟨by rfl, ?_⟩) (by assumption) ?_
  rotate_left 1
  · (intro w hSw1; go_simp; try (with_reducible rfl))
  refine wpAnyH_take (i := 10) (v := ?_) rfl (by kernel_rfl) (by kernel_rfl) (by kernel_rfl) (fun _ _ _ h => h) (Or.inl ⟨by rfl, ?_⟩) (by assumption) ?_
  rotate_left 1
  · (intro w hSw1; go_simp; try (with_reducible rfl))
  refine wpAnyH_take (i := 11) (v := ?_) rfl (by kernel_rfl) (by kernel_rfl) (by kernel_rfl) (fun _ _ _ h => h) (Or.inl ⟨by rfl, ?_⟩) (by assumption) ?_
  rotate_left 1
  · (intro w hSw1; go_simp; try (with_reducible rfl))
  refine wpAnyH_take (i := 12) (v := ?_) rfl (by kernel_rfl) (by kernel_rfl) (by kernel_rfl) (fun _ _ _ h => h) (Or.inl ⟨by rfl, ?_⟩) (by assumption) ?_
  rotate_left 1
  · (intro w hSw1; go_simp; try (with_reducible rfl))
  refine wpAnyH_take (i := 13) (v := .int .i64 (n : Int)) rfl (by kernel_rfl) (by kernel_rfl) (by kernel_rfl) (fun _ _ _ h => h) (Or.inl ⟨by rfl, ?_⟩) (by assumption) ?_
  · intro w hSw1
    go_simp
    try rw [q1]
    try rw [hwn]
  have hMd := hM6p.below (Below.refl _ _).drew
  refine wpAnyH_ready (rs := [14]) (by kernel_rfl) (by simp) ?_
  refine AllReadyH.cons rfl (fun K hK => ?_) AllReadyH.nil
  go_simp
  refine (hbb _).mono ?_
  rintro e w7 ⟨rfl, hb7⟩
  go_wp2_with fail
  have hM7 := hMd.below hb7
  have hB7 : B ≤ w7.heap.size := Nat.le_trans hB6 hb7.size
  have k7 : Bp B w w7 := hk6.trans ((Bp.of (Below.refl _ _).drew hB6).trans (Bp.of hb7 hB6))
  have hP7 := hM7.pw
  rw [hn] at hP7
  have c7 : w7.cell? ⟨g, 0, none⟩ = some (.slice (some ⟨b, 0, none⟩) (k + 2 + n) cap) := (blk_cell hP7.blk 0).trans rfl
  refine hK.out _ _ c7 (fun _ => ?_)
  clear hK K
  have hS8 := hP7.store hn.symm k (UInt8.ofNat (n / 256))
  have hn8 : (D.1.set k (UInt8.ofNat (n / 256))).length = k + 2 + n := by rw [List.length_set, hn]
  have hS9 := hS8.store hn8.symm (k + 1) (UInt8.ofNat (n % 256))
  have b8 := hP7.storeBw (Bw.refl B w7) k (.int .u8 ((UInt8.ofNat (n / 256)).toNat : Int))
  have b9 := hS8.storeBw b8 (k + 1) (.int .u8 ((UInt8.ofNat (n % 256)).toNat : Int))
  have hM9 := hM7.after hS9 b9
  have c9 := (blk_cell hM9.pw.blk 0).trans rfl
  have hrb7 := hP7.rb
  rw [hn] at hrb7
  obtain ⟨vk, hvk⟩ : ∃ v, (Nm.bys D.1)[k]? = some v := ⟨_, List.getElem?_eq_getElem (by simp [Nm.bys]; omega)⟩
  obtain ⟨vk1, hvk1⟩ : ∃ v, (Nm.bys D.1)[k + 1]? = some v := ⟨_, List.getElem?_eq_getElem (by simp [Nm.bys]; omega)⟩
  have d7 := (hrb7.cellAt k (by omega)).trans hvk
  have d71 := (hrb7.cellAt (k + 1) (by omega)).trans hvk1
  have f7 := hrb7.frozenAt k
  have f71 := hrb7.frozenAt (k + 1)
  refine wpAnyH_ready (rs := [15]) (by kernel_rfl) (by simp) ?_
  refine AllReadyH.cons rfl (fun K hK => ?_) AllReadyH.nil
  refine step_copy_str2 rfl (.tmp 40) (.tmp 48) 66 9 rfl 5 Tryz.underlying66 (by kernel_rfl) b k (k + 2 + n - k) (cap - k) (by go_simp) ⟨(put2 n).toArray⟩ (by go_simp) (UInt8.ofNat (n / 256)) (UInt8.ofNat (n % 256)) (by simp [put2]) (by omega) (by rw [d7]; rfl) (by rw [d71]; rfl) f7 f71 ?_
  refine hK.out _ _ c9 (fun _ => ?_)
  clear hK K
  refine wpAnyH_done (by kernel_rfl) ?_ _
  have HM : PM ((w7.setCell ⟨b, k, none⟩ (.int .u8 ((UInt8.ofNat (n / 256)).toNat : Int))).setCell ⟨b, k + 1, none⟩ (.int .u8 ((UInt8.ofNat (n % 256)).toNat : Int))) g B r RES.1 RES.2 (.slice (some ⟨b, 0, none⟩) (k + 2 + n) cap) := by
    rw [← HR.out, rrFin, hn, hk, show k + 2 + n - (k + 2) = n by omega, show k + 2 - 2 = k by omega, show k + 2 - 1 = k + 1 by omega]
    exact hM9
  refine bodyPost_end (v := .tuple #[]) ?_ rfl ⟨rfl, _, HM, k7.trans (Bp.ofw b9)⟩
  simp [results, go_sem]
end Go.Proofs.YtmaopfagkffccaaGreat
/- impl.within by its contract. -/
namespace Go.Proofs.YtmaopfagkffccaaGreat
open Go.RowKit
set_option linter.unusedVariables false

set_option maxRecDepth 100000 in
set_option maxHeartbeats 400000 in
theorem within_any (n m : Int) (w : World) : Calls Tryz.prog 61 #[.int .i64 n, .int .i64 m] w fun e w' => e = .returned (.bool (decide (0 ≤ n) && decide (n ≤ m))) ∧ w' = w := by
  by_cases h0 : 0 ≤ n
  · by_cases h1 : n ≤ m
    · have e : (decide (0 ≤ n) && decide (n ≤ m)) = true := by simp [h0, h1]
      rw [e]
      clear e
      go_enter Tryz.func61, Tryz.ntmps61
      go_wp2
      go_ret
      exact ⟨rfl, rfl⟩
    · have h1' : m < n := by omega
      have e : (decide (0 ≤ n) && decide (n ≤ m)) = false := by simp [h0, h1]
      rw [e]
      clear e
      go_enter Tryz.func61, Tryz.ntmps61
      go_wp2
      go_ret
      exact ⟨rfl, rfl⟩
  · have h0' : n < 0 := by omega
    have e : (decide (0 ≤ n) && decide (n ≤ m)) = false := by simp [h0]
    rw [e]
    clear e
    go_enter Tryz.func61, Tryz.ntmps61
    go_wp2
    go_ret
    exact ⟨rfl, rfl⟩
end Go.Proofs.YtmaopfagkffccaaGreat
/- impl.NameOK by its contract. -/
namespace Go.Proofs.YtmaopfagkffccaaGreat
open Go.RowKit

theorem nok_true {s : ByteArray} (h : (Nm.split s).isSome = true) : Dt.sz .nm s = some s.size := by
  obtain ⟨h1, h2⟩ := (Dt.name_iff s).1 h
  rw [Dt.sz, if_neg h1, h2]
theorem nok_false {s : ByteArray} (h : (Nm.split s).isSome = false) : Dt.sz .nm s = none ∨ ∃ n, Dt.sz .nm s = some n ∧ n ≠ s.size := by
  by_cases h0 : (Dt.nameAtS s).size = 0
  · left; rw [Dt.sz, if_pos h0]
  · right
    refine ⟨_, by rw [Dt.sz, if_neg h0], ?_⟩
    intro e
    rw [(Dt.name_iff s).2 ⟨h0, e⟩] at h
    simp at h

set_option maxRecDepth 100000 in
set_option maxHeartbeats 400000 in
theorem implNameOK_same (s : ByteArray) (w : World) :
    Calls Tryz.prog 62 #[.string s] w fun e w' => e = .returned (.bool (Nm.split s).isSome) ∧ w' = w := by
  have hcall := nameSize_any s
  cases hq : (Nm.split s).isSome with
  | true =>
    rw [nok_true hq] at hcall
    simp only [szV, Option.getD_some, Option.isSome_some] at hcall
    clear hq
    go_enter Tryz.func62, Tryz.ntmps62
    go_wp2_with (go_at_call 82; refine (hcall _).mono ?_; rintro e w1 ⟨rfl, rfl⟩)
    go_ret
    exact ⟨rfl, rfl⟩
  | false =>
    rcases nok_false hq with h | ⟨n, h, hn⟩
    · rw [h] at hcall
      simp only [szV, Option.getD_none, Option.isSome_none] at hcall
      clear hq h
      go_enter Tryz.func62, Tryz.ntmps62
      go_wp2_with (go_at_call 82; refine (hcall _).mono ?_; rintro e w1 ⟨rfl, rfl⟩)
      go_ret
      exact ⟨rfl, rfl⟩
    · rw [h] at hcall
      simp only [szV, Option.getD_some, Option.isSome_some] at hcall
      have hb : ((n : Int) == (s.size : Int)) = false := by rw [beq_eq_false_iff_ne]; omega
      have hb2 : (n == s.size) = false := by rw [beq_eq_false_iff_ne]; omega
      clear hq h
      go_enter Tryz.func62, Tryz.ntmps62
      go_wp2_with (go_at_call 82; refine (hcall _).mono ?_; rintro e w1 ⟨rfl, rfl⟩)
      go_ret
      exact ⟨rfl, rfl⟩

theorem implNameOK_any (s : ByteArray) (w : World) (_ : s.size ≤ maxLen) :
    Calls Tryz.prog 62 #[.string s] w fun e w' => e = .returned (.bool (Nm.split s).isSome) ∧ Below w.heap.size w w' := by
  refine (implNameOK_same s w).mono ?_
  rintro e w' ⟨rfl, rfl⟩
  exact ⟨rfl, Below.refl _ _⟩
end Go.Proofs.YtmaopfagkffccaaGreat
