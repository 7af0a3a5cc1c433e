import Derived.Test.YtdcbhohlglncnaaGreatJSCmp
import Derived.RegionTactic
import Derived.Test.YtdcbhohlglncnaaGreatJNameSz
import Derived.Test.YtdcbhohlglncnaaGreatJMath
import Derived.WalkKit
import Derived.Test.YtdcbhohlglncnaaGreatJCmp2
import Derived.Test.YtdcbhohlglncnaaGreatJSSmall
/- Small tests of numbers, of the model and of the program, by their contracts. -/
namespace Go.Proofs.YtdcbhohlglncnaaGreat
open Go.RowKit
set_option linter.unusedVariables false
/-- The meta types. -/
def metaB (t : Int) : Bool := t == 0 || t == 41 || (decide (249 ≤ t) && decide (t ≤ 255))
set_option maxRecDepth 100000 in
set_option maxHeartbeats 400000 in
theorem isMeta_any (t : Int) (w : World) : Calls Tryz.prog 168 #[.int .i64 t] w fun e w' => e = .returned (.bool (metaB t)) ∧ w' = w := by
 by_cases h0 : t = 0
 · subst h0
   go_enter Tryz.func168, Tryz.ntmps168
   go_wp2
   go_ret
   exact ⟨rfl, rfl⟩
 · have e0 : (t == 0) = false := by rw [beq_eq_false_iff_ne]; exact h0
   by_cases h1 : t = 41
   · subst h1
     go_enter Tryz.func168, Tryz.ntmps168
     go_wp2
     go_ret
     exact ⟨rfl, rfl⟩
   · have e1 : (t == 41) = false := by rw [beq_eq_false_iff_ne]; exact h1
     by_cases h2 : 249 ≤ t
     · by_cases h3 : t ≤ 255
       · have HM : Hid (metaB t = true) := by show _ = _; simp [metaB, h2, h3]
         go_enter Tryz.func168, Tryz.ntmps168
         go_wp2
         go_ret
         rw [HM.out]
         exact ⟨rfl, rfl⟩
       · have h3' : 255 < t := by omega
         have HM : Hid (metaB t = false) := by show _ = _; simp [metaB, h0, h1]; omega
         go_enter Tryz.func168, Tryz.ntmps168
         go_wp2
         go_ret
         rw [HM.out]
         exact ⟨rfl, rfl⟩
     · have h2' : t < 249 := by omega
       have HM : Hid (metaB t = false) := by show _ = _; simp [metaB, h0, h1]; omega
       go_enter Tryz.func168, Tryz.ntmps168
       go_wp2
       go_ret
       rw [HM.out]
       exact ⟨rfl, rfl⟩
set_option maxRecDepth 100000 in
set_option maxHeartbeats 400000 in
theorem l05Meta_any (t : Int) (w : World) : Calls Tryz.prog 96 #[.int .i64 t] w fun e w' => e = .returned (.bool (metaB t)) ∧ w' = w := by
 by_cases h0 : t = 0
 · subst h0
   go_enter Tryz.func96, Tryz.ntmps96
   go_wp2
   go_ret
   exact ⟨rfl, rfl⟩
 · have e0 : (t == 0) = false := by rw [beq_eq_false_iff_ne]; exact h0
   by_cases h1 : t = 41
   · subst h1
     go_enter Tryz.func96, Tryz.ntmps96
     go_wp2
     go_ret
     exact ⟨rfl, rfl⟩
   · have e1 : (t == 41) = false := by rw [beq_eq_false_iff_ne]; exact h1
     by_cases h2 : 249 ≤ t
     · by_cases h3 : t ≤ 255
       · have HM : Hid (metaB t = true) := by show _ = _; simp [metaB, h2, h3]
         go_enter Tryz.func96, Tryz.ntmps96
         go_wp2
         go_ret
         rw [HM.out]
         exact ⟨rfl, rfl⟩
       · have h3' : 255 < t := by omega
         have HM : Hid (metaB t = false) := by show _ = _; simp [metaB, h0, h1]; omega
         go_enter Tryz.func96, Tryz.ntmps96
         go_wp2
         go_ret
         rw [HM.out]
         exact ⟨rfl, rfl⟩
     · have h2' : t < 249 := by omega
       have HM : Hid (metaB t = false) := by show _ = _; simp [metaB, h0, h1]; omega
       go_enter Tryz.func96, Tryz.ntmps96
       go_wp2
       go_ret
       rw [HM.out]
       exact ⟨rfl, rfl⟩
end Go.Proofs.YtdcbhohlglncnaaGreat
/- impl.NameOK by its contract. -/
namespace Go.Proofs.YtdcbhohlglncnaaGreat
open Go.RowKit
theorem nok_true {s : ByteArray} (h : (Nm.split s).isSome = true) : Dt.sz .nm s = some s.size := by
 obtain ⟨h1, h2⟩ := (Dt.name_iff s).1 h
 rw [Dt.sz, if_neg h1, h2]
theorem nok_false {s : ByteArray} (h : (Nm.split s).isSome = false) : Dt.sz .nm s = none ∨ ∃ n, Dt.sz .nm s = some n ∧ n ≠ s.size := by
 by_cases h0 : (Dt.nameAtS s).size = 0
 · left; rw [Dt.sz, if_pos h0]
 · right
   refine ⟨_, by rw [Dt.sz, if_neg h0], ?_⟩
   intro e
   rw [(Dt.name_iff s).2 ⟨h0, e⟩] at h
   simp at h
set_option maxRecDepth 100000 in
set_option maxHeartbeats 400000 in
theorem implNameOK_same (s : ByteArray) (w : World) :
 Calls Tryz.prog 165 #[.string s] w fun e w' => e = .returned (.bool (Nm.split s).isSome) ∧ w' = w := by
 have hcall := nameSize_any s
 cases hq : (Nm.split s).isSome with
 | true =>
   rw [nok_true hq] at hcall
   simp only [szV, Option.getD_some, Option.isSome_some] at hcall
   clear hq
   go_enter Tryz.func165, Tryz.ntmps165
   go_wp2_with (go_at_call 195; refine (hcall _).mono ?_; rintro e w1 ⟨rfl, rfl⟩)
   go_ret
   exact ⟨rfl, rfl⟩
 | false =>
   rcases nok_false hq with h | ⟨n, h, hn⟩
   · rw [h] at hcall
     simp only [szV, Option.getD_none, Option.isSome_none] at hcall
     clear hq h
     go_enter Tryz.func165, Tryz.ntmps165
     go_wp2_with (go_at_call 195; refine (hcall _).mono ?_; rintro e w1 ⟨rfl, rfl⟩)
     go_ret
     exact ⟨rfl, rfl⟩
   · rw [h] at hcall
     simp only [szV, Option.getD_some, Option.isSome_some] at hcall
     have hb : ((n : Int) == (s.size : Int)) = false := by rw [beq_eq_false_iff_ne]; omega
     have hb2 : (n == s.size) = false := by rw [beq_eq_false_iff_ne]; omega
     clear hq h
     go_enter Tryz.func165, Tryz.ntmps165
     go_wp2_with (go_at_call 195; refine (hcall _).mono ?_; rintro e w1 ⟨rfl, rfl⟩)
     go_ret
     exact ⟨rfl, rfl⟩
end Go.Proofs.YtdcbhohlglncnaaGreat
/- impl.splitName by its contract. -/
namespace Go.Proofs.YtdcbhohlglncnaaGreat
open Go.RowKit
set_option maxRecDepth 100000 in
set_option maxHeartbeats 800000 in
theorem splitName_any (s : ByteArray) (w : World) (_ : s.size ≤ maxLen) :
 Calls Tryz.prog 139 #[.string s] w fun e w' => ∃ v, e = .returned (.tuple #[v, .bool (Nm.split s).isSome]) ∧
  w'.ownsRow w.heap.size 9 1 v ((Nm.split s).getD []).length (((Nm.split s).getD []).map Value.string) ∧ Below w.heap.size w w' := by
 obtain ⟨i0, hi, hz0, hz1, hz2⟩ := info_parts Tryz.infoStr
 have hcall := implNameOK_same s
 cases hq : Nm.split s with
 | none =>
   rw [hq] at hcall
   simp only [Option.isSome_none] at hcall
   clear hq
   go_enter Tryz.func139, Tryz.ntmps139
   go_wp2_with (go_at_call 165; refine (hcall _).mono ?_; rintro e w1 ⟨rfl, hw⟩; obtain rfl : w = w1 := hw.symm; clear hw)
   go_ret2
   exact ⟨_, rfl, World.ownsRow_nil _ _ _ _, Below.refl _ _⟩
 | some L =>
   have hz := Nm.split_size hq
   have hst := Nm.at_start s hz.2
   have HQ := Nm.hide hq
   rw [hq] at hcall
   simp only [Option.isSome_some] at hcall
   clear hq
   have hz2' := hz.2
   clear hz
   go_enter Tryz.func139, Tryz.ntmps139
   go_wp2_with (go_at_call 165; refine (hcall _).mono ?_; rintro e w1 ⟨rfl, hw⟩; obtain rfl : w = w1 := hw.symm; clear hw)
   go_loopw [4, 5] (fun v x wr => ∃ (ls : List ByteArray) (r : ByteArray), x = .string r ∧ Nm.At s ls r ∧ ls.length + r.size ≤ 255 ∧ wr.ownsRow w.heap.size 9 1 v ls.length (ls.map Value.string) ∧ Below w.heap.size w wr)
    (fun _ x _ => match x with | .string r => r.size | _ => 0)
   case atStart => exact ⟨[], s, rfl, hst, by simp; omega, World.ownsRow_nil _ _ _ _, Below.refl _ _⟩
   case round =>
    obtain ⟨ls, r, rfl, hat, hb, hown, hbel⟩ := hrel
    clear hst
    have hq := HQ.out
    by_cases h0 : r.size = 0
    · rw [Nm.at_empty hat h0] at hq; simp at hq
    · have hp : 0 < r.size := by omega
      have hn : (r[0].toNat : Int) < 256 := by have := r[0].toNat_lt; omega
      by_cases h1 : r.size = 1 ∧ r[0].toNat = 0
      · have hL : L = ls := by
         have := Nm.at_end hat hp h1.2 h1.1
         rw [hq] at this
         simpa using this
        have e1 := Nm.tl_one hp h1.1 h1.2
        have e1' : (r.toList != [0]) = false := by rw [bne, e1]; rfl
        clear h1 hq HQ
        go_wp2
        go_ret2
        rw [hL]
        exact ⟨_, rfl, hown, hbel⟩
      · have e1 := Nm.tl_not_one hp h1
        have e1' : (r.toList != [0]) = true := by rw [bne, e1]; rfl
        by_cases h2 : r[0].toNat = 0
        · rw [Nm.at_zero hat hp h2 (fun h => h1 ⟨h, h2⟩)] at hq; simp at hq
        · by_cases h3 : 63 < r[0].toNat ∨ r.size < r[0].toNat + 1
          · rw [Nm.at_bad hat hp h2 h3] at hq; simp at hq
          · have e4 : (r[0].toNat : Int) ≤ 63 := by omega
            have e5 : (r[0].toNat : Int) + 1 ≤ (r.size : Int) := by omega
            have e5' : 1 + r[0].toNat ≤ r.size := by omega
            have hi0 : (0 : Int) < (r.size : Int) := by omega
            have HN : Hid (Nm.At s (ls ++ [r.extract 1 (r[0].toNat + 1)]) (r.extract (r[0].toNat + 1) r.size)) := Nm.at_step hat hp h2 (by omega) (by omega)
            have hsz := hbel.size
            clear h2 h1 h0 h3 hq HQ
            go_wp2_with (at_builtin; refine wpList_append_own _ rfl (.tmp 16) (.tmp 21) 126 rfl w.heap.size 9 i0 (.string ByteArray.empty) 1 16 Tryz.underlying126 hi hz0 hz1 hz2 rfl (by decide) _ _ _ rfl (hown.alloc _) ⟨wr.heap.size, 0, none⟩ 1 1 [.string (r.extract 1 (1 + r[0].toNat))] rfl rfl (cell_new1 _ _ _) (Nm.one_cell _ rfl) (by unfold maxLen; omega) (by omega) (by simp; omega) ?_)
            intro v' w1 hown' hgrow _
            have R := own_step hsz hown hbel _ hown' hgrow
            clear hown' hgrow hown hbel
            go_wp2
            go_roundw
            case rel => exact ⟨_, _, rfl, by simpa [Nat.add_comm] using HN.out, by simp; omega, R.1, R.2⟩
            case measure => simp; omega
end Go.Proofs.YtdcbhohlglncnaaGreat
/- (labelList).under by its contract. -/
namespace Go.Proofs.YtdcbhohlglncnaaGreat
open Go.RowKit
theorem under_short {xs ys : List ByteArray} (h : xs.length < ys.length) : underB xs ys = false := by
 rw [underB, decide_eq_false (by omega)]; rfl
theorem under_long {xs ys : List ByteArray} (h : ys.length ≤ xs.length) : underB xs ys = decide (Nm.cmpLs (xs.drop (xs.length - ys.length)) ys = 0) := by
 rw [underB, decide_eq_true h]; rfl
set_option maxRecDepth 100000 in
set_option maxHeartbeats 800000 in
theorem under_any (v u : Value) (xs ys : List ByteArray) (w : World) (h : Nm.SRow w v xs) (h' : Nm.SRow w u ys) (hxs : ∀ x ∈ xs, x.size ≤ 1000000000) (hlx : xs.length ≤ 1000000000) (hly : ys.length ≤ 1000000000) :
 Calls Tryz.prog 170 #[v, u] w fun e w' => e = .returned (.bool (underB xs ys)) ∧ ∃ m, w' = w.drewN m := by
 have hrow := h
 obtain ⟨a, cap, rfl, hcap, hmx, hnl, hc⟩ := h
 have hu := h'
 obtain ⟨a', cap', rfl, hcap', hmx', hnl', hc'⟩ := h'
 clear hc hc' hnl hnl'
 by_cases hl : xs.length < ys.length
 · have HA := Nm.hide (under_short hl)
   have hd : decide ((0 : Int) ≤ (xs.length : Int) - (ys.length : Int)) = false := by simp; omega
   have hd' : (xs.length : Int) - (ys.length : Int) < 0 := by omega
   clear hrow hu
   go_enter Tryz.func170, Tryz.ntmps170
   go_wp2
   go_ret
   rw [HA.out]
   exact ⟨rfl, 0, rfl⟩
 · have HA := Nm.hide (under_long (xs := xs) (ys := ys) (by omega))
   obtain ⟨d, hd⟩ : ∃ d, d = xs.length - ys.length := ⟨_, rfl⟩
   rw [← hd] at HA
   have hq : (xs.length : Int) - (ys.length : Int) = (d : Int) := by omega
   have hdl : d ≤ xs.length := by omega
   have hg : decide ((0 : Int) ≤ (d : Int)) = true := by simp
   have hcmp := fun V hr => compare_any V (.slice a' ys.length cap') (xs.drop d) ys w hr hu (fun x hx => hxs x (List.mem_of_mem_drop hx)) (by rw [List.length_drop]; omega) hly
   have hd1 := fun e : cap = d => hrow.drop_all e
   have hd2 := hrow.drop (k := d) hdl
   generalize Nm.cmpLs (xs.drop d) ys = o at *
   have HD : Hid ((o == 0) = decide (o = 0)) := by show _ = _; rw [Bool.eq_iff_iff]; simp
   clear hd hl hxs hrow hu
   by_cases hck : cap = d
   · have Hc := hcmp _ (hd1 hck)
     clear hcmp hd1 hd2
     subst hck
     rw [show xs.length - cap = 0 by omega] at Hc
     go_enter Tryz.func170, Tryz.ntmps170
     go_wp2_with fail
     refine Hc.mono ?_
     rintro e w1 ⟨rfl, m, rfl⟩
     go_wp2
     go_ret
     rw [HA.out, ← HD.out]
     exact ⟨rfl, _, rfl⟩
   · have Hc := hcmp _ hd2
     clear hcmp hd1 hd2
     go_enter Tryz.func170, Tryz.ntmps170
     go_wp2_with fail
     refine Hc.mono ?_
     rintro e w1 ⟨rfl, m, rfl⟩
     go_wp2
     go_ret
     rw [HA.out, ← HD.out]
     exact ⟨rfl, _, rfl⟩
end Go.Proofs.YtdcbhohlglncnaaGreat
/- spec.SameName by its contract. -/
namespace Go.Proofs.YtdcbhohlglncnaaGreat
open Go.RowKit
set_option maxRecDepth 100000 in
set_option maxHeartbeats 800000 in
theorem specSameName_any (a b : ByteArray) (w : World) (ha : a.size ≤ maxLen) (hb : b.size ≤ maxLen) :
 Calls Tryz.prog 106 #[.string a, .string b] w fun e w' => e = .returned (.bool (sameS a b)) ∧ Below w.heap.size w w' := by
 have hsa := specFoldName_any a w ha
 have hsb := fun W => specFoldName_any b W hb
 cases hqa : Nm.split a with
 | none =>
   have HA := Nm.hide (same_left (b := b) hqa)
   rw [Nm.foldS_none hqa] at hsa
   have he : (ByteArray.empty).toList.isEmpty = true := Nm.tl_empty rfl
   clear hqa
   go_enter Tryz.func106, Tryz.ntmps106
   go_wp2_with fail
   refine hsa.mono ?_
   rintro e w1 ⟨rfl, hbel⟩
   go_wp2
   go_ret
   rw [HA.out]
   exact ⟨rfl, hbel⟩
 | some xs =>
   rw [Nm.foldS_some hqa] at hsa
   have he := small_pos hqa
   cases hqb : Nm.split b with
   | none =>
     have HA := Nm.hide (same_right (a := a) hqb)
     rw [Nm.foldS_none hqb] at hsb
     have hne : ((Nm.small a).toList == (ByteArray.empty).toList) = false := by
      rw [beq_eq_false_iff_ne]
      intro e
      rw [e] at he
      rw [Nm.tl_empty rfl] at he
      simp at he
     clear hqa hqb
     generalize Nm.small a = x at *
     go_enter Tryz.func106, Tryz.ntmps106
     go_wp2_with fail
     refine hsa.mono ?_
     rintro e w1 ⟨rfl, hbel⟩
     go_wp2_with fail
     refine (hsb _).mono ?_
     rintro e w2 ⟨rfl, hbel2⟩
     go_wp2
     go_ret
     rw [HA.out]
     exact ⟨rfl, Nm.below_two hbel hbel2⟩
   | some ys =>
     have HA := Nm.hide (same_some hqa hqb)
     have HE := Nm.hide (small_eq a b)
     rw [Nm.foldS_some hqb] at hsb
     clear hqa hqb
     generalize Nm.small a = x at *
     generalize Nm.small b = y at *
     go_enter Tryz.func106, Tryz.ntmps106
     go_wp2_with fail
     refine hsa.mono ?_
     rintro e w1 ⟨rfl, hbel⟩
     go_wp2_with fail
     refine (hsb _).mono ?_
     rintro e w2 ⟨rfl, hbel2⟩
     go_wp2
     go_ret
     rw [HA.out, ← HE.out]
     exact ⟨rfl, Nm.below_two hbel hbel2⟩
end Go.Proofs.YtdcbhohlglncnaaGreat
/- spec.IsUnder by its contract. -/
namespace Go.Proofs.YtdcbhohlglncnaaGreat
open Go.RowKit
set_option maxRecDepth 100000 in
set_option maxHeartbeats 800000 in
theorem specIsUnder_any (a b : ByteArray) (w : World) (ha : a.size ≤ maxLen) (hb : b.size ≤ maxLen) :
 Calls Tryz.prog 98 #[.string a, .string b] w fun e w' => e = .returned (.bool (isUnderS a b)) ∧ Below w.heap.size w w' := by
 have hsa := l01Split_any a w ha
 have hsb := fun W => l01Split_any b W hb
 cases hqa : Nm.split a with
 | none =>
   have HA := Nm.hide (isUnder_left (b := b) hqa)
   rw [hqa] at hsa
   clear hqa
   go_enter Tryz.func98, Tryz.ntmps98
   go_wp2_with fail
   refine hsa.mono ?_
   rintro e w1 ⟨v, rfl, hown, hbel⟩
   go_wp2_with fail
   refine (hsb _).mono ?_
   rintro e w2 ⟨v2, rfl, hown2, hbel2⟩
   go_wp2
   go_ret
   rw [HA.out]
   exact ⟨rfl, Nm.below_two hbel hbel2⟩
 | some xs =>
   rw [hqa] at hsa
   cases hqb : Nm.split b with
   | none =>
     have HA := Nm.hide (isUnder_right (a := a) hqb)
     rw [hqb] at hsb
     clear hqa hqb
     go_enter Tryz.func98, Tryz.ntmps98
     go_wp2_with fail
     refine hsa.mono ?_
     rintro e w1 ⟨v, rfl, hown, hbel⟩
     go_wp2_with fail
     refine (hsb _).mono ?_
     rintro e w2 ⟨v2, rfl, hown2, hbel2⟩
     go_wp2
     go_ret
     rw [HA.out]
     exact ⟨rfl, Nm.below_two hbel hbel2⟩
   | some ys =>
     have HA := Nm.hide (isUnder_some hqa hqb)
     have hund := under_same hqa hqb
     have hza := Nm.split_size hqa
     have hzb := Nm.split_size hqb
     have hla := Nm.length_le_wsum xs
     have hlb := Nm.length_le_wsum ys
     rw [hqb] at hsb
     clear hqa hqb
     go_enter Tryz.func98, Tryz.ntmps98
     go_wp2_with fail
     refine hsa.mono ?_
     rintro e w1 ⟨v, rfl, hown, hbel⟩
     go_wp2_with fail
     refine (hsb _).mono ?_
     rintro e w2 ⟨v2, rfl, hown2, hbel2⟩
     have r1 := (Nm.SRow.of_owns hown).below hbel2
     have r2 := Nm.SRow.of_owns hown2
     simp only [Option.getD_some] at r1 r2
     have hbw := Nm.below_two hbel hbel2
     obtain ⟨a1, cap1, rfl, hcap1, hmx1, hnl1, hc1⟩ := r1
     obtain ⟨a2, cap2, rfl, hcap2, hmx2, hnl2, hc2⟩ := r2
     have hrow : Nm.SRow w2 (.slice a1 xs.length cap1) xs := ⟨a1, cap1, rfl, hcap1, hmx1, hnl1, hc1⟩
     clear hown hown2 hsa hsb hnl1 hnl2 hbel hbel2 hc1 hc2
     by_cases hl : xs.length < ys.length
     · have HU := Nm.hide (under_short hl)
       have hd : decide (xs.length < ys.length) = true := by simpa using hl
       clear hrow
       go_wp2
       go_ret
       rw [HA.out, HU.out]
       exact ⟨rfl, hbw⟩
     · have HU := Nm.hide (hund (by omega))
       have hss := fun W => specSameName_any ⟨(Nm.joinL (xs.drop (xs.length - ys.length))).toArray⟩ b W (by
        show (Nm.joinL (xs.drop (xs.length - ys.length))).toArray.size ≤ maxLen
        rw [List.size_toArray, Nm.joinL_length]
        have := Nm.wsum_drop_le xs (xs.length - ys.length)
        unfold maxLen
        omega) hb
       obtain ⟨d, hd⟩ : ∃ d, d = xs.length - ys.length := ⟨_, rfl⟩
       rw [← hd] at HU hss
       have hq : (xs.length : Int) - (ys.length : Int) = (d : Int) := by omega
       have hdl : d ≤ xs.length := by omega
       have hyx : ys.length ≤ xs.length := by omega
       have hwd := Nm.wsum_drop_le xs d
       have hjn := fun V hr => l01Join_any V (xs.drop d) w2 hr (by omega)
       have hd1 := fun e : cap1 = d => hrow.drop_all e
       have hd2 := hrow.drop (k := d) hdl
       have hdd : decide (xs.length < ys.length) = false := by simp; omega
       generalize ByteArray.mk (Nm.joinL (xs.drop d)).toArray = J at *
       clear hd hl hrow hund
       by_cases hck : cap1 = d
       · have Hc := hjn _ (hd1 hck)
         clear hjn hd1 hd2
         subst hck
         rw [show xs.length - cap1 = 0 by omega] at Hc
         go_wp2_with fail
         refine Hc.mono ?_
         rintro e w3 ⟨rfl, hbel3⟩
         go_wp2_with fail
         refine (hss _).mono ?_
         rintro e w4 ⟨rfl, hbel4⟩
         go_wp2
         go_ret
         rw [HA.out, ← HU.out]
         exact ⟨rfl, Nm.below_two hbw (Nm.below_two hbel3 hbel4)⟩
       · have Hc := hjn _ hd2
         clear hjn hd1 hd2
         go_wp2_with fail
         refine Hc.mono ?_
         rintro e w3 ⟨rfl, hbel3⟩
         go_wp2_with fail
         refine (hss _).mono ?_
         rintro e w4 ⟨rfl, hbel4⟩
         go_wp2
         go_ret
         rw [HA.out, ← HU.out]
         exact ⟨rfl, Nm.below_two hbw (Nm.below_two hbel3 hbel4)⟩
end Go.Proofs.YtdcbhohlglncnaaGreat
