/- impl.ReplaceTail by its contract. -/
import Derived.Test.YtakonfkefoeenagMakeOk
import Derived.Test.YtakonfkefoeenagJoinL
import Derived.Test.YtakonfkefoeenagUnder
namespace Go.Proofs.Ytakonfkefoeenag
open Go.RowKit

theorem SRow_take {w : World} {a : Option Addr} {ls : List ByteArray} {cap d : Nat} (h : Nm.SRow w (.slice a ls.length cap) ls) (hd : d ≤ ls.length) : Nm.SRow w (.slice a d cap) (ls.take d) := by
  obtain ⟨a', cap', e, h1, h2, h3, h4⟩ := h
  simp only [Value.slice.injEq] at e
  obtain ⟨rfl, _, rfl⟩ := e
  have hl : (ls.take d).length = d := by simp; omega
  refine ⟨a, cap, by rw [hl], by omega, h2, h3, fun hne => ?_⟩
  obtain ⟨b, off, e2, hc⟩ := h4 (by intro h; rw [h] at hne; simp at hne)
  refine ⟨b, off, e2, ?_⟩
  intro i x hx
  refine hc i x ?_
  rw [List.getElem?_take] at hx
  split at hx
  · exact hx
  · simp at hx

def replS (a b c : ByteArray) : ByteArray × Int :=
  match Nm.split a, Nm.split b, Nm.split c with
  | some xs, some ys, some zs => if underB xs ys = true ∧ xs.length ≠ ys.length then makeS (xs.take (xs.length - ys.length) ++ zs) else (ByteArray.empty, 22)
  | _, _, _ => (ByteArray.empty, 32)

theorem repl_bad {a b c : ByteArray} (h : Nm.split a = none ∨ Nm.split b = none ∨ Nm.split c = none) : replS a b c = (ByteArray.empty, 32) := by
  unfold replS
  cases ha : Nm.split a <;> cases hb : Nm.split b <;> cases hc : Nm.split c <;> simp_all

theorem repl_zone {a b c : ByteArray} {xs ys zs : List ByteArray} (ha : Nm.split a = some xs) (hb : Nm.split b = some ys) (hc : Nm.split c = some zs) (h : ¬ (underB xs ys = true ∧ xs.length ≠ ys.length)) : replS a b c = (ByteArray.empty, 22) := by
  simp only [replS, ha, hb, hc]; rw [if_neg h]
theorem repl_good {a b c : ByteArray} {xs ys zs : List ByteArray} (ha : Nm.split a = some xs) (hb : Nm.split b = some ys) (hc : Nm.split c = some zs) (h : underB xs ys = true ∧ xs.length ≠ ys.length) : replS a b c = makeS (xs.take (xs.length - ys.length) ++ zs) := by
  simp only [replS, ha, hb, hc]; rw [if_pos h]

set_option maxRecDepth 100000 in
set_option maxHeartbeats 800000 in
theorem implReplaceTail_any (a b c : ByteArray) (w : World) (ha : a.size ≤ maxLen) (hb : b.size ≤ maxLen) (hc : c.size ≤ maxLen) :
    Calls Try.prog 11 #[.string a, .string b, .string c] w fun e w' => e = .returned (.tuple #[.string (replS a b c).1, .int .i64 (replS a b c).2]) ∧ Below w.heap.size w w' := by
  have hsa := splitName_any a w ha
  have hsb := fun W => splitName_any b W hb
  have hsc := fun W => splitName_any c W hc
  by_cases hbad : Nm.split a = none ∨ Nm.split b = none ∨ Nm.split c = none
  · have HA := Nm.hide (repl_bad hbad)
    have hg : ((Nm.split a).isSome = false) ∨ ((Nm.split a).isSome = true ∧ (Nm.split b).isSome = false) ∨ ((Nm.split a).isSome = true ∧ (Nm.split b).isSome = true ∧ (Nm.split c).isSome = false) := by
      cases h1 : Nm.split a <;> cases h2 : Nm.split b <;> cases h3 : Nm.split c <;> simp_all
    clear hbad
    generalize Nm.split a = sa at *
    generalize Nm.split b = sb at *
    generalize Nm.split c = sc at *
    rcases hg with h1 | ⟨h1, h2⟩ | ⟨h1, h2, h3⟩
    all_goals
      go_enter Try.func11, Try.ntmps11
      go_wp2_with fail
      refine hsa.mono ?_
      rintro e w1 ⟨v, rfl, hown, hbel⟩
      go_wp2_with fail
      refine (hsb _).mono ?_
      rintro e w2 ⟨v2, rfl, hown2, hbel2⟩
      go_wp2_with fail
      refine (hsc _).mono ?_
      rintro e w3 ⟨v3, rfl, hown3, hbel3⟩
      have hb4 := Nm.below_two (Nm.below_two hbel hbel2) hbel3
      clear hown hown2 hown3
      go_wp2
      go_ret2
      rw [HA.out]
      exact ⟨rfl, hb4⟩
  · obtain ⟨xs, hqa⟩ : ∃ xs, Nm.split a = some xs := Option.ne_none_iff_exists'.1 (fun h => hbad (.inl h))
    obtain ⟨ys, hqb⟩ : ∃ ys, Nm.split b = some ys := Option.ne_none_iff_exists'.1 (fun h => hbad (.inr (.inl h)))
    obtain ⟨zs, hqc⟩ : ∃ zs, Nm.split c = some zs := Option.ne_none_iff_exists'.1 (fun h => hbad (.inr (.inr h)))
    have hxs := (Nm.split_join hqa).2
    have hzs := (Nm.split_join hqc).2
    have hza := Nm.split_size hqa
    have hzb := Nm.split_size hqb
    have hzc := Nm.split_size hqc
    have hla := Nm.length_le_wsum xs
    have hlb := Nm.length_le_wsum ys
    have hlc := Nm.length_le_wsum zs
    have hzone := repl_zone hqa hqb hqc
    have hgood := repl_good hqa hqb hqc
    rw [hqa] at hsa
    rw [hqb] at hsb
    rw [hqc] at hsc
    clear hbad hqa hqb hqc
    by_cases heq : xs.length = ys.length
    · have HA := Nm.hide (hzone (fun h => h.2 heq))
      have hd : ((xs.length : Int) == (ys.length : Int)) = true := by simp [heq]
      clear hzone hgood heq
      go_enter Try.func11, Try.ntmps11
      go_wp2_with fail
      refine hsa.mono ?_
      rintro e w1 ⟨v, rfl, hown, hbel⟩
      go_wp2_with fail
      refine (hsb _).mono ?_
      rintro e w2 ⟨v2, rfl, hown2, hbel2⟩
      go_wp2_with fail
      refine (hsc _).mono ?_
      rintro e w3 ⟨v3, rfl, hown3, hbel3⟩
      have hb4 := Nm.below_two (Nm.below_two hbel hbel2) hbel3
      obtain ⟨a1, cap1, rfl, hcap1, hmx1, hnl1, hc1⟩ := Nm.SRow.of_owns hown
      obtain ⟨a2, cap2, rfl, hcap2, hmx2, hnl2, hc2⟩ := Nm.SRow.of_owns hown2
      simp only [Option.getD_some] at *
      clear hown hown2 hown3 hc1 hc2 hnl1 hnl2
      go_wp2
      go_ret2
      rw [HA.out]
      exact ⟨rfl, hb4⟩
    · have hd : ((xs.length : Int) == (ys.length : Int)) = false := by rw [beq_eq_false_iff_ne]; omega
      have hund := fun V U W h1 h2 => under_any V U xs ys W h1 h2 (fun x hx => by have := hxs x hx; omega) (by omega) (by omega)
      cases hu : underB xs ys with
      | false =>
        have HA := Nm.hide (hzone (fun h => by rw [hu] at h; simp at h))
        rw [hu] at hund
        clear hzone hgood
        go_enter Try.func11, Try.ntmps11
        go_wp2_with fail
        refine hsa.mono ?_
        rintro e w1 ⟨v, rfl, hown, hbel⟩
        go_wp2_with fail
        refine (hsb _).mono ?_
        rintro e w2 ⟨v2, rfl, hown2, hbel2⟩
        go_wp2_with fail
        refine (hsc _).mono ?_
        rintro e w3 ⟨v3, rfl, hown3, hbel3⟩
        have hb4 := Nm.below_two (Nm.below_two hbel hbel2) hbel3
        have r1 := ((Nm.SRow.of_owns hown).below hbel2).below hbel3
        have r2 := (Nm.SRow.of_owns hown2).below hbel3
        simp only [Option.getD_some] at r1 r2
        have hun := hund _ _ _ r1 r2
        obtain ⟨a1, cap1, rfl, hcap1, hmx1, hnl1, hc1⟩ := r1
        obtain ⟨a2, cap2, rfl, hcap2, hmx2, hnl2, hc2⟩ := r2
        clear hown hown2 hown3 hc1 hc2 hnl1 hnl2 hund
        go_wp2_with fail
        refine hun.mono ?_
        rintro e w4 ⟨rfl, m, rfl⟩
        go_wp2
        go_ret2
        rw [HA.out]
        exact ⟨rfl, Go.below_drewN hb4 _⟩
      | true =>
        have hwire := make_wire_ok (ls := xs.take (xs.length - ys.length) ++ zs) (by
          intro x hx
          rcases List.mem_append.1 hx with h | h
          · exact hxs x (List.mem_of_mem_take h)
          · exact hzs x h)
        have HA := Nm.hide ((hgood ⟨hu, heq⟩).trans hwire)
        have hlt : ys.length < xs.length := by
          rw [underB] at hu
          simp at hu
          omega
        rw [hu] at hund
        have hwt := Nm.wsum_take_le xs (xs.length - ys.length)
        have hwa := Nm.wsum_append (xs.take (xs.length - ys.length)) zs
        obtain ⟨d, hdd⟩ : ∃ d, d = xs.length - ys.length := ⟨_, rfl⟩
        rw [← hdd] at HA hwt hwa
        have hq : (xs.length : Int) - (ys.length : Int) = (d : Int) := by omega
        have hdl : d ≤ xs.length := by omega
        clear hzone hgood hwire hdd
        go_enter Try.func11, Try.ntmps11
        go_wp2_with fail
        refine hsa.mono ?_
        rintro e w1 ⟨v, rfl, hown, hbel⟩
        go_wp2_with fail
        refine (hsb _).mono ?_
        rintro e w2 ⟨v2, rfl, hown2, hbel2⟩
        go_wp2_with fail
        refine (hsc _).mono ?_
        rintro e w3 ⟨v3, rfl, hown3, hbel3⟩
        have hb4 := Nm.below_two (Nm.below_two hbel hbel2) hbel3
        have r1 := ((Nm.SRow.of_owns hown).below hbel2).below hbel3
        have r2 := (Nm.SRow.of_owns hown2).below hbel3
        have r3 := Nm.SRow.of_owns hown3
        simp only [Option.getD_some] at r1 r2 r3
        have hun := hund _ _ _ r1 r2
        have hr1 := r1
        obtain ⟨a1, cap1, rfl, hcap1, hmx1, hnl1, hc1⟩ := r1
        obtain ⟨a2, cap2, rfl, hcap2, hmx2, hnl2, hc2⟩ := r2
        obtain ⟨b1, off1, rfl, _⟩ := hc1 (by intro h; rw [h] at hlt; simp at hlt)
        have ht1 := SRow_take hr1 hdl
        clear hown hown2 hown3 hc1 hc2 hnl1 hnl2 hund hr1
        go_wp2_with fail
        refine hun.mono ?_
        rintro e w4 ⟨rfl, m, rfl⟩
        have hdw : Below w3.heap.size w3 (w3.drewN m) := Go.below_drewN (Below.refl _ _) m
        go_wp2_with fail
        refine (join_any _ _ (xs.take d) zs _ (ht1.below hdw) (r3.below hdw) (by simp; omega) (by omega)).mono ?_
        rintro e w5 ⟨t, rfl, hown5, hbel5⟩
        go_wp2_with fail
        refine (wire_any t (xs.take d ++ zs) _ (Nm.SRow.of_owns hown5) (by omega)).mono ?_
        rintro e w6 ⟨rfl, hbel6⟩
        go_wp2
        go_ret2
        rw [HA.out]
        exact ⟨rfl, Nm.below_two (Nm.below_two (Nm.below_two hb4 hdw) hbel5) hbel6⟩
end Go.Proofs.Ytakonfkefoeenag
