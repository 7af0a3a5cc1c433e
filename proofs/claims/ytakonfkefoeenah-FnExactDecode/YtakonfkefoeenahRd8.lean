import Derived.Test.YtakonfkefoeenahRd7
/- (*reader).data by its contract. -/
namespace Go.Proofs.Ytakonfkefoeenah
open Go.RowKit
set_option linter.unusedVariables false

set_option maxRecDepth 100000 in
set_option maxHeartbeats 800000 in
theorem mayPoint_any (t : Nat) (w : World) :
    Calls Try.prog 45 #[.int .i64 t] w fun e w' => e = .returned (.bool (decide (pointed t))) ∧ w' = w := by
  by_cases h : pointed t
  · have HD : Hid (decide (pointed t) = true) := by exact decide_eq_true h
    rcases h with rfl | rfl | rfl | rfl | rfl
    all_goals
      go_enter Try.func45, Try.ntmps45
      go_wp2
      go_ret
      exact ⟨rfl, rfl⟩
  · have HD : Hid (decide (pointed t) = false) := by exact decide_eq_false h
    unfold pointed at h
    have b2 : ((t : Int) == 2) = false := by rw [beq_eq_false_iff_ne]; omega
    have b5 : ((t : Int) == 5) = false := by rw [beq_eq_false_iff_ne]; omega
    have b6 : ((t : Int) == 6) = false := by rw [beq_eq_false_iff_ne]; omega
    have b12 : ((t : Int) == 12) = false := by rw [beq_eq_false_iff_ne]; omega
    have b15 : ((t : Int) == 15) = false := by rw [beq_eq_false_iff_ne]; omega
    clear h
    go_enter Try.func45, Try.ntmps45
    go_wp2
    go_ret
    rw [HD.out]
    exact ⟨rfl, rfl⟩

/-- A record's data with the number of its bytes ahead of it. -/
def dtaS (l : List UInt8) (t p : Nat) : Rs (List UInt8) :=
  if p + 2 ≤ l.length then if p + 2 + n16 l p ≤ l.length then dataS l t (p + 2) (p + 2 + n16 l p) else .bad 8 else .bad 8

theorem str_cut (l : List UInt8) (p n : Nat) (h : p + n ≤ l.length) : (ByteArray.mk (cutL l p n).toArray).size = n := by
  rw [mk_sz, cutL_length h]

set_option maxRecDepth 100000 in
set_option maxHeartbeats 600000 in
theorem data_any (g : Nat) (a : Option Addr) (l : List UInt8) (cap p t : Nat) (w : World) (h : Rd w g (.slice a l.length cap) p) (hfar : ∀ w', w.grownBy w' (some g) → BySl w' (.slice a l.length cap) l) (hp : p ≤ l.length) (hnn : l.length ≤ 1048576) :
    Calls Try.prog 39 #[.pointer (some ⟨g, 0, none⟩), .int .i64 t] w fun e w' =>
      (∃ d q, dtaS l t p = .ok d q ∧ e = .returned (.string ⟨d.toArray⟩) ∧ Rd w' g (.slice a l.length cap) q ∧ q ≤ l.length ∧ w.grownBy w' (some g)) ∨
      (∃ c, dtaS l t p = .bad c ∧ e = .panicked (fault c) ∧ w.grownBy w' (some g)) := by
  have hcap : l.length ≤ cap := by
    obtain ⟨_, a', cap', e, h1, _⟩ := hfar w (World.grownBy.refl _ _)
    simp only [Value.slice.injEq] at e
    obtain ⟨rfl, _, rfl⟩ := e
    exact h1
  have hnum := number_any g a l cap p 2 w h (hfar w (World.grownBy.refl _ _)) (fun W hW => hfar W hW) hp hnn (by decide)
  by_cases h2 : p + 2 ≤ l.length
  · have h2' : ¬ l.length < p + 2 := by omega
    simp only [h2, h2', true_and, false_and, or_false] at hnum
    have hn := n16_lt l p
    have htk := fun W (hr : Rd W g (.slice a l.length cap) (p + 2)) => take_any g a l.length cap (p + 2) (n16 l p) W hr h2 hcap hnn (by omega)
    have hnum := hnum.mono (R' := fun e w' => e = .returned (.int .i64 ((n16 l p : Nat) : Int)) ∧ Rd w' g (.slice a l.length cap) (p + 2) ∧ w.grownBy w' (some g)) (fun e w' h => h)
    by_cases h3 : p + 2 + n16 l p ≤ l.length
    · have h3' : ¬ l.length < p + 2 + n16 l p := by omega
      simp only [h3, h3', true_and, false_and, or_false] at htk
      have hcv : ∀ W, w.grownBy W (some g) → (convert 22 9 (cutV a cap (p + 2) (n16 l p))).run Try.prog W = .ok (.string ⟨(cutL l (p + 2) (n16 l p)).toArray⟩) W := fun W hW => cut_str (cut_row (hfar W hW) h3)
      have hcs := str_cut l (p + 2) (n16 l p) h3
      have hD : dtaS l t p = dataS l t (p + 2) (p + 2 + n16 l p) := by rw [dtaS, if_pos h2, if_pos h3]
      rw [hD]
      clear hD
      have hmp := fun W => mayPoint_any t W
      generalize hqv : cutV a cap (p + 2) (n16 l p) = qv at *
      by_cases h0 : n16 l p = 0
      · have HD : Hid (dataS l t (p + 2) (p + 2 + n16 l p) = .ok [] (p + 2 + n16 l p)) := by
          rw [Hid, dataS, if_pos (by omega)]
        have e2 := Nm.tl_empty (hcs.trans h0)
        generalize (⟨(cutL l (p + 2) (n16 l p)).toArray⟩ : ByteArray) = ds at *
        generalize n16 l p = n at *
        subst h0
        have hc0 : ((0 : Nat) : Int) = 0 := rfl
        simp only [hc0] at hnum htk
        clear hc0 hcs
        go_enter Try.func39, Try.ntmps39
        go_wp2_with (first | (go_at_call 37; refine hnum.mono ?_; rintro e w1 ⟨rfl, hr1, hg1⟩) | (go_at_call 44; refine (htk _ hr1).mono ?_; rintro e w3 ⟨rfl, hr3, hg3⟩; have hcv3 := hcv w3 (gr_step hg1 hg3)))
        go_ret
        rw [HD.out]
        exact .inl ⟨_, _, rfl, rfl, hr3, h3, gr_step hg1 hg3⟩
      · have e2 := Nm.tl_not_empty (show 0 < (ByteArray.mk (cutL l (p + 2) (n16 l p)).toArray).size by omega)
        by_cases hpt : pointed t
        · have hpd : decide (pointed t) = true := decide_eq_true hpt
          simp only [hpd] at hmp
          have HD : Hid (dataS l t (p + 2) (p + 2 + n16 l p) = dtP l (p + 2 + n16 l p) (piecesOf t) (p + 2) []) := by
            rw [Hid, dataS, if_neg (by omega), if_pos hpt]
          have hwn := fun W (hr : Rd W g (.slice a l.length cap) (p + 2)) (hW : w.grownBy W (some g)) => wholeNames_any g a l cap (p + 2) t (p + 2 + n16 l p) W hr (fun W2 hW2 => hfar W2 (gr_step hW hW2)) (by omega) h3 hnn hpt
          generalize (⟨(cutL l (p + 2) (n16 l p)).toArray⟩ : ByteArray) = ds at *
          generalize n16 l p = n at *
          rw [HD.out]
          clear hpd HD
          go_enter Try.func39, Try.ntmps39
          go_wp2_with (first | (go_at_call 37; refine hnum.mono ?_; rintro e w1 ⟨rfl, hr1, hg1⟩) | (go_at_call 44; refine (htk _ hr1).mono ?_; rintro e w3 ⟨rfl, hr3, hg3⟩; have hcv3 := hcv w3 (gr_step hg1 hg3); have hg13 := gr_step hg1 hg3; have c1 : w3.cell? ⟨g, 1, none⟩ = some (.int .i64 ((p + 2 + n : Nat) : Int)) := (by rw [cell_of_row _ _ _ _ _ _ hr3]; rfl); have f1 := frozen_of_row w3 g 1 _ _ hr3) | (go_at_call 45; refine (hmp _).mono ?_; rintro e w4 ⟨rfl, hw⟩; obtain rfl := hw.symm; clear hw))
          have hS : Rd (w3.setCell ⟨g, 1, none⟩ (.int .i64 ((p : Int) + 2))) g (.slice a l.length cap) (p + 2) ∧ w3.grownBy (w3.setCell ⟨g, 1, none⟩ (.int .i64 ((p : Int) + 2))) (some g) := rd_set (q := p + 2) hr3
          have hwn' : Calls Try.prog 46 #[.pointer (some ⟨g, 0, none⟩), .int .i64 t, .int .i64 ((p : Int) + 2 + (n : Int))] _ _ := hwn _ hS.1 (gr_step hg13 hS.2)
          refine hwn'.mono ?_
          rintro e w5 (⟨d, hd, rfl, hr5, hg5⟩ | ⟨c, hd, rfl, hg5⟩)
          · go_wp2
            go_ret
            exact .inl ⟨d, _, hd, rfl, hr5, h3, gr_step (gr_step hg13 hS.2) hg5⟩
          · refine bp_panic rfl ?_
            exact .inr ⟨c, hd, rfl, gr_step (gr_step hg13 hS.2) hg5⟩
        · have hpd : decide (pointed t) = false := decide_eq_false hpt
          simp only [hpd] at hmp
          have hfs : p + 2 + n16 l p - (p + 2) = n16 l p := by omega
          have HD : Hid (dataS l t (p + 2) (p + 2 + n16 l p) = if cutCode t ⟨(cutL l (p + 2) (n16 l p)).toArray⟩ = 0 then .ok (cutL l (p + 2) (n16 l p)) (p + 2 + n16 l p) else .bad 7) := by
            rw [Hid, dataS, if_neg (by omega), if_neg hpt, hfs]
          have hck := fun W => implCheckData_any t ⟨(cutL l (p + 2) (n16 l p)).toArray⟩ W (by omega)
          generalize cutCode t ⟨(cutL l (p + 2) (n16 l p)).toArray⟩ = cc at *
          have hds : ∀ ds : ByteArray, ds = ⟨(cutL l (p + 2) (n16 l p)).toArray⟩ → Value.string ds = .string ⟨(cutL l (p + 2) (n16 l p)).toArray⟩ := fun ds e => by rw [e]
          generalize hdse : (⟨(cutL l (p + 2) (n16 l p)).toArray⟩ : ByteArray) = ds at *
          generalize hcl : cutL l (p + 2) (n16 l p) = cl at *
          generalize n16 l p = n at *
          rw [HD.out]
          clear hpd HD hds hcs hfs
          by_cases hcc : cc = 0
          · subst hcc
            rw [if_pos rfl]
            go_enter Try.func39, Try.ntmps39
            go_wp2_with (first | (go_at_call 37; refine hnum.mono ?_; rintro e w1 ⟨rfl, hr1, hg1⟩) | (go_at_call 44; refine (htk _ hr1).mono ?_; rintro e w3 ⟨rfl, hr3, hg3⟩; have hcv3 := hcv w3 (gr_step hg1 hg3); have hg13 := gr_step hg1 hg3) | (go_at_call 45; refine (hmp _).mono ?_; rintro e w4 ⟨rfl, hw⟩; obtain rfl := hw.symm; clear hw) | (go_at_call 47; refine (hck _).mono ?_; rintro e w5 ⟨rfl, hb5⟩))
            go_ret
            exact .inl ⟨cl, _, rfl, by subst hdse; rfl, rd_below hr3 hb5, h3, gr_below hg13 hb5⟩
          · rw [if_neg hcc]
            have hne : (cc != 0) = true := by rw [bne_iff_ne]; exact hcc
            go_enter Try.func39, Try.ntmps39
            go_wp2_with (first | (go_at_call 37; refine hnum.mono ?_; rintro e w1 ⟨rfl, hr1, hg1⟩) | (go_at_call 44; refine (htk _ hr1).mono ?_; rintro e w3 ⟨rfl, hr3, hg3⟩; have hcv3 := hcv w3 (gr_step hg1 hg3); have hg13 := gr_step hg1 hg3) | (go_at_call 45; refine (hmp _).mono ?_; rintro e w4 ⟨rfl, hw⟩; obtain rfl := hw.symm; clear hw) | (go_at_call 47; refine (hck _).mono ?_; rintro e w5 ⟨rfl, hb5⟩) | (go_at_call 27; refine (fail_any 7 _).mono ?_; rintro e w9 ⟨rfl, hw⟩; obtain rfl := hw.symm; clear hw))
            refine bp_panic rfl ?_
            exact .inr ⟨_, rfl, rfl, gr_below hg13 hb5⟩
    · have h3' : l.length < p + 2 + n16 l p := by omega
      simp only [h3, h3', true_and, false_and, false_or] at htk
      have hD : dtaS l t p = .bad 8 := by rw [dtaS, if_pos h2, if_neg h3]
      rw [hD]
      generalize n16 l p = n at *
      clear hD
      go_enter Try.func39, Try.ntmps39
      go_wp2_with (first | (go_at_call 37; refine hnum.mono ?_; rintro e w1 ⟨rfl, hr1, hg1⟩) | (go_at_call 44; refine (htk _ hr1).mono ?_; rintro e w3 ⟨rfl, hg3⟩))
      refine bp_panic rfl ?_
      exact .inr ⟨_, rfl, rfl, gr_step hg1 hg3⟩
  · have h2' : l.length < p + 2 := by omega
    simp only [h2, h2', true_and, false_and, false_or] at hnum
    have hD : dtaS l t p = .bad 8 := by rw [dtaS, if_neg h2]
    rw [hD]
    clear hD
    go_enter Try.func39, Try.ntmps39
    go_wp2_with (go_at_call 37; refine hnum.mono ?_; rintro e w1 ⟨rfl, hg1⟩)
    refine bp_panic rfl ?_
    exact .inr ⟨_, rfl, rfl, hg1⟩
end Go.Proofs.Ytakonfkefoeenah
