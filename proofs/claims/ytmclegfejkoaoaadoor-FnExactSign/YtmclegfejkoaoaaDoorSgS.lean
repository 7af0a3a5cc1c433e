import Derived.Test.YtmclegfejkoaoaaDoorSgO
import Derived.Test.YtmclegfejkoaoaaDoorSgK
import Derived.Test.YtmclegfejkoaoaaDoorSHm
import Derived.Test.YtmclegfejkoaoaaDoorSPt
import Derived.Test.YtmclegfejkoaoaaDoorJSSmall
/- spec.l09Sum by its contract. -/
namespace Go.Proofs.YtmclegfejkoaoaaDoor
open Go.RowKit
set_option linter.unusedVariables false

set_option maxRecDepth 100000 in
set_option maxHeartbeats 3200000 in
theorem l09Sum_any (kn sc rq M TM FD : ByteArray) (ml tm fd : List UInt8) (hM : M = ⟨ml.toArray⟩) (hTM : TM = ⟨tm.toArray⟩) (hFD : FD = ⟨fd.toArray⟩) (w : World) (hml : ml.length ≤ 1048576) (htm : tm.length ≤ 1000) (hfd : fd.length ≤ 1000)
    (hkn : kn.size ≤ maxLen) (hfz : (Nm.foldS kn).size ≤ 1000) (hsc : sc.size ≤ 1048576) (hrq : rq.size ≤ 1000) :
    Calls Tryd.prog 16 #[.agg #[.string kn, .string sc], .string M, .string TM, .string FD, .string rq] w fun e w' => e = .returned (.string ⟨(hmacL sc.data.toList (rqL rq.data.toList ++ ml ++ (Nm.foldS kn).data.toList ++ [0, 255, 0, 0, 0, 0] ++ algL ++ tm ++ fd ++ [0, 0, 0, 0])).toArray⟩) ∧ Below w.heap.size w w' := by
  have k5 := blk_new w #[.string kn, .string sc] 29
  have hB0 := (Below.refl w.heap.size w).alloc (Nat.le_refl _) (.cells #[.string kn, .string sc] 29)
  have hfo := fun W => specFoldName_any kn W hkn
  have hal := fun W => l09Alg_any W
  have hfl : (Nm.foldS kn).data.toList.length = (Nm.foldS kn).size := by simp
  have hrl : rq.data.toList.length = rq.size := by simp
  have HSL := Nm.hide (show sc.data.toList.length = sc.size by simp)
  obtain ⟨hd, ehd⟩ : ∃ hd, hd = rqL rq.data.toList := ⟨_, rfl⟩
  have hdl : hd.length ≤ 1100 := by rw [ehd, rqL]; split <;> simp [big_len] <;> omega
  obtain ⟨HD, eHD⟩ : ∃ HD : ByteArray, HD = ⟨hd.toArray⟩ := ⟨_, rfl⟩
  obtain ⟨C21, a21, e21⟩ := cat_ex hd ml HD M eHD hM (by omega)
  obtain ⟨C25, a25, e25⟩ := cat_ex _ (Nm.foldS kn).data.toList C21 (Nm.foldS kn) e21 (ba_mk _).symm (by simp only [List.length_append]; omega)
  obtain ⟨C26, a26, e26⟩ := cat_ex _ [0, 255, 0, 0, 0, 0] C25 ⟨#[0, 255, 0, 0, 0, 0]⟩ e25 rfl (by simp only [List.length_append, List.length_cons, List.length_nil]; omega)
  obtain ⟨C28, a28, e28⟩ := cat_ex _ algL C26 ⟨algL.toArray⟩ e26 rfl (by simp only [List.length_append, List.length_cons, List.length_nil]; omega)
  obtain ⟨C30, a30, e30⟩ := cat_ex _ tm C28 TM e28 hTM (by simp only [List.length_append, List.length_cons, List.length_nil]; omega)
  obtain ⟨C32, a32, e32⟩ := cat_ex _ fd C30 FD e30 hFD (by simp only [List.length_append, List.length_cons, List.length_nil]; omega)
  obtain ⟨C33, a33, e33⟩ := cat_ex _ [0, 0, 0, 0] C32 ⟨#[0, 0, 0, 0]⟩ e32 rfl (by simp only [List.length_append, List.length_cons, List.length_nil]; omega)
  have hz : (hd ++ ml ++ (Nm.foldS kn).data.toList ++ [0, 255, 0, 0, 0, 0] ++ algL ++ tm ++ fd ++ [0, 0, 0, 0]).length ≤ 1100000 := by simp only [List.length_append, List.length_cons, List.length_nil]; omega
  rw [← ehd]
  generalize hd ++ ml ++ (Nm.foldS kn).data.toList ++ [0, 255, 0, 0, 0, 0] ++ algL ++ tm ++ fd ++ [0, 0, 0, 0] = TX at *
  have HZ33 : Hid (C33.size ≤ 1100000) := by show _ ≤ _; rw [e33, ba_size]; exact hz
  have HL33 : Hid (C33.data.toList = TX) := by show _ = _; rw [e33]
  have HN33 := Nm.hide hz
  have HFD := Nm.hide eHD
  have HED := Nm.hide ehd
  have HRL := Nm.hide hrl
  clear e21 e25 e26 e28 e30 e32 e33 hM hTM hFD hz hfl hrl ehd eHD hkn hdl
  generalize (⟨algL.toArray⟩ : ByteArray) = AG at hal a28
  generalize Nm.foldS kn = FK at *
  by_cases hq : rq.size = 0
  · have hq' : rq.toList.isEmpty = true := by
      have : rq.toList = [] := List.length_eq_zero_iff.1 (by rw [Nm.tl_len]; exact hq)
      simp [this]
    obtain rfl : HD = ⟨#[]⟩ := by rw [HFD.out, HED.out, rqL, if_pos (by rw [HRL.out]; exact hq)]
    have hBq := Below.refl (w.alloc (.cells #[.string kn, .string sc] 29)).heap.size (w.alloc (.cells #[.string kn, .string sc] 29))
    clear hq HFD HED HRL
    go_enter Tryd.func16, Tryd.ntmps16
    go_wp2_with (go_at_call 26; refine (hfo _).mono ?_; rintro e w3 ⟨rfl, b3⟩)
    have hB3 := Nm.below_two hBq b3
    clear hBq b3 hfo
    refine (hal _).mono ?_
    rintro e w4 ⟨rfl, b4⟩
    have hB4 := Nm.below_two hB3 b4
    have q1 := (blk_cell (blk_below k5 hB4) 1).trans rfl
    have hBw := Nm.below_two hB0 hB4
    obtain ⟨v5, w5, r5, f5, b5⟩ := FRow.new sc w4 (by omega)
    obtain ⟨v6, w6, r6, f6, b6⟩ := FRow.new C33 w5 (by have := HZ33.out; omega)
    have hk5 := (free_by f5).below b6
    have hk6 := free_by f6
    rw [HL33.out] at hk6
    have hhm := specHmac_any _ _ _ _ w6 hk5 hk6 (by rw [HSL.out]; exact hsc) (by have := HZ33.out; have := HN33.out; omega)
    have hs32 := hmac_len sc.data.toList TX
    have hst := fun W => l09Str_any (hmacL sc.data.toList TX) hs32 W
    generalize hsm : hmacL sc.data.toList TX = sm at *
    have HSM := Nm.hide hsm
    clear hsm
    obtain ⟨x5, y5, rfl⟩ : ∃ a c, v5 = .slice a sc.data.toList.length c := by obtain ⟨_, a, c, e, _⟩ := hk5; exact ⟨a, c, e⟩
    obtain ⟨x6, y6, rfl⟩ : ∃ a c, v6 = .slice a TX.length c := by obtain ⟨_, a, c, e, _⟩ := hk6; exact ⟨a, c, e⟩
    have hB6 := Nm.below_two (Nm.below_two hBw b5) b6
    clear hB3 b4 hal hk5 hk6 f5 f6 b5 b6 hBw hs32 hB4
    go_wp2_with fail
    refine hhm.mono ?_
    rintro e w7 ⟨rfl, b7⟩
    have hB7 := Nm.below_two hB6 b7
    clear r5 r6
    go_wp2_with fail
    refine (hst _).mono ?_
    rintro e w8 ⟨rfl, b8⟩
    go_wp2
    go_ret
    rw [HSM.out]
    exact ⟨rfl, Nm.below_two hB7 b8⟩
  · have hq' : rq.toList.isEmpty = false := by
      have : rq.toList ≠ [] := fun e => hq (by rw [← Nm.tl_len, e]; rfl)
      simpa using this
    have hq2 : ∀ W, Calls Tryd.prog 15 #[.int .i64 (rq.size : Int), .int .i64 2] W fun e w' => e = .returned (.string ⟨(bigL rq.size 2).toArray⟩) ∧ Below W.heap.size W w' := fun W => l02PutN_any rq.size 2 W (by omega) (by decide) (by decide)
    obtain ⟨C18, a18, e18⟩ := cat_ex (bigL rq.size 2) rq.data.toList ⟨(bigL rq.size 2).toArray⟩ rq rfl (ba_mk _).symm (by simp only [big_len, HRL.out]; omega)
    obtain rfl : HD = C18 := by rw [HFD.out, HED.out, rqL, if_neg (by rw [HRL.out]; exact hq), HRL.out, e18]
    generalize (⟨(bigL rq.size 2).toArray⟩ : ByteArray) = BQ at hq2 a18
    clear hq HFD HED HRL e18
    go_enter Tryd.func16, Tryd.ntmps16
    go_wp2_with fail
    refine (hq2 _).mono ?_
    rintro e w1 ⟨rfl, hBq⟩
    have q0 := (blk_cell (blk_below k5 hBq) 0).trans rfl
    clear hq2
    go_wp2_with (go_at_call 26; refine (hfo _).mono ?_; rintro e w3 ⟨rfl, b3⟩)
    have hB3 := Nm.below_two hBq b3
    clear hBq b3 hfo
    refine (hal _).mono ?_
    rintro e w4 ⟨rfl, b4⟩
    have hB4 := Nm.below_two hB3 b4
    have q1 := (blk_cell (blk_below k5 hB4) 1).trans rfl
    have hBw := Nm.below_two hB0 hB4
    obtain ⟨v5, w5, r5, f5, b5⟩ := FRow.new sc w4 (by omega)
    obtain ⟨v6, w6, r6, f6, b6⟩ := FRow.new C33 w5 (by have := HZ33.out; omega)
    have hk5 := (free_by f5).below b6
    have hk6 := free_by f6
    rw [HL33.out] at hk6
    have hhm := specHmac_any _ _ _ _ w6 hk5 hk6 (by rw [HSL.out]; exact hsc) (by have := HZ33.out; have := HN33.out; omega)
    have hs32 := hmac_len sc.data.toList TX
    have hst := fun W => l09Str_any (hmacL sc.data.toList TX) hs32 W
    generalize hsm : hmacL sc.data.toList TX = sm at *
    have HSM := Nm.hide hsm
    clear hsm
    obtain ⟨x5, y5, rfl⟩ : ∃ a c, v5 = .slice a sc.data.toList.length c := by obtain ⟨_, a, c, e, _⟩ := hk5; exact ⟨a, c, e⟩
    obtain ⟨x6, y6, rfl⟩ : ∃ a c, v6 = .slice a TX.length c := by obtain ⟨_, a, c, e, _⟩ := hk6; exact ⟨a, c, e⟩
    have hB6 := Nm.below_two (Nm.below_two hBw b5) b6
    clear hB3 b4 hal hk5 hk6 f5 f6 b5 b6 hBw hs32 hB4
    go_wp2_with fail
    refine hhm.mono ?_
    rintro e w7 ⟨rfl, b7⟩
    have hB7 := Nm.below_two hB6 b7
    clear r5 r6
    go_wp2_with fail
    refine (hst _).mono ?_
    rintro e w8 ⟨rfl, b8⟩
    go_wp2
    go_ret
    rw [HSM.out]
    exact ⟨rfl, Nm.below_two hB7 b8⟩
end Go.Proofs.YtmclegfejkoaoaaDoor
