import Derived.Test.YtmclegfejkoaoaaDoorSgS
import Derived.Test.YtmclegfejkoaoaaDoorJWiP
/- spec.Sign by its contract. -/
namespace Go.Proofs.YtmclegfejkoaoaaDoor
open Go.RowKit
set_option linter.unusedVariables false

/-- what is asked of Sign's arguments -/
def sgOK (m : List UInt8) (kn sc rq : ByteArray) (now : Int) : Bool := decide (12 ≤ m.length) && keyB kn sc && (decide (0 ≤ now) && decide (now ≤ 281474976710655)) && decide (rq.size ≤ 32)
def sgOut (m : List UInt8) (kn sc rq : ByteArray) (now : Int) : List UInt8 := signL m kn.data.toList (Nm.foldS kn).data.toList sc.data.toList rq.data.toList now.toNat
def sgCode (m : List UInt8) (kn sc rq : ByteArray) (now : Int) : Int :=
  if sgOK m kn sc rq now = true then (if ctN m = 65535 then 12 else if 65535 < m.length + kn.size + 71 then 11 else 0) else 32
def sgRes (m : List UInt8) (kn sc rq : ByteArray) (now : Int) : List UInt8 := if sgCode m kn sc rq now = 0 then sgOut m kn sc rq now else []

theorem ext_eq (m : List UInt8) (MM : ByteArray) (h : MM = ⟨m.toArray⟩) (a b : Nat) : MM.extract a b = ⟨((m.drop a).take (b - a)).toArray⟩ := by
  subst h
  apply ByteArray.ext
  apply Array.ext'
  simp [ByteArray.data_extract]
theorem nil_by (w : World) : BySl w (.slice none 0 0) [] := ⟨rfl, none, 0, rfl, Nat.le_refl _, by decide, fun h => by simp at h⟩
theorem key_name {kn sc : ByteArray} (h : keyB kn sc = true) : kn.size ≤ 255 ∧ (Nm.foldS kn).size ≤ 255 ∧ 1 ≤ sc.size ∧ sc.size ≤ 64 := by
  simp only [keyB, Bool.and_eq_true, decide_eq_true_eq] at h
  obtain ⟨h1, h2, h3⟩ := h
  cases hq : Nm.split kn with
  | none => rw [hq] at h1; cases h1
  | some ls =>
    have hz := (Nm.split_size hq).2
    refine ⟨hz, ?_, h2, h3⟩
    rw [Nm.foldS_some hq, Nm.small_size]
    exact hz

theorem sign_len {m nm nf sc rq : List UInt8} {t : Nat} (h : 12 ≤ m.length) : (signL m nm nf sc rq t).length = m.length + nm.length + 71 := by
  rw [signL, List.length_append, rec_len (dat_len (show (sumL sc rq m nf t 300).length = 32 from hmac_len _ _))]
  simp [big_len]
  omega

set_option maxRecDepth 100000 in
set_option maxHeartbeats 3200000 in
theorem specSign_bad (v : Value) (m : List UInt8) (kn sc rq : ByteArray) (now : Int) (w : World) (h : BySl w v m) (hm : m.length ≤ 1048576) (hkn : kn.size ≤ 1048576) (hok : sgOK m kn sc rq now = false) :
    Calls Tryd.prog 5 #[v, .agg #[.string kn, .string sc], .int .i64 now, .string rq] w fun e w' => e = .returned (.tuple #[.slice none 0 0, .int .i64 32]) ∧ Below w.heap.size w w' := by
  have hko := fun W => l09KeyOK_any kn sc W (by unfold maxLen; omega)
  have hin := fun W => l04In_any now 281474976710655 W
  have k0 := blk_new w #[.string kn, .string sc] 29
  have q0 := (blk_cell k0 0).trans rfl
  have q1 := (blk_cell k0 1).trans rfl
  have hB0 := (Below.refl w.heap.size w).alloc (Nat.le_refl _) (.cells #[.string kn, .string sc] 29)
  obtain ⟨a, c, rfl⟩ : ∃ a c, v = .slice a m.length c := by obtain ⟨_, a, c, e, _⟩ := h; exact ⟨a, c, e⟩
  simp only [sgOK] at hok
  clear h hkn k0
  by_cases h1 : 12 ≤ m.length
  · have h1' : ¬ (m.length : Int) < 12 := by omega
    rw [decide_eq_true h1, Bool.true_and] at hok
    generalize keyB kn sc = B at *
    generalize (decide (0 ≤ now) && decide (now ≤ 281474976710655)) = C at *
    clear h1
    cases B with
    | false =>
      clear hok
      go_enter Tryd.func5, Tryd.ntmps5
      go_wp2_with (first | (go_at_call 12; refine (hko _).mono ?_; rintro e w1 ⟨rfl, hb1⟩) | (go_at_call 13; refine (hin _).mono ?_; rintro e wf ⟨rfl, hw⟩; obtain rfl := hw.symm; clear hw))
      go_ret2
      exact ⟨rfl, Nm.below_two hB0 hb1⟩
    | true =>
      cases C with
      | false =>
        clear hok
        go_enter Tryd.func5, Tryd.ntmps5
        go_wp2_with (first | (go_at_call 12; refine (hko _).mono ?_; rintro e w1 ⟨rfl, hb1⟩) | (go_at_call 13; refine (hin _).mono ?_; rintro e wf ⟨rfl, hw⟩; obtain rfl := hw.symm; clear hw))
        go_ret2
        exact ⟨rfl, Nm.below_two hB0 hb1⟩
      | true =>
        have h3 : ¬ rq.size ≤ 32 := by simpa using hok
        have h3' : (32 : Int) < (rq.size : Int) := by omega
        clear hok h3
        go_enter Tryd.func5, Tryd.ntmps5
        go_wp2_with (first | (go_at_call 12; refine (hko _).mono ?_; rintro e w1 ⟨rfl, hb1⟩) | (go_at_call 13; refine (hin _).mono ?_; rintro e wf ⟨rfl, hw⟩; obtain rfl := hw.symm; clear hw))
        go_ret2
        exact ⟨rfl, Nm.below_two hB0 hb1⟩
  · have h1' : (m.length : Int) < 12 := by omega
    clear hok h1
    go_enter Tryd.func5, Tryd.ntmps5
    go_wp2_with (first | (go_at_call 12; refine (hko _).mono ?_; rintro e w1 ⟨rfl, hb1⟩) | (go_at_call 13; refine (hin _).mono ?_; rintro e wf ⟨rfl, hw⟩; obtain rfl := hw.symm; clear hw))
    go_ret2
    exact ⟨rfl, hB0⟩

set_option maxRecDepth 100000 in
set_option maxHeartbeats 3200000 in
theorem specSign_ok (v : Value) (m : List UInt8) (kn sc rq : ByteArray) (now : Int) (w : World) (h : BySl w v m) (hm : m.length ≤ 1048576) (hok : sgOK m kn sc rq now = true) :
    Calls Tryd.prog 5 #[v, .agg #[.string kn, .string sc], .int .i64 now, .string rq] w fun e w' => (∃ u, e = .returned (.tuple #[u, .int .i64 (sgCode m kn sc rq now)]) ∧ BySl w' u (sgRes m kn sc rq now)) ∧ Below w.heap.size w w' := by
  simp only [sgOK, Bool.and_eq_true, decide_eq_true_eq] at hok
  have hC : sgCode m kn sc rq now = if ctN m = 65535 then 12 else if 65535 < m.length + kn.size + 71 then 11 else 0 := by
    rw [sgCode, if_pos]
    simp [sgOK, hok]
  obtain ⟨⟨⟨h12, hky⟩, hn0, hn1⟩, hrq⟩ := hok
  obtain ⟨hkz, hfz, hs1, hs64⟩ := key_name hky
  obtain ⟨T, hT⟩ : ∃ T : Nat, now = (T : Int) := ⟨now.toNat, by omega⟩
  subst hT
  have hko := fun W => l09KeyOK_any kn sc W (by unfold maxLen; omega)
  rw [hky] at hko
  have hin : ∀ W : World, Calls Tryd.prog 13 #[.int .i64 (T : Int), .int .i64 281474976710655] W fun e w' => e = .returned (.bool true) ∧ w' = W := fun W => by
    have := l04In_any (T : Int) 281474976710655 W
    rw [decide_eq_true hn0, decide_eq_true hn1] at this
    exact this
  have k0 := blk_new w #[.string kn, .string sc] 29
  have q0 := (blk_cell k0 0).trans rfl
  have q1 := (blk_cell k0 1).trans rfl
  have hB0 := (Below.refl w.heap.size w).alloc (Nat.le_refl _) (.cells #[.string kn, .string sc] 29)
  obtain ⟨a, c, rfl⟩ : ∃ a c, v = .slice a m.length c := by obtain ⟨_, a, c, e, _⟩ := h; exact ⟨a, c, e⟩
  obtain ⟨MM, eMM⟩ : ∃ MM : ByteArray, MM = ⟨m.toArray⟩ := ⟨_, rfl⟩
  have hMz : MM.size = m.length := by rw [eMM, ba_size]
  have i1 : ¬ (m.length : Int) < 12 := by omega
  have i2 : ¬ (32 : Int) < (rq.size : Int) := by omega
  have i3 : (12 : Int) ≤ (MM.size : Int) := by omega
  have i4 : (10 : Int) ≤ (MM.size : Int) := by omega
  have i5 : (2 : Int) ≤ (MM.size : Int) := by omega
  have eX2 := ext_eq m MM eMM 10 12
  have hnu : ∀ W : World, Calls Tryd.prog 14 #[.string (MM.extract 10 12)] W fun e w' => e = .returned (.int .i64 ((ctN m : Nat) : Int)) ∧ w' = W := fun W => by
    have := l02Num_any (MM.extract 10 12) W (by rw [eX2, ba_size]; simp; omega)
    rw [eX2] at this ⊢
    simpa [ctN] using this
  have HMM := Nm.hide eMM.symm
  have hT1 : T ≤ 281474976710655 := by omega
  clear eX2 hn0 hn1 hky
  by_cases hct : ctN m = 65535
  · have HC : Hid (sgCode m kn sc rq (T : Int) = 12) := by show _ = _; rw [hC, if_pos hct]
    have HR : Hid (sgRes m kn sc rq (T : Int) = []) := by show _ = _; rw [sgRes, HC.out]; rfl
    rw [hct] at hnu
    clear hct hC eMM hMz
    go_enter Tryd.func5, Tryd.ntmps5
    go_wp2_with (go_at_call 12; refine (hko _).mono ?_; rintro e w1 ⟨rfl, hb1⟩)
    have hB1 := Nm.below_two hB0 hb1
    have hcv := by_str (h.below hB1)
    rw [HMM.out] at hcv
    have q10 := (blk_cell (blk_below k0 hb1) 0).trans rfl
    have q11 := (blk_cell (blk_below k0 hb1) 1).trans rfl
    clear q0 q1
    refine (hin _).mono ?_
    rintro e wf ⟨rfl, hw⟩
    obtain rfl := hw.symm
    clear hw
    go_wp2_with fail
    refine (hnu _).mono ?_
    rintro e wf ⟨rfl, hw⟩
    obtain rfl := hw.symm
    clear hw
    go_wp2
    go_ret2
    rw [HC.out, HR.out]
    exact ⟨⟨_, rfl, nil_by _⟩, hB1⟩
  · have hfl : (Nm.foldS kn).data.toList.length = (Nm.foldS kn).size := by simp
    have hnl : kn.data.toList.length = kn.size := by simp
    have hct2 : ctN m < 65536 := num_two (by simp; omega)
    have hp6 : ∀ W, Calls Tryd.prog 15 #[.int .i64 (T : Int), .int .i64 6] W fun e w' => e = .returned (.string ⟨(bigL T 6).toArray⟩) ∧ Below W.heap.size W w' := fun W => l02PutN_any T 6 W (by omega) (by decide) (by decide)
    have hsu := fun W => l09Sum_any kn sc rq MM ⟨(bigL T 6).toArray⟩ ⟨#[1, 44]⟩ m (bigL T 6) [1, 44] eMM rfl rfl W hm (by rw [big_len]; omega) (by simp) (by unfold maxLen; omega) (by omega) (by omega) (by omega)
    have etx : rqL rq.data.toList ++ m ++ (Nm.foldS kn).data.toList ++ [0, 255, 0, 0, 0, 0] ++ algL ++ bigL T 6 ++ [1, 44] ++ [0, 0, 0, 0] = textL rq.data.toList m (Nm.foldS kn).data.toList T 300 := by
      rw [textL, rqL, show bigL 255 2 = [0, 255] by decide, show bigL 0 4 = [0, 0, 0, 0] by decide, show bigL 300 2 = [1, 44] by decide]
      simp only [List.append_assoc, List.cons_append, List.nil_append]
    rw [etx] at hsu
    obtain ⟨sm, esm⟩ : ∃ sm, sm = sumL sc.data.toList rq.data.toList m (Nm.foldS kn).data.toList T 300 := ⟨_, rfl⟩
    have hsm : sm.length = 32 := by rw [esm]; exact hmac_len _ _
    rw [show hmacL sc.data.toList (textL rq.data.toList m (Nm.foldS kn).data.toList T 300) = sm from esm.symm] at hsu
    have hal := fun W => l09Alg_any W
    have e02 : MM.extract 0 2 = ⟨(bigL (idN m) 2).toArray⟩ := by rw [ext_eq m MM eMM 0 2, idN, two_big (by simp; omega)]; simp
    have e10 : MM.extract 0 10 = ⟨(m.take 10).toArray⟩ := by rw [ext_eq m MM eMM 0 10]; simp
    have e12 : MM.extract 12 MM.size = ⟨(m.drop 12).toArray⟩ := by rw [ext_eq m MM eMM 12 MM.size, hMz, List.take_of_length_le (by simp)]
    obtain ⟨C50, a50, e50⟩ := cat_ex algL (bigL T 6) ⟨algL.toArray⟩ ⟨(bigL T 6).toArray⟩ rfl rfl (by simp [big_len])
    obtain ⟨C51, a51, e51⟩ := cat_ex _ (bigL 300 2 ++ bigL 32 2) C50 ⟨#[1, 44, 0, 32]⟩ e50 (by decide) (by simp [big_len])
    obtain ⟨C53, a53, e53⟩ := cat_ex _ sm C51 ⟨sm.toArray⟩ e51 rfl (by simp [big_len, hsm])
    obtain ⟨C56, a56, e56⟩ := cat_ex _ (bigL (idN m) 2) C53 (MM.extract 0 2) e53 e02 (by simp [big_len, hsm])
    obtain ⟨DA, a57, e57⟩ := cat_ex _ [0, 0, 0, 0] C56 ⟨#[0, 0, 0, 0]⟩ e56 rfl (by simp [big_len, hsm])
    have edat : algL ++ bigL T 6 ++ (bigL 300 2 ++ bigL 32 2) ++ sm ++ bigL (idN m) 2 ++ [0, 0, 0, 0] = datL T 300 sm (idN m) := by rw [datL]; simp only [List.append_assoc]
    rw [edat] at e57
    have hd61 : (datL T 300 sm (idN m)).length = 61 := dat_len hsm
    have hDz : DA.size = 61 := by rw [e57, ba_size]; exact hd61
    obtain ⟨C1, eC1⟩ : ∃ C1 : Nat, C1 = ctN m + 1 := ⟨_, rfl⟩
    have hp1 : ∀ W, Calls Tryd.prog 15 #[.int .i64 (C1 : Int), .int .i64 2] W fun e w' => e = .returned (.string ⟨(bigL C1 2).toArray⟩) ∧ Below W.heap.size W w' := fun W => l02PutN_any C1 2 W (by omega) (by decide) (by decide)
    have h250 : ∀ W, Calls Tryd.prog 15 #[.int .i64 250, .int .i64 2] W fun e w' => e = .returned (.string ⟨(bigL 250 2).toArray⟩) ∧ Below W.heap.size W w' := fun W => l02PutN_any 250 2 W (by omega) (by decide) (by decide)
    have h255 : ∀ W, Calls Tryd.prog 15 #[.int .i64 255, .int .i64 2] W fun e w' => e = .returned (.string ⟨(bigL 255 2).toArray⟩) ∧ Below W.heap.size W w' := fun W => l02PutN_any 255 2 W (by omega) (by decide) (by decide)
    have h04 : ∀ W, Calls Tryd.prog 15 #[.int .i64 0, .int .i64 4] W fun e w' => e = .returned (.string ⟨(bigL 0 4).toArray⟩) ∧ Below W.heap.size W w' := fun W => l02PutN_any 0 4 W (by omega) (by decide) (by decide)
    have h61 : ∀ W, Calls Tryd.prog 15 #[.int .i64 (DA.size : Int), .int .i64 2] W fun e w' => e = .returned (.string ⟨(bigL (datL T 300 sm (idN m)).length 2).toArray⟩) ∧ Below W.heap.size W w' := by
      rw [hDz, hd61]
      exact fun W => l02PutN_any 61 2 W (by omega) (by decide) (by decide)
    obtain ⟨C63, a63, e63⟩ := cat_ex (m.take 10) (bigL C1 2) (MM.extract 0 10) ⟨(bigL C1 2).toArray⟩ e10 rfl (by simp [big_len]; omega)
    obtain ⟨C66, a66, e66⟩ := cat_ex _ (m.drop 12) C63 (MM.extract 12 MM.size) e63 e12 (by simp [big_len]; omega)
    obtain ⟨C69, a69, e69⟩ := cat_ex _ kn.data.toList C66 kn e66 (ba_mk _).symm (by simp [big_len]; omega)
    obtain ⟨C71, a71, e71⟩ := cat_ex _ (bigL 250 2) C69 ⟨(bigL 250 2).toArray⟩ e69 rfl (by simp [big_len]; omega)
    obtain ⟨C73, a73, e73⟩ := cat_ex _ (bigL 255 2) C71 ⟨(bigL 255 2).toArray⟩ e71 rfl (by simp [big_len]; omega)
    obtain ⟨C75, a75, e75⟩ := cat_ex _ (bigL 0 4) C73 ⟨(bigL 0 4).toArray⟩ e73 rfl (by simp [big_len]; omega)
    obtain ⟨C79, a79, e79⟩ := cat_ex _ (bigL (datL T 300 sm (idN m)).length 2) C75 ⟨(bigL (datL T 300 sm (idN m)).length 2).toArray⟩ e75 rfl (by simp [big_len]; omega)
    obtain ⟨OU, a81, e81⟩ := cat_ex _ (datL T 300 sm (idN m)) C79 DA e79 e57 (by simp [big_len, hd61]; omega)
    have eou : m.take 10 ++ bigL C1 2 ++ m.drop 12 ++ kn.data.toList ++ bigL 250 2 ++ bigL 255 2 ++ bigL 0 4 ++ bigL (datL T 300 sm (idN m)).length 2 ++ datL T 300 sm (idN m) = sgOut m kn sc rq (T : Int) := by
      rw [sgOut, signL, recL, Int.toNat_natCast, ← esm, eC1]
      simp only [List.append_assoc]
    rw [eou] at e81
    have hOz : OU.size = m.length + kn.size + 71 := by rw [e81, ba_size, sgOut, sign_len h12, hnl]
    have HOU : Hid (OU.data.toList = sgOut m kn sc rq (T : Int)) := by show _ = _; rw [e81]
    have hw1 : IntKind.i64.wrap ((ctN m : Int) + 1) = (C1 : Int) := by rw [Go.wrap_small _ (by omega) (by omega)]; omega
    have hne : ((ctN m : Int) == 65535) = false := by simp; omega
    have hOb : OU.size ≤ 1000000000000 := by omega
    have HC : Hid (sgCode m kn sc rq (T : Int) = if 65535 < OU.size then 11 else 0) := by show _ = _; rw [hC, if_neg hct, hOz]
    have HMz := Nm.hide hMz
    clear e50 e51 e53 e56 e57 e63 e66 e69 e71 e73 e75 e79 e81 eou edat etx e02 e10 e12 esm eC1 hd61 hDz hsm hOz hMz hC hct hct2 hfl hnl eMM
    generalize ctN m = CT at *
    generalize (⟨(bigL T 6).toArray⟩ : ByteArray) = TB at *
    generalize (⟨sm.toArray⟩ : ByteArray) = SM at *
    generalize (⟨(bigL C1 2).toArray⟩ : ByteArray) = B1 at *
    generalize (⟨(bigL 250 2).toArray⟩ : ByteArray) = B250 at *
    generalize (⟨(bigL 255 2).toArray⟩ : ByteArray) = B255 at *
    generalize (⟨(bigL 0 4).toArray⟩ : ByteArray) = B04 at *
    generalize (⟨(bigL (datL T 300 sm (idN m)).length 2).toArray⟩ : ByteArray) = B61 at *
    generalize (⟨algL.toArray⟩ : ByteArray) = AG at hal a50
    go_enter Tryd.func5, Tryd.ntmps5
    go_wp2_with (go_at_call 12; refine (hko _).mono ?_; rintro e w1 ⟨rfl, hb1⟩)
    have hB1 := Nm.below_two hB0 hb1
    have hcv := by_str (h.below hB1)
    rw [HMM.out] at hcv
    have q10 := (blk_cell (blk_below k0 hb1) 0).trans rfl
    have q11 := (blk_cell (blk_below k0 hb1) 1).trans rfl
    clear q0 q1
    refine (hin _).mono ?_
    rintro e wf ⟨rfl, hw⟩
    obtain rfl := hw.symm
    clear hw
    go_wp2_with fail
    refine (hnu _).mono ?_
    rintro e wf ⟨rfl, hw⟩
    obtain rfl := hw.symm
    clear hw
    go_wp2_with fail
    refine (hp6 _).mono ?_
    rintro e w2 ⟨rfl, b2⟩
    have k2 := blk_below (blk_below k0 hb1) b2
    have hB2 := Nm.below_two hB1 b2
    have q20 := (blk_cell k2 0).trans rfl
    have q21 := (blk_cell k2 1).trans rfl
    clear q10 q11 hcv b2 hB1 hb1 k0 hko hin hnu hp6
    go_wp2_with fail
    refine (hsu _).mono ?_
    rintro e w4 ⟨rfl, b4⟩
    have k4 := blk_below k2 b4
    have hB4 := Nm.below_two hB2 b4
    have hS : ∀ W, Below w4.heap.size w4 W → (W.cell? ⟨w.heap.size, 0, none⟩ = some (.string kn)) ∧ True := fun W hW => ⟨(blk_cell (blk_below k4 hW) 0).trans rfl, trivial⟩
    have hS0 := hS w4.drew (Below.refl _ _).drew
    have hbl := (Below.refl w4.heap.size w4).drew
    clear q20 q21 b4 hB2 k2 hsu
    go_wp2
    refine wp_region_last (S := fun W => (W.cell? ⟨w.heap.size, 0, none⟩ = some (.string kn)) ∧ True) (L := 1000) (by kernel_rfl) hS0 (fun hH => ?_)
    clear hS0
    refine wpAnyL_take (i := 1) (v := ?_) rfl (by kernel_rfl) (by kernel_rfl) (by kernel_rfl) (by kernel_rfl) (fun _ _ _ h => h) (Or.inl ⟨by rfl, ?_⟩) (by assumption) ?_
    rotate_left 1
    · (intro w hSw; go_simp; try (with_reducible rfl))
    refine wpAnyL_take (i := 4) (v := ?_) rfl (by kernel_rfl) (by kernel_rfl) (by kernel_rfl) (by kernel_rfl) (fun _ _ _ h => h) (Or.inl ⟨by rfl, ?_⟩) (by assumption) ?_
    rotate_left 1
    · (intro w hSw; go_simp; try (with_reducible rfl))
    refine wpAnyL_take (i := 6) (v := ?_) rfl (by kernel_rfl) (by kernel_rfl) (by kernel_rfl) (by kernel_rfl) (fun _ _ _ h => h) (Or.inl ⟨by rfl, ?_⟩) (by assumption) ?_
    rotate_left 1
    · (intro w hSw; go_simp; try (with_reducible rfl))
    refine wpAnyL_take (i := 7) (v := ?_) rfl (by kernel_rfl) (by kernel_rfl) (by kernel_rfl) (by kernel_rfl) (fun _ _ _ h => h) (Or.inl ⟨by rfl, ?_⟩) (by assumption) ?_
    rotate_left 1
    · (intro w hSw; go_simp; try (with_reducible rfl))
    refine wpAnyL_one (i := 0) (by kernel_rfl) rfl (fun K hK => ?_)
    go_simp
    refine (hal _).mono ?_
    rintro e w3 ⟨rfl, hb3⟩
    have hb4 := Nm.below_two hbl hb3
    clear hbl hb3
    have hbl := hb4
    clear hb4
    go_wp2_with fail
    refine hK.out _ _ (hS _ hbl) (fun hH => ?_)
    clear hK K
    refine wpAnyL_take (i := 2) (v := ?_) rfl (by kernel_rfl) (by kernel_rfl) (by kernel_rfl) (by kernel_rfl) (fun _ _ _ h => h) (Or.inl ⟨by rfl, ?_⟩) (by assumption) ?_
    rotate_left 1
    · (intro w hSw; go_simp; try (with_reducible rfl))
    refine wpAnyL_take (i := 3) (v := ?_) rfl (by kernel_rfl) (by kernel_rfl) (by kernel_rfl) (by kernel_rfl) (fun _ _ _ h => h) (Or.inl ⟨by rfl, ?_⟩) (by assumption) ?_
    rotate_left 1
    · (intro w hSw; go_simp; try (with_reducible rfl))
    refine wpAnyL_take (i := 5) (v := ?_) rfl (by kernel_rfl) (by kernel_rfl) (by kernel_rfl) (by kernel_rfl) (fun _ _ _ h => h) (Or.inl ⟨by rfl, ?_⟩) (by assumption) ?_
    rotate_left 1
    · (intro w hSw; go_simp; try (with_reducible rfl))
    refine wpAnyL_take (i := 8) (v := ?_) rfl (by kernel_rfl) (by kernel_rfl) (by kernel_rfl) (by kernel_rfl) (fun _ _ _ h => h) (Or.inl ⟨by rfl, ?_⟩) (by assumption) ?_
    rotate_left 1
    · (intro w hSw; go_simp; try (with_reducible rfl))
    refine wpAnyL_take (i := 9) (v := ?_) rfl (by kernel_rfl) (by kernel_rfl) (by kernel_rfl) (by kernel_rfl) (fun _ _ _ h => h) (Or.inl ⟨by rfl, ?_⟩) (by assumption) ?_
    rotate_left 1
    · (intro w hSw; go_simp; try (with_reducible rfl))
    refine wpAnyL_take (i := 10) (v := ?_) rfl (by kernel_rfl) (by kernel_rfl) (by kernel_rfl) (by kernel_rfl) (fun _ _ _ h => h) (Or.inl ⟨by rfl, ?_⟩) (by assumption) ?_
    rotate_left 1
    · (intro w hSw; go_simp; try (with_reducible rfl))
    refine wpAnyL_done (by kernel_rfl) ?_
    clear a50 a51 a53 a56 a57 hal
    go_wp2
    have hbl2 := hbl.drew
    clear hbl
    have hbl := hbl2
    clear hbl2
    have hS0 := hS _ hbl
    refine wp_region_last (S := fun W => (W.cell? ⟨w.heap.size, 0, none⟩ = some (.string kn)) ∧ True) (L := 1000) (by kernel_rfl) hS0 (fun hH => ?_)
    clear hS0
    refine wpAnyL_take (i := 0) (v := ?_) rfl (by kernel_rfl) (by kernel_rfl) (by kernel_rfl) (by kernel_rfl) (fun _ _ _ h => h) (Or.inl ⟨by rfl, ?_⟩) (by assumption) ?_
    rotate_left 1
    · (intro w hSw; go_simp; try (with_reducible rfl))
    refine wpAnyL_take (i := 1) (v := ?_) rfl (by kernel_rfl) (by kernel_rfl) (by kernel_rfl) (by kernel_rfl) (fun _ _ _ h => h) (Or.inl ⟨by rfl, ?_⟩) (by assumption) ?_
    rotate_left 1
    · (intro w hSw; go_simp; try (with_reducible rfl))
    refine wpAnyL_take (i := 2) (v := ?_) rfl (by kernel_rfl) (by kernel_rfl) (by kernel_rfl) (by kernel_rfl) (fun _ _ _ h => h) (Or.inl ⟨by rfl, ?_⟩) (by assumption) ?_
    rotate_left 1
    · (intro w hSw; go_simp; try (with_reducible rfl))
    refine wpAnyL_take (i := 3) (v := ?_) rfl (by kernel_rfl) (by kernel_rfl) (by kernel_rfl) (by kernel_rfl) (fun _ _ _ h => h) (Or.inl ⟨by rfl, ?_⟩) (by assumption) ?_
    rotate_left 1
    · (intro w hSw; go_simp; try (with_reducible rfl))
    refine wpAnyL_take (i := 6) (v := ?_) rfl (by kernel_rfl) (by kernel_rfl) (by kernel_rfl) (by kernel_rfl) (fun _ _ _ h => h) (Or.inl ⟨by rfl, ?_⟩) (by assumption) ?_
    rotate_left 1
    · (intro w hSw; go_simp; try (with_reducible rfl))
    refine wpAnyL_take (i := 7) (v := ?_) rfl (by kernel_rfl) (by kernel_rfl) (by kernel_rfl) (by kernel_rfl) (fun _ _ _ h => h) (Or.inl ⟨by rfl, ?_⟩) (by assumption) ?_
    rotate_left 1
    · (intro w hSw; go_simp; try (with_reducible rfl))
    refine wpAnyL_take (i := 9) (v := ?_) rfl (by kernel_rfl) (by kernel_rfl) (by kernel_rfl) (by kernel_rfl) (fun _ _ _ h => h) (Or.inl ⟨by rfl, ?_⟩) (by assumption) ?_
    rotate_left 1
    · (intro w hSw; go_simp; try (with_reducible rfl))
    refine wpAnyL_take (i := 10) (v := ?_) rfl (by kernel_rfl) (by kernel_rfl) (by kernel_rfl) (by kernel_rfl) (fun _ _ _ h => h) (Or.inl ⟨by rfl, ?_⟩) (by assumption) ?_
    rotate_left 1
    · (intro w hSw; go_simp; try (with_reducible rfl))
    refine wpAnyL_take (i := 18) (v := ?_) rfl (by kernel_rfl) (by kernel_rfl) (by kernel_rfl) (by kernel_rfl) (fun _ _ _ h => h) (Or.inl ⟨by rfl, ?_⟩) (by assumption) ?_
    rotate_left 1
    · (intro w hSw; go_simp; try (with_reducible rfl))
    refine wpAnyL_take (i := 19) (v := ?_) rfl (by kernel_rfl) (by kernel_rfl) (by kernel_rfl) (by kernel_rfl) (fun _ _ _ h => h) (Or.inl ⟨by rfl, ?_⟩) (by assumption) ?_
    rotate_left 1
    · (intro w hSw; go_simp; try (with_reducible rfl))
    refine wpAnyL_take (i := 22) (v := ?_) rfl (by kernel_rfl) (by kernel_rfl) (by kernel_rfl) (by kernel_rfl) (fun _ _ _ h => h) (Or.inl ⟨by rfl, ?_⟩) (by assumption) ?_
    rotate_left 1
    · (intro w hSw; go_simp; try (with_reducible rfl))
    refine wpAnyL_one (i := 4) (by kernel_rfl) rfl (fun K hK => ?_)
    go_simp
    refine (hp1 _).mono ?_
    rintro e w3 ⟨rfl, hb3⟩
    have hb4 := Nm.below_two hbl hb3
    clear hbl hb3
    have hbl := hb4
    clear hb4
    go_wp2_with fail
    refine hK.out _ _ (hS _ hbl) (fun hH => ?_)
    clear hK K
    refine wpAnyL_take (i := 5) (v := ?_) rfl (by kernel_rfl) (by kernel_rfl) (by kernel_rfl) (by kernel_rfl) (fun _ _ _ h => h) (Or.inl ⟨by rfl, ?_⟩) (by assumption) ?_
    rotate_left 1
    · (intro w hSw; go_simp; try (with_reducible rfl))
    refine wpAnyL_take (i := 8) (v := ?_) rfl (by kernel_rfl) (by kernel_rfl) (by kernel_rfl) (by kernel_rfl) (fun _ _ _ h => h) (Or.inl ⟨by rfl, ?_⟩) (by assumption) ?_
    rotate_left 1
    · (intro w hSw; go_simp; try (with_reducible rfl))
    refine wpAnyL_take (i := 11) (v := ?_) rfl (by kernel_rfl) (by kernel_rfl) (by kernel_rfl) (by kernel_rfl) (fun _ _ _ h => h) (Or.inl ⟨by rfl, ?_⟩) (by assumption) ?_
    rotate_left 1
    · (intro w hSw; go_simp; try (with_reducible rfl))
    refine wpAnyL_one (i := 12) (by kernel_rfl) rfl (fun K hK => ?_)
    go_simp
    refine (h250 _).mono ?_
    rintro e w3 ⟨rfl, hb3⟩
    have hb4 := Nm.below_two hbl hb3
    clear hbl hb3
    have hbl := hb4
    clear hb4
    go_wp2_with fail
    refine hK.out _ _ (hS _ hbl) (fun hH => ?_)
    clear hK K
    refine wpAnyL_take (i := 13) (v := ?_) rfl (by kernel_rfl) (by kernel_rfl) (by kernel_rfl) (by kernel_rfl) (fun _ _ _ h => h) (Or.inl ⟨by rfl, ?_⟩) (by assumption) ?_
    rotate_left 1
    · (intro w hSw; go_simp; try (with_reducible rfl))
    refine wpAnyL_one (i := 14) (by kernel_rfl) rfl (fun K hK => ?_)
    go_simp
    refine (h255 _).mono ?_
    rintro e w3 ⟨rfl, hb3⟩
    have hb4 := Nm.below_two hbl hb3
    clear hbl hb3
    have hbl := hb4
    clear hb4
    go_wp2_with fail
    refine hK.out _ _ (hS _ hbl) (fun hH => ?_)
    clear hK K
    refine wpAnyL_take (i := 15) (v := ?_) rfl (by kernel_rfl) (by kernel_rfl) (by kernel_rfl) (by kernel_rfl) (fun _ _ _ h => h) (Or.inl ⟨by rfl, ?_⟩) (by assumption) ?_
    rotate_left 1
    · (intro w hSw; go_simp; try (with_reducible rfl))
    refine wpAnyL_one (i := 16) (by kernel_rfl) rfl (fun K hK => ?_)
    go_simp
    refine (h04 _).mono ?_
    rintro e w3 ⟨rfl, hb3⟩
    have hb4 := Nm.below_two hbl hb3
    clear hbl hb3
    have hbl := hb4
    clear hb4
    go_wp2_with fail
    refine hK.out _ _ (hS _ hbl) (fun hH => ?_)
    clear hK K
    refine wpAnyL_take (i := 17) (v := ?_) rfl (by kernel_rfl) (by kernel_rfl) (by kernel_rfl) (by kernel_rfl) (fun _ _ _ h => h) (Or.inl ⟨by rfl, ?_⟩) (by assumption) ?_
    rotate_left 1
    · (intro w hSw; go_simp; try (with_reducible rfl))
    refine wpAnyL_one (i := 20) (by kernel_rfl) rfl (fun K hK => ?_)
    go_simp
    refine (h61 _).mono ?_
    rintro e w3 ⟨rfl, hb3⟩
    have hb4 := Nm.below_two hbl hb3
    clear hbl hb3
    have hbl := hb4
    clear hb4
    go_wp2_with fail
    refine hK.out _ _ (hS _ hbl) (fun hH => ?_)
    clear hK K
    refine wpAnyL_take (i := 21) (v := ?_) rfl (by kernel_rfl) (by kernel_rfl) (by kernel_rfl) (by kernel_rfl) (fun _ _ _ h => h) (Or.inl ⟨by rfl, ?_⟩) (by assumption) ?_
    rotate_left 1
    · (intro w hSw; go_simp; try (with_reducible rfl))
    refine wpAnyL_take (i := 23) (v := ?_) rfl (by kernel_rfl) (by kernel_rfl) (by kernel_rfl) (by kernel_rfl) (fun _ _ _ h => h) (Or.inl ⟨by rfl, ?_⟩) (by assumption) ?_
    rotate_left 1
    · (intro w hSw; go_simp; try (with_reducible rfl))
    refine wpAnyL_take (i := 24) (v := ?_) rfl (by kernel_rfl) (by kernel_rfl) (by kernel_rfl) (by kernel_rfl) (fun _ _ _ h => h) (Or.inl ⟨by rfl, ?_⟩) (by assumption) ?_
    rotate_left 1
    · (intro w hSw; go_simp; try (with_reducible rfl))
    refine wpAnyL_done (by kernel_rfl) ?_
    have hBB := Nm.below_two hB4 hbl
    clear a63 a66 a69 a71 a73 a75 a79 a81 hp1 h250 h255 h04 h61 hS hH hw1 hne hB4 hbl k4
    by_cases hbig : 65535 < OU.size
    · have hbig' : (65535 : Int) < (OU.size : Int) := by omega
      have HC2 : Hid (sgCode m kn sc rq (T : Int) = 11) := by show _ = _; rw [HC.out, if_pos hbig]
      have HR : Hid (sgRes m kn sc rq (T : Int) = []) := by show _ = _; rw [sgRes, HC2.out]; rfl
      clear hbig HC
      go_wp2
      go_ret2
      rw [HC2.out, HR.out]
      exact ⟨⟨_, rfl, nil_by _⟩, hBB⟩
    · have hbig' : ¬ (65535 : Int) < (OU.size : Int) := by omega
      have HC2 : Hid (sgCode m kn sc rq (T : Int) = 0) := by show _ = _; rw [HC.out, if_neg hbig]
      have HR : Hid (sgRes m kn sc rq (T : Int) = sgOut m kn sc rq (T : Int)) := by show _ = _; rw [sgRes, HC2.out]; rfl
      obtain ⟨v9, w9, r9, f9, b9⟩ := FRow.new OU w3 hOb
      have hby := free_by f9
      rw [HOU.out] at hby
      obtain ⟨x9, y9, rfl⟩ : ∃ a c, v9 = .slice a (sgOut m kn sc rq (T : Int)).length c := by obtain ⟨_, a, c, e, _⟩ := hby; exact ⟨a, c, e⟩
      clear hbig HC f9
      go_wp2
      go_ret2
      rw [HC2.out, HR.out]
      exact ⟨⟨_, rfl, hby⟩, Nm.below_two hBB b9⟩
end Go.Proofs.YtmclegfejkoaoaaDoor
