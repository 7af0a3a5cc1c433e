import Derived.Test.YtmclegfejkoaoaaDoorSgT
import Derived.Test.YtmclegfejkoaoaaDoorBig1
import Derived.Test.YtmclegfejkoaoaaDoorJWiP
import Derived.Test.YtmclegfejkoaoaaDoorSgH
/- impl.Sign by its contract. -/
namespace Go.Proofs.YtmclegfejkoaoaaDoor
open Go.RowKit
set_option linter.unusedVariables false

set_option maxRecDepth 100000 in
set_option maxHeartbeats 3200000 in
theorem implSign_bad (v : Value) (m : List UInt8) (kn sc rq : ByteArray) (now : Int) (w : World) (h : BySl w v m) (hm : m.length ≤ 1048576) (hkn : kn.size ≤ 1048576) (hok : sgOK m kn sc rq now = false) :
    Calls Tryd.prog 8 #[v, .agg #[.string kn, .string sc], .int .i64 now, .string rq] w fun e w' => e = .returned (.tuple #[.slice none 0 0, .int .i64 32]) ∧ Below w.heap.size w w' := by
  have hko := fun W => isValid_any kn sc W (by unfold maxLen; omega)
  have hin := fun W => within_any now 281474976710655 W
  have k0 := blk_new w #[.string kn, .string sc] 29
  have q0 := (blk_cell k0 0).trans rfl
  have q1 := (blk_cell k0 1).trans rfl
  have hB0 := (Below.refl w.heap.size w).alloc (Nat.le_refl _) (.cells #[.string kn, .string sc] 29)
  obtain ⟨a, c, rfl⟩ : ∃ a c, v = .slice a m.length c := by obtain ⟨_, a, c, e, _⟩ := h; exact ⟨a, c, e⟩
  simp only [sgOK] at hok
  clear h hkn k0
  by_cases h1 : 12 ≤ m.length
  · have h1' : ¬ (m.length : Int) < 12 := by omega
    rw [decide_eq_true h1, Bool.true_and] at hok
    generalize keyB kn sc = B at *
    generalize (decide (0 ≤ now) && decide (now ≤ 281474976710655)) = C at *
    clear h1
    cases B with
    | false =>
      clear hok
      go_enter Tryd.func8, Tryd.ntmps8
      go_wp2_with (first | (go_at_call 18; refine (hko _).mono ?_; rintro e w1 ⟨rfl, hb1⟩) | (go_at_call 19; refine (hin _).mono ?_; rintro e wf ⟨rfl, hw⟩; obtain rfl := hw.symm; clear hw))
      go_ret2
      exact ⟨rfl, Nm.below_two hB0 hb1⟩
    | true =>
      cases C with
      | false =>
        clear hok
        go_enter Tryd.func8, Tryd.ntmps8
        go_wp2_with (first | (go_at_call 18; refine (hko _).mono ?_; rintro e w1 ⟨rfl, hb1⟩) | (go_at_call 19; refine (hin _).mono ?_; rintro e wf ⟨rfl, hw⟩; obtain rfl := hw.symm; clear hw))
        go_ret2
        exact ⟨rfl, Nm.below_two hB0 hb1⟩
      | true =>
        have h3 : ¬ rq.size ≤ 32 := by simpa using hok
        have h3' : (32 : Int) < (rq.size : Int) := by omega
        clear hok h3
        go_enter Tryd.func8, Tryd.ntmps8
        go_wp2_with (first | (go_at_call 18; refine (hko _).mono ?_; rintro e w1 ⟨rfl, hb1⟩) | (go_at_call 19; refine (hin _).mono ?_; rintro e wf ⟨rfl, hw⟩; obtain rfl := hw.symm; clear hw))
        go_ret2
        exact ⟨rfl, Nm.below_two hB0 hb1⟩
  · have h1' : (m.length : Int) < 12 := by omega
    clear hok h1
    go_enter Tryd.func8, Tryd.ntmps8
    go_wp2_with (first | (go_at_call 18; refine (hko _).mono ?_; rintro e w1 ⟨rfl, hb1⟩) | (go_at_call 19; refine (hin _).mono ?_; rintro e wf ⟨rfl, hw⟩; obtain rfl := hw.symm; clear hw))
    go_ret2
    exact ⟨rfl, hB0⟩

def z32 : List UInt8 := List.replicate 32 0
theorem z32_len : z32.length = 32 := rfl
theorem sgA_one (nm : ByteArray) (t f id : Nat) (s : List UInt8) : (sgA nm t f s id).all (·.oneCell') = true := Array.all_eq_true_iff_forall_mem.2 (fun v hv => by
  simp only [sgA, sgC, List.mem_toArray, List.mem_cons, List.mem_append, List.not_mem_nil, or_false] at hv
  rcases hv with rfl | rfl | rfl | hv | rfl
  · rfl
  · rfl
  · rfl
  · exact bys_ones _ v hv
  · rfl)

/-- a stretch of bytes that is read -/
theorem cut_by {w : World} {a : Option Addr} {m : List UInt8} {cap lo n : Nat} (h : BySl w (.slice a m.length cap) m) (hn : lo + n ≤ m.length) (hp : 0 < n) : ∃ b off, a = some ⟨b, off, none⟩ ∧ CRow w (.slice (some ⟨b, off + lo, none⟩) n (cap - lo)) n 1 (Nm.bys ((m.drop lo).take n)) := by
  obtain ⟨_, a', c', e, h1, h2, h3⟩ := h
  cases e
  obtain ⟨b, off, rfl, hc⟩ := h3 (by omega)
  refine ⟨b, off, rfl, by rw [Nm.bys_length, List.length_take, List.length_drop]; omega, _, _, rfl, by omega, by omega, fun _ => ⟨b, off + lo, rfl, fun i x hx => ?_⟩⟩
  have hi : i < n := by
    have := (List.getElem?_eq_some_iff.1 hx).1
    rw [Nm.bys_length, List.length_take] at this
    omega
  rw [Nat.add_assoc]
  refine hc (lo + i) x ?_
  simp only [Nm.bys, List.getElem?_map] at hx ⊢
  rw [List.getElem?_take_of_lt hi, List.getElem?_drop] at hx
  exact hx

set_option maxRecDepth 100000 in
set_option maxHeartbeats 3200000 in
theorem implSign_ok (v : Value) (m : List UInt8) (kn sc rq : ByteArray) (now : Int) (w : World) (h : BySl w v m) (hm : m.length ≤ 1048576) (hok : sgOK m kn sc rq now = true) (hF : ∃ t fr, w.heap[0]? = some (.cells (hvA H0) t fr)) (hK : KAt w 1) :
    Calls Tryd.prog 8 #[v, .agg #[.string kn, .string sc], .int .i64 now, .string rq] w fun e w' => (∃ u, e = .returned (.tuple #[u, .int .i64 (sgCode m kn sc rq now)]) ∧ w'.ownsRow w.heap.size 5 1 u (sgRes m kn sc rq now).length (Nm.bys (sgRes m kn sc rq now))) ∧ Below w.heap.size w w' := by
  simp only [sgOK, Bool.and_eq_true, decide_eq_true_eq] at hok
  have hC : sgCode m kn sc rq now = if ctN m = 65535 then 12 else if 65535 < m.length + kn.size + 71 then 11 else 0 := by
    rw [sgCode, if_pos]
    simp [sgOK, hok]
  obtain ⟨⟨⟨h12, hky⟩, hn0, hn1⟩, hrq⟩ := hok
  obtain ⟨hkz, hfz, hs1, hs64⟩ := key_name hky
  obtain ⟨T, hT⟩ : ∃ T : Nat, now = (T : Int) := ⟨now.toNat, by omega⟩
  subst hT
  have hko := fun W => isValid_any kn sc W (by unfold maxLen; omega)
  rw [hky] at hko
  have hin : ∀ W : World, Calls Tryd.prog 19 #[.int .i64 (T : Int), .int .i64 281474976710655] W fun e w' => e = .returned (.bool true) ∧ w' = W := fun W => by
    have := within_any (T : Int) 281474976710655 W
    rw [decide_eq_true hn0, decide_eq_true hn1] at this
    exact this
  have k0 := blk_new w #[.string kn, .string sc] 29
  have q0 := (blk_cell k0 0).trans rfl
  have q1 := (blk_cell k0 1).trans rfl
  have hB0 := (Below.refl w.heap.size w).alloc (Nat.le_refl _) (.cells #[.string kn, .string sc] 29)
  obtain ⟨a, c, rfl⟩ : ∃ a c, v = .slice a m.length c := by obtain ⟨_, a, c, e, _⟩ := h; exact ⟨a, c, e⟩
  have i1 : ¬ (m.length : Int) < 12 := by omega
  have i2 : ¬ (32 : Int) < (rq.size : Int) := by omega
  have hcap : m.length ≤ c := by obtain ⟨_, a', c', e, h1, _⟩ := h; cases e; exact h1
  have i3 : (12 : Int) ≤ (c : Int) := by omega
  have i5 : (2 : Int) ≤ (c : Int) := by omega
  have hT1 : T ≤ 281474976710655 := by omega
  have hct2 : ctN m < 65536 := num_two (by simp; omega)
  have hid2 : idN m < 65536 := num_two (by simp; omega)
  obtain ⟨b, off, rfl, _⟩ := cut_by h (lo := 10) (n := 2) (by omega) (by omega)
  have hx10 : ∀ W, Below w.heap.size w W → (convert 22 9 (.slice (some ⟨b, off + 10, none⟩) 2 (c - 10))).run Tryd.prog W = .ok (.string ⟨((m.drop 10).take 2).toArray⟩) W := fun W hW => by
    obtain ⟨b', off', e, hc⟩ := cut_by (h.below hW) (lo := 10) (n := 2) (by omega) (by omega)
    cases e
    exact by_str hc
  have hx0 : ∀ W, Below w.heap.size w W → (convert 22 9 (.slice (some ⟨b, off, none⟩) 2 c)).run Tryd.prog W = .ok (.string ⟨(m.take 2).toArray⟩) W := fun W hW => by
    obtain ⟨b', off', e, hc⟩ := cut_by (h.below hW) (lo := 0) (n := 2) (by omega) (by omega)
    cases e
    exact by_str hc
  have hnu : ∀ W : World, Calls Tryd.prog 20 #[.string ⟨((m.drop 10).take 2).toArray⟩] W fun e w' => e = .returned (.int .i64 ((ctN m : Nat) : Int)) ∧ w' = W := fun W => by
    have := readBig_any ⟨((m.drop 10).take 2).toArray⟩ W (by rw [ba_size]; simp; omega)
    simpa [ctN] using this
  have hni : ∀ W : World, Calls Tryd.prog 20 #[.string ⟨(m.take 2).toArray⟩] W fun e w' => e = .returned (.int .i64 ((idN m : Nat) : Int)) ∧ w' = W := fun W => by
    have := readBig_any ⟨(m.take 2).toArray⟩ W (by rw [ba_size]; simp; omega)
    simpa [idN] using this
  generalize (⟨((m.drop 10).take 2).toArray⟩ : ByteArray) = X10 at *
  generalize (⟨(m.take 2).toArray⟩ : ByteArray) = X0 at *
  clear hn0 hn1 hky
  go_enter Tryd.func8, Tryd.ntmps8
  go_wp2_with (go_at_call 18; refine (hko _).mono ?_; rintro e w1 ⟨rfl, hb1⟩)
  have hB1 := Nm.below_two hB0 hb1
  have k1 := blk_below k0 hb1
  have hcv := hx10 _ hB1
  clear q0 q1 hko hB0 k0 hb1
  refine (hin _).mono ?_
  rintro e wf ⟨rfl, hw⟩
  obtain rfl := hw.symm
  clear hw hin
  go_wp2_with fail
  refine (hnu _).mono ?_
  rintro e wf ⟨rfl, hw⟩
  obtain rfl := hw.symm
  clear hw hnu hcv hx10
  by_cases hct : ctN m = 65535
  · have HC : Hid (sgCode m kn sc rq (T : Int) = 12) := by show _ = _; rw [hC, if_pos hct]
    have HR : Hid (sgRes m kn sc rq (T : Int) = []) := by show _ = _; rw [sgRes, HC.out]; rfl
    rw [hct]
    clear hC hct hct2
    go_wp2
    go_ret2
    rw [HC.out, HR.out]
    exact ⟨⟨_, rfl, World.ownsRow_nil _ _ _ _⟩, hB1⟩
  · have hne : ((ctN m : Int) == 65535) = false := by simp; omega
    have hnl : kn.data.toList.length = kn.size := by simp
    obtain ⟨sm, esm⟩ : ∃ sm, sm = sumL sc.data.toList rq.data.toList m (Nm.foldS kn).data.toList T 300 := ⟨_, rfl⟩
    have hsm : sm.length = 32 := by rw [esm]; exact hmac_len _ _
    have hby0 := fun W => bytes_any kn T 300 (idN m) z32 z32_len (by omega) hT1 (by omega) (by omega) W
    have hbyS := fun W => bytes_any kn T 300 (idN m) sm hsm (by omega) hT1 (by omega) (by omega) W
    have hov0 := fun W (hW : Below w.heap.size w W) (hm6 : m.length ≤ 65535) => over_any kn kn sc rq T 300 (idN m) z32 m (.slice (some ⟨b, off, none⟩) m.length c) W z32_len hT1 (by omega) (h.below hW) (by omega) (by omega) (by unfold maxLen; omega) (by omega) (by omega) (by omega) (by
      obtain ⟨t, fr, hh⟩ := hF
      exact ⟨t, fr, (hW.block _ (Array.getElem?_eq_some_iff.1 hh).1).trans hh⟩) (hK.below hW)
    rw [← esm] at hov0
    obtain ⟨C1, eC1⟩ : ∃ C1 : Nat, C1 = ctN m + 1 := ⟨_, rfl⟩
    have hwC : IntKind.i64.wrap ((ctN m : Int) + 1) = (C1 : Int) := by rw [Go.wrap_small _ (by omega) (by omega)]; omega
    have hp1 : ∀ W, Calls Tryd.prog 24 #[.int .i64 (C1 : Int), .int .i64 2] W fun e w' => e = .returned (.string ⟨(bigL C1 2).toArray⟩) ∧ Below W.heap.size W w' := fun W => bigBytesN_any C1 2 W (by omega) (by decide) (by decide)
    obtain ⟨B1, eB1⟩ : ∃ B1 : ByteArray, B1 = ⟨(bigL C1 2).toArray⟩ := ⟨_, rfl⟩
    rw [← eB1] at hp1
    have HB1 : Hid (B1.size = 2) := by show _ = _; rw [eB1, ba_size, big_len]
    have hbv : bytesV B1 = Nm.bys (bigL C1 2) := by rw [eB1]; rfl
    have HV : Hid ((bytesV B1).length = (Nm.bys ((m.drop 10).take 2)).length) := by show _ = _; rw [hbv, Nm.bys_length, Nm.bys_length, big_len]; simp; omega
    have HV1 : Hid ((Nm.bys (m.take 10)).length + (bytesV B1).length ≤ 12) := by show _ ≤ _; rw [hbv, Nm.bys_length, Nm.bys_length, big_len]; simp; omega
    have HV2 : Hid ((bytesV B1).length = 2) := by show _ = _; rw [hbv, Nm.bys_length, big_len]
    have HV0 : Hid ((Nm.bys (m.take 10)).length = 10) := by show _ = _; rw [Nm.bys_length]; simp; omega
    obtain ⟨rl, erl⟩ : ∃ rl, rl = recL kn.data.toList (datL T 300 sm (idN m)) := ⟨_, rfl⟩
    obtain ⟨RB, eRB⟩ : ∃ R : ByteArray, R = ⟨rl.toArray⟩ := ⟨_, rfl⟩
    rw [← erl, ← eRB] at hbyS
    have hrl : rl.length = kn.size + 71 := by rw [erl, rec_len (dat_len hsm), hnl]
    have HRL2 := Nm.hide hrl
    have HRB : Hid (RB.data.toList = rl) := by show _ = _; rw [eRB]
    have HRB2 : Hid (RB.size = kn.size + 71) := by show _ = _; rw [eRB, ba_size, hrl]
    have HSPL : Hid (Nm.bys (m ++ rl) = Nm.bys (m.take 10) ++ Nm.bys ((m.drop 10).take 2) ++ Nm.bys (m.drop 12 ++ rl)) := by
      show _ = _
      rw [← Nm.bys_append, ← Nm.bys_append, ← List.append_assoc, List.append_assoc (m.take 10), show (m.drop 10).take 2 ++ m.drop 12 = m.drop 10 by rw [show m.drop 12 = (m.drop 10).drop 2 by rw [List.drop_drop]]; exact List.take_append_drop _ _, List.take_append_drop]
    have HFIN : Hid (Nm.bys (m.take 10) ++ bytesV B1 ++ Nm.bys (m.drop 12 ++ rl) = Nm.bys (sgOut m kn sc rq (T : Int))) := by
      show _ = _
      rw [hbv, ← Nm.bys_append, ← Nm.bys_append, sgOut, signL, Int.toNat_natCast, ← esm, ← erl, eC1, List.append_assoc (m.take 10 ++ bigL (ctN m + 1) 2)]
    have HL9 : Hid ((sgOut m kn sc rq (T : Int)).length = (m ++ rl).length) := by show _ = _; rw [sgOut, sign_len h12, List.length_append, hrl, hnl]; omega
    have HSP : Hid (spl (sgA kn T 300 z32 (idN m)) 3 (byA sm).toList = sgA kn T 300 sm (idN m)) := spl_sum z32_len hsm
    have hsB : (byA sm).size = 32 := by rw [byA_size]; exact hsm
    have HSB := Nm.hide hsB
    have hinfB : (Tryd.prog.info? 41).map (·.size) = some (byA sm).size := by rw [hsB]; kernel_rfl
    have hinfS : (Tryd.prog.info? 43).map (·.size) = some (sgA kn T 300 sm (idN m)).size := by rw [sgA_size hsm]; kernel_rfl
    clear hsB hbv eB1 eRB erl hrl eC1 esm hsm
    obtain ⟨RB0, eRB0⟩ : ∃ R : ByteArray, R = ⟨(recL kn.data.toList (datL T 300 z32 (idN m))).toArray⟩ := ⟨_, rfl⟩
    rw [← eRB0] at hby0
    have HRZ : Hid (RB0.size = kn.size + 71) := by show _ = _; rw [eRB0, ba_size, rec_len (dat_len z32_len), hnl]
    obtain ⟨N65, eN65⟩ : ∃ N : Nat, N = m.length + RB0.size := ⟨_, rfl⟩
    have hwN : IntKind.i64.wrap ((m.length : Int) + (RB0.size : Int)) = (N65 : Int) := by have := HRZ.out; rw [Go.wrap_small _ (by omega) (by omega)]; omega
    have HN65 := Nm.hide eN65
    clear eN65 eRB0
    have hz36 : ∀ W, (zeroValue 43).run Tryd.prog W = .ok (.agg (sgA ByteArray.empty 0 0 z32 0)) W := by
      have := zero_of_info (P := Tryd.prog) (t := 43) (v := .agg (sgA ByteArray.empty 0 0 z32 0)) (n := 36) (by kernel_rfl)
      exact this.1
    have hS : ∀ W, Below w1.heap.size w1 W → (W.cell? ⟨w.heap.size, 0, none⟩ = some (.string kn) ∧ (convert 22 9 (.slice (some ⟨b, off, none⟩) 2 c)).run Tryd.prog W = .ok (.string X0) W) ∧ True := fun W hW => ⟨⟨(blk_cell (blk_below k1 hW) 0).trans rfl, hx0 W (Nm.below_two hB1 hW)⟩, trivial⟩
    have hS0 := hS w1.drew (Below.refl _ _).drew
    have hSA := hS (w1.drew.alloc (.cells (sgA ByteArray.empty 0 0 z32 0) 43)) ((Below.refl _ w1).drew.alloc (Nat.le_refl _) _)
    have kN := blk_new w1.drew (sgA ByteArray.empty 0 0 z32 0) 43
    have hBN := (Below.refl _ w1).drew.alloc (Nat.le_refl _) (.cells (sgA ByteArray.empty 0 0 z32 0) 43)
    have hsz0 : (sgA ByteArray.empty 0 0 z32 0).size = 36 := sgA_size z32_len
    have hszK : (sgA kn T 300 z32 (idN m)).size = 36 := sgA_size z32_len
    have hinfK : (Tryd.prog.info? 43).map (·.size) = some (sgA kn T 300 z32 (idN m)).size := by rw [hszK]; kernel_rfl
    have hbuild : Hid (Value.agg (sgA kn T 300 z32 (idN m)) = Value.agg (sgA kn T 300 z32 (idN m))) := rfl
    have HS0 := Nm.hide hsz0
    have HSK := Nm.hide hszK
    have HAL := Nm.hide (sgA_one kn T 300 (idN m) z32)
    clear hsz0 hszK
    go_wp2
    refine wp_region_last (S := fun W => (W.cell? ⟨w.heap.size, 0, none⟩ = some (.string kn) ∧ (convert 22 9 (.slice (some ⟨b, off, none⟩) 2 c)).run Tryd.prog W = .ok (.string X0) W) ∧ True) (L := 9) (by kernel_rfl) hS0 (fun hH => ?_)
    refine wpAnyL_take (i := 0) (v := ?_) rfl (by kernel_rfl) (by kernel_rfl) (by kernel_rfl) (by kernel_rfl) (fun _ _ _ h => h) (Or.inl ⟨by rfl, ?_⟩) (by assumption) ?_
    rotate_left 1
    · (intro w hSw; go_simp; try (with_reducible rfl))
    refine wpAnyL_take (i := 1) (v := ?_) rfl (by kernel_rfl) (by kernel_rfl) (by kernel_rfl) (by kernel_rfl) (fun _ _ _ h => h) (Or.inl ⟨by rfl, ?_⟩) (by assumption) ?_
    rotate_left 1
    · (intro w hSw; go_simp; try (with_reducible rfl))
    refine wpAnyL_take (i := 2) (v := ?_) rfl (by kernel_rfl) (by kernel_rfl) (by kernel_rfl) (by kernel_rfl) (fun _ _ _ h => h) (Or.inl ⟨by rfl, ?_⟩) (by assumption) ?_
    rotate_left 1
    · (intro w hSw; go_simp; try (with_reducible rfl))
    refine wpAnyL_take (i := 3) (v := ?_) rfl (by kernel_rfl) (by kernel_rfl) (by kernel_rfl) (by kernel_rfl) (fun _ _ _ h => h) (Or.inl ⟨by rfl, ?_⟩) (by assumption) ?_
    rotate_left 1
    · (intro w hSw; go_simp; try (with_reducible rfl))
    refine wpAnyL_take (i := 4) (v := ?_) rfl (by kernel_rfl) (by kernel_rfl) (by kernel_rfl) (by kernel_rfl) (fun _ _ _ h => h) (Or.inl ⟨by rfl, ?_⟩) (by assumption) ?_
    rotate_left 1
    · (intro w hSw; go_simp; try (with_reducible rfl))
    refine wpAnyL_take (i := 5) (v := ?_) rfl (by kernel_rfl) (by kernel_rfl) (by kernel_rfl) (by kernel_rfl) (fun _ _ _ h => h) (Or.inl ⟨by rfl, ?_⟩) (by assumption) ?_
    rotate_left 1
    · (intro w hSw; go_simp; try (with_reducible rfl))
    refine wpAnyL_two (i := 6) (j := 8) (by kernel_rfl) rfl rfl (fun K hK' => ?_) (fun K hK' => ?_)
    · go_simp
      refine (hni _).mono ?_
      rintro e wf ⟨rfl, hw⟩
      obtain rfl := hw.symm
      clear hw
      go_wp2_with fail
      refine hK'.out _ _ hS0 (fun hH => ?_)
      clear hK' K
      refine wpAnyL_take (i := 7) (v := .agg (sgA kn T 300 z32 (idN m))) rfl (by kernel_rfl) (by kernel_rfl) (by kernel_rfl) (by kernel_rfl) (fun _ _ _ h => h) (Or.inl ⟨by rfl, fun W hSw => by go_simp; rfl⟩) (by assumption) ?_
      refine wpAnyL_one (i := 8) (by kernel_rfl) rfl (fun K hK' => ?_)
      go_simp
      refine hK'.out _ _ hSA (fun hH => ?_)
      clear hK' K
      refine wpAnyL_end (by kernel_rfl) rfl (by kernel_rfl) (fun K hK' => ?_)
      rw [if_pos (by rfl)]
      refine wp_store_blk (.tmp 11) (.tmp 44) 43 rfl rfl w1.heap.size _ _ kN rfl rfl hinfK (by rw [HS0.out, HSK.out]) HAL.out ?_
      intro w2 k2 o2
      refine hK'.out _ _ ?_
      clear hK' K
      have hB2 := o2.below hBN (Nat.le_refl _) (by show w1.heap.size ≤ (w1.alloc _).heap.size; rw [World.size_alloc]; omega)
      have hg11 := hB1.size
      have k12 := blk_below k1 hB2
      have hBw2 := Nm.below_two hB1 hB2
      clear o2 hS hSA hS0 kN hBN hx0 hni hH
      generalize w1.heap.size = g11 at *
      go_wp2_with (refine wpList_load_blk (.tmp 11) 43 rfl rfl g11 _ _ k2 rfl Tryd.underlying43 rfl hinfK ?_)
      refine (hby0 _).mono ?_
      rintro e w3 ⟨rfl, b3⟩
      have hB3 := Nm.below_two hBw2 b3
      have k13 := blk_below k12 b3
      have k3 := blk_below k2 b3
      have q30 := (blk_cell k13 0).trans rfl
      have q31 := (blk_cell k13 1).trans rfl
      clear hBw2 b3 k12 k2 hB2
      by_cases hbig : 65535 < m.length + RB0.size
      · have hbig' : (65535 : Int) < (N65 : Int) := by have := HN65.out; omega
        have HC2 : Hid (sgCode m kn sc rq (T : Int) = 11) := by show _ = _; rw [hC, if_neg hct, if_pos (by have := HRZ.out; omega)]
        have HR : Hid (sgRes m kn sc rq (T : Int) = []) := by show _ = _; rw [sgRes, HC2.out]; rfl
        clear hbig hC hct
        go_wp2
        go_ret2
        rw [HC2.out, HR.out]
        exact ⟨⟨_, rfl, World.ownsRow_nil _ _ _ _⟩, hB3⟩
      · have hbig' : ¬ (65535 : Int) < (N65 : Int) := by have := HN65.out; omega
        have HC2 : Hid (sgCode m kn sc rq (T : Int) = 0) := by show _ = _; rw [hC, if_neg hct, if_neg (by have := HRZ.out; omega)]
        have hm6 : m.length ≤ 65535 := by omega
        have HR : Hid (sgRes m kn sc rq (T : Int) = sgOut m kn sc rq (T : Int)) := by show _ = _; rw [sgRes, HC2.out]; rfl
        clear hbig hC
        have hov := hov0 w3 hB3 hm6
        go_wp2_with (refine wpList_load_blk (.tmp 11) 43 rfl rfl g11 _ _ k3 rfl Tryd.underlying43 rfl hinfK ?_)
        refine hov.mono ?_
        rintro e w4 ⟨rfl, b4⟩
        have hB4 := Nm.below_two hB3 b4
        have k4 := blk_below k3 b4
        clear hB3 k13 k3 q30 q31 hov hov0 b4 hby0
        go_wp2_with (first
          | (refine wpList_store_mid (.tmp 57) (.tmp 56) 41 43 rfl rfl rfl g11 3 _ _ k4 rfl rfl hinfB (by rw [HSK.out, HSB.out]; decide) (byA_one _) ?_; intro w5 k5 o5; rw [HSP.out] at k5; have hB5 := o5.below hB4 hg11 hB4.size; clear o5)
          | (refine wpList_load_blk (.tmp 11) 43 rfl rfl g11 _ _ k5 rfl Tryd.underlying43 rfl hinfS ?_))
        refine (hbyS _).mono ?_
        rintro e w6 ⟨rfl, b6⟩
        have hB6 := Nm.below_two hB5 b6
        clear hB5 b6 k4 k5 hB4 hbyS hinfB hinfS hinfK
        obtain ⟨v7, w7, r7, f7, b7⟩ := FRow.new RB w6 (by have := HRB2.out; omega)
        have hb7 := free_by f7
        rw [HRB.out] at hb7
        have hB7 := Nm.below_two hB6 b7
        obtain ⟨x7, y7, rfl⟩ : ∃ a c, v7 = .slice a rl.length c := by obtain ⟨_, a, c, e, _⟩ := hb7; exact ⟨a, c, e⟩
        have hm7 := h.below hB7
        obtain ⟨W8, hW8⟩ : ∃ W8, W8 = w7.alloc (.cells #[.slice (some ⟨b, off, none⟩) m.length c, .slice x7 rl.length y7] 22) := ⟨_, rfl⟩
        have hBa : Below w7.heap.size w7 W8 := by rw [hW8]; exact (Below.refl _ w7).alloc (Nat.le_refl _) _
        have hc0 : W8.cell? ⟨w7.heap.size, 0, none⟩ = some (.slice (some ⟨b, off, none⟩) m.length c) := by rw [hW8]; exact World.cell?_alloc_new w7 _ _ 0
        have hc1 : W8.cell? ⟨w7.heap.size, 1, none⟩ = some (.slice x7 rl.length y7) := by rw [hW8]; exact World.cell?_alloc_new w7 _ _ 1
        have hcc := concat_own _ _ m rl w7.heap.size W8 hc0 hc1 (hm7.below hBa) (hb7.below hBa) (by omega) (by omega) (by have := HRL2.out; omega)
        have hB8 := Nm.below_two hB7 hBa
        clear hc0 hc1 hBa f7 b7 hB6 hm7 hb7 hB7
        rw [hW8] at hcc
        go_wp2_with fail
        refine hcc.mono ?_
        rw [← hW8]
        rintro e w9 ⟨v9, rfl, o9, b9⟩
        have hB9 := Nm.below_two hB8 b9
        have o9' := own_base o9 hB8.size
        clear hcc hW8 r7 o9 b9 hB8
        obtain ⟨g9, cap9, rfl⟩ : ∃ g cap, v9 = .slice (some ⟨g, 0, none⟩) (m ++ rl).length cap := by
          rcases o9'.2 with ⟨_, h0⟩ | ⟨g, cap, cur, rfl, _⟩
          · rw [List.length_append] at h0; omega
          · exact ⟨g, cap, rfl⟩
        have hcp : (m ++ rl).length ≤ cap9 := by
          rcases o9'.2 with ⟨h0, _⟩ | ⟨g, cap, cur, e, _, _, hn, _⟩
          · cases h0
          · cases e; exact hn
        have hg9 : w.heap.size ≤ g9 := (o9'.lt g9 rfl).1
        have hl9 : 12 ≤ (m ++ rl).length := by rw [List.length_append]; omega
        rw [show Nm.bys (m ++ rl) = Nm.bys (m.take 10) ++ Nm.bys ((m.drop 10).take 2) ++ Nm.bys (m.drop 12 ++ rl) from HSPL.out] at o9'
        generalize (m ++ rl).length = L9 at *
        have i6 : (10 : Int) ≤ (L9 : Int) := by omega
        have i7 : (L9 : Int) ≤ (cap9 : Int) := by omega
        have i8 : ¬ cap9 = 10 := by omega
        have hcl : ∀ W, Below w9.heap.size w9 W → W.ownsRow w.heap.size 5 1 (.slice (some ⟨g9, 0, none⟩) L9 cap9) L9 (Nm.bys (m.take 10) ++ Nm.bys ((m.drop 10).take 2) ++ Nm.bys (m.drop 12 ++ rl)) := fun W hW => own_below o9' hW
        clear o9'
        go_wp2
        refine wp_region_last (S := fun _ => True) (L := 1000) (by kernel_rfl) trivial (fun hH => ?_)
        refine wpAnyL_take (i := 0) (v := ?_) rfl (by kernel_rfl) (by kernel_rfl) (by kernel_rfl) (by kernel_rfl) (fun _ _ _ h => h) (Or.inl ⟨by rfl, ?_⟩) (by assumption) ?_
        rotate_left 1
        · (intro w hSw; go_simp; try (with_reducible rfl))
        refine wpAnyL_take (i := 1) (v := ?_) rfl (by kernel_rfl) (by kernel_rfl) (by kernel_rfl) (by kernel_rfl) (fun _ _ _ h => h) (Or.inl ⟨by rfl, ?_⟩) (by assumption) ?_
        rotate_left 1
        · (intro w hSw; go_simp; try (with_reducible rfl))
        refine wpAnyL_take (i := 2) (v := ?_) rfl (by kernel_rfl) (by kernel_rfl) (by kernel_rfl) (by kernel_rfl) (fun _ _ _ h => h) (Or.inl ⟨by rfl, ?_⟩) (by assumption) ?_
        rotate_left 1
        · (intro w hSw; go_simp; try (with_reducible rfl))
        refine wpAnyL_take (i := 3) (v := ?_) rfl (by kernel_rfl) (by kernel_rfl) (by kernel_rfl) (by kernel_rfl) (fun _ _ _ h => h) (Or.inl ⟨by rfl, ?_⟩) (by assumption) ?_
        rotate_left 1
        · (intro w hSw; go_simp; try (with_reducible rfl))
        refine wpAnyL_one (i := 4) (by kernel_rfl) rfl (fun K hK' => ?_)
        go_simp
        refine (hp1 _).mono ?_
        rintro e w10 ⟨rfl, b10⟩
        have hbd : Below w9.heap.size w9 w10 := (Below.refl _ w9).drew.trans b10
        have hB10 := Nm.below_two hB9 hbd
        obtain ⟨cur, kc, hfit, hown⟩ := own_part (hcl _ hbd) (v := bytesV B1) HV.out
        clear hcl hbd b10 hB9
        go_wp2_with fail
        refine hK'.out _ _ trivial (fun hH => ?_)
        clear hK' K
        refine wpAnyL_one (i := 5) (by kernel_rfl) rfl (fun K hK' => ?_)
        refine step_copy_str rfl (.tmp 65) (.tmp 68) 22 9 rfl 5 Tryd.underlying22 (by kernel_rfl) g9 10 (L9 - 10) (cap9 - 10) (by go_simp) B1 (by go_simp) _ _ kc (by have := HB1.out; omega) (by have := HB1.out; have := HV0.out; have := HV2.out; omega) ?_
        intro w11 k11 o11
        refine hK'.out _ _ trivial (fun hH => ?_)
        clear hK' K
        refine wpAnyL_done (by kernel_rfl) ?_
        have hB11 := o11.below hB10 hg9 hB10.size
        have hfin := hown _ (by rw [HV0.out]; exact k11)
        rw [HFIN.out] at hfin
        clear hown k11 o11 kc hp1 hwC hne
        go_wp2
        go_ret2
        rw [HC2.out, HR.out]
        exact ⟨⟨_, rfl, by rw [HL9.out]; exact hfin⟩, hB11⟩
    · go_simp
      refine hK'.out _ _ hSA (fun hH => ?_)
      clear hK' K
      refine wpAnyL_one (i := 6) (by kernel_rfl) rfl (fun K hK' => ?_)
      go_simp
      refine (hni _).mono ?_
      rintro e wf ⟨rfl, hw⟩
      obtain rfl := hw.symm
      clear hw
      go_wp2_with fail
      refine hK'.out _ _ hSA (fun hH => ?_)
      clear hK' K
      refine wpAnyL_take (i := 7) (v := .agg (sgA kn T 300 z32 (idN m))) rfl (by kernel_rfl) (by kernel_rfl) (by kernel_rfl) (by kernel_rfl) (fun _ _ _ h => h) (Or.inl ⟨by rfl, fun W hSw => by go_simp; rfl⟩) (by assumption) ?_
      refine wpAnyL_end (by kernel_rfl) rfl (by kernel_rfl) (fun K hK' => ?_)
      rw [if_pos (by rfl)]
      refine wp_store_blk (.tmp 11) (.tmp 44) 43 rfl rfl w1.heap.size _ _ kN rfl rfl hinfK (by rw [HS0.out, HSK.out]) HAL.out ?_
      intro w2 k2 o2
      refine hK'.out _ _ ?_
      clear hK' K
      have hB2 := o2.below hBN (Nat.le_refl _) (by show w1.heap.size ≤ (w1.alloc _).heap.size; rw [World.size_alloc]; omega)
      have hg11 := hB1.size
      have k12 := blk_below k1 hB2
      have hBw2 := Nm.below_two hB1 hB2
      clear o2 hS hSA hS0 kN hBN hx0 hni hH
      generalize w1.heap.size = g11 at *
      go_wp2_with (refine wpList_load_blk (.tmp 11) 43 rfl rfl g11 _ _ k2 rfl Tryd.underlying43 rfl hinfK ?_)
      refine (hby0 _).mono ?_
      rintro e w3 ⟨rfl, b3⟩
      have hB3 := Nm.below_two hBw2 b3
      have k13 := blk_below k12 b3
      have k3 := blk_below k2 b3
      have q30 := (blk_cell k13 0).trans rfl
      have q31 := (blk_cell k13 1).trans rfl
      clear hBw2 b3 k12 k2 hB2
      by_cases hbig : 65535 < m.length + RB0.size
      · have hbig' : (65535 : Int) < (N65 : Int) := by have := HN65.out; omega
        have HC2 : Hid (sgCode m kn sc rq (T : Int) = 11) := by show _ = _; rw [hC, if_neg hct, if_pos (by have := HRZ.out; omega)]
        have HR : Hid (sgRes m kn sc rq (T : Int) = []) := by show _ = _; rw [sgRes, HC2.out]; rfl
        clear hbig hC hct
        go_wp2
        go_ret2
        rw [HC2.out, HR.out]
        exact ⟨⟨_, rfl, World.ownsRow_nil _ _ _ _⟩, hB3⟩
      · have hbig' : ¬ (65535 : Int) < (N65 : Int) := by have := HN65.out; omega
        have HC2 : Hid (sgCode m kn sc rq (T : Int) = 0) := by show _ = _; rw [hC, if_neg hct, if_neg (by have := HRZ.out; omega)]
        have hm6 : m.length ≤ 65535 := by omega
        have HR : Hid (sgRes m kn sc rq (T : Int) = sgOut m kn sc rq (T : Int)) := by show _ = _; rw [sgRes, HC2.out]; rfl
        clear hbig hC
        have hov := hov0 w3 hB3 hm6
        go_wp2_with (refine wpList_load_blk (.tmp 11) 43 rfl rfl g11 _ _ k3 rfl Tryd.underlying43 rfl hinfK ?_)
        refine hov.mono ?_
        rintro e w4 ⟨rfl, b4⟩
        have hB4 := Nm.below_two hB3 b4
        have k4 := blk_below k3 b4
        clear hB3 k13 k3 q30 q31 hov hov0 b4 hby0
        go_wp2_with (first
          | (refine wpList_store_mid (.tmp 57) (.tmp 56) 41 43 rfl rfl rfl g11 3 _ _ k4 rfl rfl hinfB (by rw [HSK.out, HSB.out]; decide) (byA_one _) ?_; intro w5 k5 o5; rw [HSP.out] at k5; have hB5 := o5.below hB4 hg11 hB4.size; clear o5)
          | (refine wpList_load_blk (.tmp 11) 43 rfl rfl g11 _ _ k5 rfl Tryd.underlying43 rfl hinfS ?_))
        refine (hbyS _).mono ?_
        rintro e w6 ⟨rfl, b6⟩
        have hB6 := Nm.below_two hB5 b6
        clear hB5 b6 k4 k5 hB4 hbyS hinfB hinfS hinfK
        obtain ⟨v7, w7, r7, f7, b7⟩ := FRow.new RB w6 (by have := HRB2.out; omega)
        have hb7 := free_by f7
        rw [HRB.out] at hb7
        have hB7 := Nm.below_two hB6 b7
        obtain ⟨x7, y7, rfl⟩ : ∃ a c, v7 = .slice a rl.length c := by obtain ⟨_, a, c, e, _⟩ := hb7; exact ⟨a, c, e⟩
        have hm7 := h.below hB7
        obtain ⟨W8, hW8⟩ : ∃ W8, W8 = w7.alloc (.cells #[.slice (some ⟨b, off, none⟩) m.length c, .slice x7 rl.length y7] 22) := ⟨_, rfl⟩
        have hBa : Below w7.heap.size w7 W8 := by rw [hW8]; exact (Below.refl _ w7).alloc (Nat.le_refl _) _
        have hc0 : W8.cell? ⟨w7.heap.size, 0, none⟩ = some (.slice (some ⟨b, off, none⟩) m.length c) := by rw [hW8]; exact World.cell?_alloc_new w7 _ _ 0
        have hc1 : W8.cell? ⟨w7.heap.size, 1, none⟩ = some (.slice x7 rl.length y7) := by rw [hW8]; exact World.cell?_alloc_new w7 _ _ 1
        have hcc := concat_own _ _ m rl w7.heap.size W8 hc0 hc1 (hm7.below hBa) (hb7.below hBa) (by omega) (by omega) (by have := HRL2.out; omega)
        have hB8 := Nm.below_two hB7 hBa
        clear hc0 hc1 hBa f7 b7 hB6 hm7 hb7 hB7
        rw [hW8] at hcc
        go_wp2_with fail
        refine hcc.mono ?_
        rw [← hW8]
        rintro e w9 ⟨v9, rfl, o9, b9⟩
        have hB9 := Nm.below_two hB8 b9
        have o9' := own_base o9 hB8.size
        clear hcc hW8 r7 o9 b9 hB8
        obtain ⟨g9, cap9, rfl⟩ : ∃ g cap, v9 = .slice (some ⟨g, 0, none⟩) (m ++ rl).length cap := by
          rcases o9'.2 with ⟨_, h0⟩ | ⟨g, cap, cur, rfl, _⟩
          · rw [List.length_append] at h0; omega
          · exact ⟨g, cap, rfl⟩
        have hcp : (m ++ rl).length ≤ cap9 := by
          rcases o9'.2 with ⟨h0, _⟩ | ⟨g, cap, cur, e, _, _, hn, _⟩
          · cases h0
          · cases e; exact hn
        have hg9 : w.heap.size ≤ g9 := (o9'.lt g9 rfl).1
        have hl9 : 12 ≤ (m ++ rl).length := by rw [List.length_append]; omega
        rw [show Nm.bys (m ++ rl) = Nm.bys (m.take 10) ++ Nm.bys ((m.drop 10).take 2) ++ Nm.bys (m.drop 12 ++ rl) from HSPL.out] at o9'
        generalize (m ++ rl).length = L9 at *
        have i6 : (10 : Int) ≤ (L9 : Int) := by omega
        have i7 : (L9 : Int) ≤ (cap9 : Int) := by omega
        have i8 : ¬ cap9 = 10 := by omega
        have hcl : ∀ W, Below w9.heap.size w9 W → W.ownsRow w.heap.size 5 1 (.slice (some ⟨g9, 0, none⟩) L9 cap9) L9 (Nm.bys (m.take 10) ++ Nm.bys ((m.drop 10).take 2) ++ Nm.bys (m.drop 12 ++ rl)) := fun W hW => own_below o9' hW
        clear o9'
        go_wp2
        refine wp_region_last (S := fun _ => True) (L := 1000) (by kernel_rfl) trivial (fun hH => ?_)
        refine wpAnyL_take (i := 0) (v := ?_) rfl (by kernel_rfl) (by kernel_rfl) (by kernel_rfl) (by kernel_rfl) (fun _ _ _ h => h) (Or.inl ⟨by rfl, ?_⟩) (by assumption) ?_
        rotate_left 1
        · (intro w hSw; go_simp; try (with_reducible rfl))
        refine wpAnyL_take (i := 1) (v := ?_) rfl (by kernel_rfl) (by kernel_rfl) (by kernel_rfl) (by kernel_rfl) (fun _ _ _ h => h) (Or.inl ⟨by rfl, ?_⟩) (by assumption) ?_
        rotate_left 1
        · (intro w hSw; go_simp; try (with_reducible rfl))
        refine wpAnyL_take (i := 2) (v := ?_) rfl (by kernel_rfl) (by kernel_rfl) (by kernel_rfl) (by kernel_rfl) (fun _ _ _ h => h) (Or.inl ⟨by rfl, ?_⟩) (by assumption) ?_
        rotate_left 1
        · (intro w hSw; go_simp; try (with_reducible rfl))
        refine wpAnyL_take (i := 3) (v := ?_) rfl (by kernel_rfl) (by kernel_rfl) (by kernel_rfl) (by kernel_rfl) (fun _ _ _ h => h) (Or.inl ⟨by rfl, ?_⟩) (by assumption) ?_
        rotate_left 1
        · (intro w hSw; go_simp; try (with_reducible rfl))
        refine wpAnyL_one (i := 4) (by kernel_rfl) rfl (fun K hK' => ?_)
        go_simp
        refine (hp1 _).mono ?_
        rintro e w10 ⟨rfl, b10⟩
        have hbd : Below w9.heap.size w9 w10 := (Below.refl _ w9).drew.trans b10
        have hB10 := Nm.below_two hB9 hbd
        obtain ⟨cur, kc, hfit, hown⟩ := own_part (hcl _ hbd) (v := bytesV B1) HV.out
        clear hcl hbd b10 hB9
        go_wp2_with fail
        refine hK'.out _ _ trivial (fun hH => ?_)
        clear hK' K
        refine wpAnyL_one (i := 5) (by kernel_rfl) rfl (fun K hK' => ?_)
        refine step_copy_str rfl (.tmp 65) (.tmp 68) 22 9 rfl 5 Tryd.underlying22 (by kernel_rfl) g9 10 (L9 - 10) (cap9 - 10) (by go_simp) B1 (by go_simp) _ _ kc (by have := HB1.out; omega) (by have := HB1.out; have := HV0.out; have := HV2.out; omega) ?_
        intro w11 k11 o11
        refine hK'.out _ _ trivial (fun hH => ?_)
        clear hK' K
        refine wpAnyL_done (by kernel_rfl) ?_
        have hB11 := o11.below hB10 hg9 hB10.size
        have hfin := hown _ (by rw [HV0.out]; exact k11)
        rw [HFIN.out] at hfin
        clear hown k11 o11 kc hp1 hwC hne
        go_wp2
        go_ret2
        rw [HC2.out, HR.out]
        exact ⟨⟨_, rfl, by rw [HL9.out]; exact hfin⟩, hB11⟩
end Go.Proofs.YtmclegfejkoaoaaDoor
