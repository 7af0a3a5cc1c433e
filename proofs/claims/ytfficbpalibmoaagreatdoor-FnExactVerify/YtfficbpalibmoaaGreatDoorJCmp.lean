import Derived.Test.YtfficbpalibmoaaGreatDoorJPiece
import Derived.Test.YtfficbpalibmoaaGreatDoorJICc
import Derived.Deep.QuietTactic
import Derived.BigQuiet
import Derived.Test.YtfficbpalibmoaaGreatDoorJDcM
import Derived.Test.YtfficbpalibmoaaGreatDoorVfG
import Derived.Test.YtfficbpalibmoaaGreatDoorJSgO
import Derived.Test.YtfficbpalibmoaaGreatDoorJVfN
import Derived.Test.YtfficbpalibmoaaGreatDoorJRmz
import Derived.Test.YtfficbpalibmoaaGreatDoorJJoin
/- impl.compareFolded, (labelList).compare by their contracts. -/
namespace Go.Proofs.YtfficbpalibmoaaGreatDoor
open Go.RowKit

set_option maxRecDepth 100000 in
set_option maxHeartbeats 400000 in
theorem cmpByte_any (a b : UInt8) (w : World) :
    Calls Tryz.prog 73 #[.int .u8 a.toNat, .int .u8 b.toNat] w fun e w' => e = .returned (.int .i64 (Nm.cmpI a.toNat b.toNat)) ∧ w' = w := by
  have ha : ((a.toNat : Int) != (a.toNat : Int)) = false := by simp
  have hb : ((b.toNat : Int) != (b.toNat : Int)) = false := by simp
  by_cases h1 : (a.toNat : Int) < (b.toNat : Int)
  · have HC := Nm.hide (Nm.cmpI_lt h1)
    have d1 : decide ((a.toNat : Int) < (b.toNat : Int)) = true := by simpa using h1
    go_enter Tryz.func73, Tryz.ntmps73
    go_wp2
    go_ret
    rw [HC.out]
    exact ⟨rfl, rfl⟩
  · have d1 : decide ((a.toNat : Int) < (b.toNat : Int)) = false := by simpa using h1
    by_cases h2 : (b.toNat : Int) < (a.toNat : Int)
    · have HC := Nm.hide (Nm.cmpI_gt h2)
      have d2 : decide ((b.toNat : Int) < (a.toNat : Int)) = true := by simpa using h2
      go_enter Tryz.func73, Tryz.ntmps73
      go_wp2
      go_ret
      rw [HC.out]
      exact ⟨rfl, rfl⟩
    · have HC := Nm.hide (Nm.cmpI_eq (show (a.toNat : Int) = (b.toNat : Int) by omega))
      have d2 : decide ((b.toNat : Int) < (a.toNat : Int)) = false := by simpa using h2
      go_enter Tryz.func73, Tryz.ntmps73
      go_wp2
      go_ret
      rw [HC.out]
      exact ⟨rfl, rfl⟩

set_option maxRecDepth 100000 in
set_option maxHeartbeats 400000 in
theorem cmpInt_any (a b : Int) (w : World) :
    Calls Tryz.prog 75 #[.int .i64 a, .int .i64 b] w fun e w' => e = .returned (.int .i64 (Nm.cmpI a b)) ∧ w' = w := by
  have ha : (a != a) = false := by simp
  have hb : (b != b) = false := by simp
  by_cases h1 : a < b
  · have HC := Nm.hide (Nm.cmpI_lt h1)
    go_enter Tryz.func75, Tryz.ntmps75
    go_wp2
    go_ret
    rw [HC.out]
    exact ⟨rfl, rfl⟩
  · by_cases h2 : b < a
    · have HC := Nm.hide (Nm.cmpI_gt h2)
      go_enter Tryz.func75, Tryz.ntmps75
      go_wp2
      go_ret
      rw [HC.out]
      exact ⟨rfl, rfl⟩
    · have HC := Nm.hide (Nm.cmpI_eq (show a = b by omega))
      go_enter Tryz.func75, Tryz.ntmps75
      go_wp2
      go_ret
      rw [HC.out]
      exact ⟨rfl, rfl⟩

set_option maxRecDepth 100000 in
set_option maxHeartbeats 800000 in
theorem compareFolded_any (a b : ByteArray) (w : World) (ha : a.size ≤ 1000000000) :
    Calls Tryz.prog 57 #[.string a, .string b] w fun e w' => e = .returned (.int .i64 (Nm.ordS a b)) ∧ ∃ m, w' = w.drewN m := by
  go_enter Tryz.func57, Tryz.ntmps57
  go_wp2
  go_loopw [5] (fun i wr => ∃ k : Nat, k ≤ a.size ∧ k ≤ b.size ∧ i = .int .i64 k ∧ Hid ((Nm.smallL a.data.toList).take k = (Nm.smallL b.data.toList).take k) ∧ ∃ m, Hid (wr = w.drewN m))
    (fun i _ => a.size - (intOf i).toNat)
  case atStart => exact ⟨0, Nat.zero_le _, Nat.zero_le _, rfl, by show _ = _; simp, 0, rfl⟩
  case round =>
    obtain ⟨k, hka, hkb, rfl, HT, m, HW⟩ := hrel
    by_cases h1 : k < a.size ∧ k < b.size
    · obtain ⟨h1, h2⟩ := h1
      have d1 : decide ((k : Int) < (a.size : Int)) = true := by simp; omega
      have d2 : decide ((k : Int) < (b.size : Int)) = true := by simp; omega
      have i1 : (k : Int) < (a.size : Int) := by omega
      have i2 : (k : Int) < (b.size : Int) := by omega
      by_cases he : Nm.low a[k] = Nm.low b[k]
      · have HN : Hid ((Nm.smallL a.data.toList).take (k + 1) = (Nm.smallL b.data.toList).take (k + 1)) := Nm.take_snoc_eq HT.out (Nm.small_get h1) (Nm.small_get h2) he
        have hc : (Nm.cmpI (Nm.low a[k]).toNat (Nm.low b[k]).toNat != 0) = false := by rw [Nm.cmpI_eq (by rw [he])]; rfl
        clear he
        go_wp2
        go_quiet (first | (go_at_call 74; exact Calls.quiet_of_same (foldByte_any _ _)) | (go_at_call 73; exact Calls.quiet_of_same (cmpByte_any _ _ _)))
        go_wp2
        go_roundw
        case rel => exact ⟨k + 1, by omega, by omega, by go_num, HN, _, by show _ = _; rw [HW.out, World.drewN_drewN]⟩
        case measure => simp [intOf]; omega
      · have HO : Hid (Nm.ordS a b = Nm.cmpI (Nm.low a[k]).toNat (Nm.low b[k]).toNat) := Nm.ord_at k _ _ _ _ HT.out (Nm.small_get h1) (Nm.small_get h2) he
        have hc : (Nm.cmpI (Nm.low a[k]).toNat (Nm.low b[k]).toNat != 0) = true := by
          rw [bne_iff_ne]
          exact Nm.cmpI_ne (fun e => he (UInt8.toNat_inj.1 (by omega)))
        clear he
        go_wp2
        go_quiet (first | (go_at_call 74; exact Calls.quiet_of_same (foldByte_any _ _)) | (go_at_call 73; exact Calls.quiet_of_same (cmpByte_any _ _ _)))
        go_wp2
        go_ret
        rw [HO.out]
        exact ⟨rfl, _, by rw [HW.out, World.drewN_drewN]⟩
    · have HO : Hid (Nm.ordS a b = Nm.cmpI a.size b.size) := by
        show _ = _
        have := Nm.ord_end k _ _ HT.out (by rw [Nm.smallL_length]; omega) (by rw [Nm.smallL_length]; omega) (by rw [Nm.smallL_length, Nm.smallL_length]; omega)
        rw [Nm.smallL_length, Nm.smallL_length] at this
        exact this
      by_cases h2 : k < a.size
      · have g2 : b.size ≤ k := by omega
        have d2 : decide (k < b.size) = false := by simp; omega
        clear h1
        go_wp2_with fail
        refine (cmpInt_any _ _ _).mono ?_
        rintro e w3 ⟨rfl, rfl⟩
        go_wp2
        go_ret
        rw [HO.out]
        exact ⟨rfl, _, HW.out⟩
      · have g2 : a.size ≤ k := by omega
        have d2 : decide (k < a.size) = false := by simp; omega
        clear h1
        go_wp2_with fail
        refine (cmpInt_any _ _ _).mono ?_
        rintro e w3 ⟨rfl, rfl⟩
        go_wp2
        go_ret
        rw [HO.out]
        exact ⟨rfl, _, HW.out⟩
end Go.Proofs.YtfficbpalibmoaaGreatDoor
/- impl.SameName by its contract. -/
namespace Go.Proofs.YtfficbpalibmoaaGreatDoor
open Go.RowKit

set_option maxRecDepth 100000 in
set_option maxHeartbeats 800000 in
theorem implSameName_any (a b : ByteArray) (w : World) (ha : a.size ≤ maxLen) (hb : b.size ≤ maxLen) :
    Calls Tryz.prog 33 #[.string a, .string b] w fun e w' => e = .returned (.bool (sameS a b)) ∧ Below w.heap.size w w' := by
  have hsa := implNameOK_any a w ha
  have hsb := fun W => implNameOK_any b W hb
  cases hqa : Nm.split a with
  | none =>
    have HA := Nm.hide (same_left (b := b) hqa)
    rw [hqa] at hsa
    clear hqa
    go_enter Tryz.func33, Tryz.ntmps33
    go_wp2_with fail
    refine hsa.mono ?_
    rintro e w1 ⟨rfl, hbel⟩
    go_wp2
    go_ret
    rw [HA.out]
    exact ⟨rfl, hbel⟩
  | some xs =>
    have hza := Nm.split_size hqa
    rw [hqa] at hsa
    cases hqb : Nm.split b with
    | none =>
      have HA := Nm.hide (same_right (a := a) hqb)
      rw [hqb] at hsb
      clear hqa hqb
      go_enter Tryz.func33, Tryz.ntmps33
      go_wp2_with fail
      refine hsa.mono ?_
      rintro e w1 ⟨rfl, hbel⟩
      go_wp2_with fail
      refine (hsb _).mono ?_
      rintro e w2 ⟨rfl, hbel2⟩
      go_wp2
      go_ret
      rw [HA.out]
      exact ⟨rfl, Nm.below_two hbel hbel2⟩
    | some ys =>
      have HA := Nm.hide (same_some hqa hqb)
      have hcf := fun W => compareFolded_any a b W (by omega)
      rw [hqb] at hsb
      clear hqa hqb
      generalize Nm.ordS a b = o at *
      have HD : Hid ((o == 0) = decide (o = 0)) := by show _ = _; rw [Bool.eq_iff_iff]; simp
      go_enter Tryz.func33, Tryz.ntmps33
      go_wp2_with fail
      refine hsa.mono ?_
      rintro e w1 ⟨rfl, hbel⟩
      go_wp2_with fail
      refine (hsb _).mono ?_
      rintro e w2 ⟨rfl, hbel2⟩
      go_wp2_with fail
      refine (hcf _).mono ?_
      rintro e w3 ⟨rfl, m, rfl⟩
      go_wp2
      go_ret
      rw [HA.out, ← HD.out]
      exact ⟨rfl, Go.below_drewN (Nm.below_two hbel hbel2) _⟩

end Go.Proofs.YtfficbpalibmoaaGreatDoor
/- impl.Verify by its contract: what is no valid call. -/
namespace Go.Proofs.YtfficbpalibmoaaGreatDoor
open Go.RowKit
set_option linter.unusedVariables false

/-- A verdict's cells. -/
def vdC (V : Vd) (u : Value) : Array Value := #[.int .i64 V.code, .bool V.signed, .int .i64 V.key, .string ⟨V.sum.toArray⟩, u]
def vdZ : Array Value := #[.int .i64 0, .bool false, .int .i64 0, .string ByteArray.empty, .slice none 0 0]
def VPost (V : Vd) (w : World) (e : Ending) (w' : World) : Prop := (∃ u, e = .returned (.agg (vdC V u)) ∧ w'.ownsRow w.heap.size 5 1 u V.body.length (Nm.bys V.body)) ∧ Below w.heap.size w w'
theorem msA_one (d f n1 n2 n3 n4 c1 c2 c3 c4 : Nat) (b1 b2 b3 b4 : Option Addr) : (msA d f (.slice b1 n1 c1) (.slice b2 n2 c2) (.slice b3 n3 c3) (.slice b4 n4 c4)).all (·.oneCell') = true := by simp [msA, Value.oneCell']

/-- The verdict is laid down and handed back. -/
theorem vd_back {w W : World} {V : Vd} {u : Value} {a : Act} {c : Array Value} (hk : Blk W w.heap.size c 26) (hB : Below w.heap.size w W) (h8 : a.tmps[8]?.getD undef = .pointer (some ⟨w.heap.size, 0, none⟩)) (hd : a.defers = []) (hc : c = vdC V u) (ho : W.ownsRow w.heap.size 5 1 u V.body.length (Nm.bys V.body)) :
    bodyPost Tryz.prog Tryz.f8 (VPost V w) .ret a W := by
  subst hc
  exact bodyPost_ret (v := .agg (vdC V u)) (run_results_row Tryz.results8 h8 hk Tryz.underlying26 rfl (by kernel_rfl)) hd ⟨⟨_, rfl, ho⟩, hB⟩

set_option maxRecDepth 100000 in
set_option maxHeartbeats 3200000 in
theorem implVerify_bad (v vk : Value) (l : List UInt8) (ks : List (ByteArray × ByteArray)) (now : Int) (rq : ByteArray) (w : World) (h : BySl w v l) (hl : l.length ≤ 1048576) (hk : CRow w vk ks.length 2 (kyVs ks)) (hkx : ∀ x ∈ ks, x.1.size ≤ maxLen)
    (hbad : (msO l).c ≠ 0 ∨ vPre ks now rq = false) :
    Calls Tryz.prog 8 #[v, vk, .int .i64 now, .string rq] w (VPost vd0 w) := by
  have k0 := blk_new w vdZ 26
  have hB0 := (Below.refl w.heap.size w).alloc (Nat.le_refl _) (.cells vdZ 26)
  have hde := implDecode_wideO v l _ (h.below hB0) (by omega)
  have hvk := fun W (hW : Below w.heap.size w W) => validKeys_any vk ks W (hk.below hW) hkx
  have hin := fun W => within_any now 281474976710655 W
  obtain ⟨av, cv, rfl⟩ : ∃ a c, v = .slice a l.length c := by obtain ⟨_, a, c, e, _⟩ := h; exact ⟨a, c, e⟩
  obtain ⟨ak, ck, rfl⟩ : ∃ a c, vk = .slice a ks.length c := by obtain ⟨_, a, c, e, _⟩ := hk; exact ⟨a, c, e⟩
  unfold DecPost at hde
  simp only [vdZ] at hde k0 hB0
  go_enter Tryz.func8, Tryz.ntmps8
  go_wp2_with fail
  refine hde.mono ?_
  rintro e w1 ⟨b1, q, x, y, z, rfl, L1⟩
  obtain ⟨x1, y1, rfl⟩ := row_val L1.rq
  obtain ⟨x2, y2, rfl⟩ := row_val L1.ra
  obtain ⟨x3, y3, rfl⟩ := row_val L1.ru
  obtain ⟨x4, y4, rfl⟩ := row_val L1.rx
  have k1 := blk_below k0 b1
  have hB1 := Nm.below_two hB0 b1
  have hs1 : w.heap.size < w1.heap.size := by have := b1.size; rw [World.size_alloc] at this; omega
  clear hde k0 hB0 b1
  obtain ⟨MS, eMS⟩ : ∃ M, M = msA (msO l).d (msO l).f (.slice x1 (msO l).m.qs.length y1) (.slice x2 (msO l).m.an.length y2) (.slice x3 (msO l).m.au.length y3) (.slice x4 (msO l).m.ex.length y4) := ⟨_, rfl⟩
  have hMz : MS.size = 15 := by rw [eMS]; rfl
  have hM1 : MS.all (·.oneCell') = true := by rw [eMS]; exact msA_one _ _ _ _ _ _ _ _ _ _ _ _ _ _
  have hMi : (Tryz.prog.info? 46).map (·.size) = some MS.size := by rw [hMz]; kernel_rfl
  have HMz := Nm.hide hMz
  have kA := blk_alloc k1 (.cells ms0 46)
  have hBA := hB1.alloc hB1.size (.cells ms0 46)
  have hsA : w.heap.size ≤ (w1.alloc (.cells ms0 46)).heap.size := hBA.size
  simp only [ms0] at kA hBA hsA
  rw [← eMS]
  clear hMz
  clear h hk hkx eMS L1
  obtain ⟨C, eC⟩ : ∃ C, C = (msO l).c := ⟨_, rfl⟩
  rw [← eC] at hbad ⊢
  clear eC
  by_cases hC : C = 0
  · subst hC
    have hp : vPre ks now rq = false := hbad.resolve_left (by simp)
    clear hbad
    simp only [vPre] at hp
    have HP : Hid ((ks.all (fun p => keyB p.1 p.2) && decide (ks.length ≤ 8)) = false ∨ (decide (0 ≤ now) && decide (now ≤ 281474976710655)) = false ∨ decide (rq.size ≤ 32) = false) := by
      rw [Hid]
      cases e1 : (ks.all (fun p => keyB p.1 p.2) && decide (ks.length ≤ 8)) with
      | false => exact .inl rfl
      | true =>
        cases e2 : (decide (0 ≤ now) && decide (now ≤ 281474976710655)) with
        | false => exact .inr (.inl rfl)
        | true =>
          refine .inr (.inr ?_)
          simp only [Bool.and_eq_true] at e1 e2
          simpa [e1, e2] using hp
    clear hp
    generalize (ks.all (fun p => keyB p.1 p.2) && decide (ks.length ≤ 8)) = A at *
    generalize (decide (0 ≤ now) && decide (now ≤ 281474976710655)) = B at *
    cases A with
    | false =>
      clear HP
      go_wp2_with (first
        | (refine wpList_store_blk (.tmp 9) (.tmp 20) 46 rfl rfl rfl w1.heap.size _ _ (blk_new _ _ _) rfl rfl hMi (by rw [HMz.out]; rfl) hM1 ?_; intro w2 k2 o2; have k02 := o2.blk kA (by omega); have hB2 := o2.below hBA (by omega) hsA; have hvk2 := hvk _ hB2; clear o2 hvk kA hBA hsA hMi hM1)
        | (go_at_call 28; refine hvk2.mono ?_; rintro e w2b ⟨rfl, b2b⟩; have hB2b := Nm.below_two hB2 b2b; have k02b := blk_below k02 b2b; clear hB2 k02; have hB2 := hB2b; have k02 := k02b; clear hB2b k02b b2b hvk2)
        | (go_at_call 29; refine (hin _).mono ?_; rintro e wf ⟨rfl, hw⟩; obtain rfl := hw.symm; clear hw)
        | (refine wpList_store_blk (.tmp 8) (.tmp 39) 26 rfl rfl rfl w.heap.size _ _ k02 rfl rfl (by kernel_rfl) rfl (by kernel_rfl) ?_; intro w3 k3 o3; have hB3 := o3.below hB2 (Nat.le_refl _) hB2.size; clear o3))
      exact vd_back k3 hB3 rfl rfl rfl (World.ownsRow_nil _ _ _ _)
    | true =>
      cases B with
      | false =>
        clear HP
        go_wp2_with (first
          | (refine wpList_store_blk (.tmp 9) (.tmp 20) 46 rfl rfl rfl w1.heap.size _ _ (blk_new _ _ _) rfl rfl hMi (by rw [HMz.out]; rfl) hM1 ?_; intro w2 k2 o2; have k02 := o2.blk kA (by omega); have hB2 := o2.below hBA (by omega) hsA; have hvk2 := hvk _ hB2; clear o2 hvk kA hBA hsA hMi hM1)
          | (go_at_call 28; refine hvk2.mono ?_; rintro e w2b ⟨rfl, b2b⟩; have hB2b := Nm.below_two hB2 b2b; have k02b := blk_below k02 b2b; clear hB2 k02; have hB2 := hB2b; have k02 := k02b; clear hB2b k02b b2b hvk2)
          | (go_at_call 29; refine (hin _).mono ?_; rintro e wf ⟨rfl, hw⟩; obtain rfl := hw.symm; clear hw)
          | (refine wpList_store_blk (.tmp 8) (.tmp 39) 26 rfl rfl rfl w.heap.size _ _ k02 rfl rfl (by kernel_rfl) rfl (by kernel_rfl) ?_; intro w3 k3 o3; have hB3 := o3.below hB2 (Nat.le_refl _) hB2.size; clear o3))
        exact vd_back k3 hB3 rfl rfl rfl (World.ownsRow_nil _ _ _ _)
      | true =>
        have h3 : ¬ rq.size ≤ 32 := by
          rcases HP.out with h | h | h
          · cases h
          · cases h
          · simpa using h
        have h3' : (32 : Int) < (rq.size : Int) := by omega
        clear HP h3
        go_wp2_with (first
          | (refine wpList_store_blk (.tmp 9) (.tmp 20) 46 rfl rfl rfl w1.heap.size _ _ (blk_new _ _ _) rfl rfl hMi (by rw [HMz.out]; rfl) hM1 ?_; intro w2 k2 o2; have k02 := o2.blk kA (by omega); have hB2 := o2.below hBA (by omega) hsA; have hvk2 := hvk _ hB2; clear o2 hvk kA hBA hsA hMi hM1)
          | (go_at_call 28; refine hvk2.mono ?_; rintro e w2b ⟨rfl, b2b⟩; have hB2b := Nm.below_two hB2 b2b; have k02b := blk_below k02 b2b; clear hB2 k02; have hB2 := hB2b; have k02 := k02b; clear hB2b k02b b2b hvk2)
          | (go_at_call 29; refine (hin _).mono ?_; rintro e wf ⟨rfl, hw⟩; obtain rfl := hw.symm; clear hw)
          | (refine wpList_store_blk (.tmp 8) (.tmp 39) 26 rfl rfl rfl w.heap.size _ _ k02 rfl rfl (by kernel_rfl) rfl (by kernel_rfl) ?_; intro w3 k3 o3; have hB3 := o3.below hB2 (Nat.le_refl _) hB2.size; clear o3))
        exact vd_back k3 hB3 rfl rfl rfl (World.ownsRow_nil _ _ _ _)
  · have hC' : (C == (0 : Int)) = false := by simp [hC]
    clear hbad
    go_wp2_with (first
      | (refine wpList_store_blk (.tmp 9) (.tmp 20) 46 rfl rfl rfl w1.heap.size _ _ (blk_new _ _ _) rfl rfl hMi (by rw [HMz.out]; rfl) hM1 ?_; intro w2 k2 o2; have k02 := o2.blk kA (by omega); have hB2 := o2.below hBA (by omega) hsA; have hvk2 := hvk _ hB2; clear o2 hvk kA hBA hsA hMi hM1)
      | (go_at_call 28; refine hvk2.mono ?_; rintro e w2b ⟨rfl, b2b⟩; have hB2b := Nm.below_two hB2 b2b; have k02b := blk_below k02 b2b; clear hB2 k02; have hB2 := hB2b; have k02 := k02b; clear hB2b k02b b2b hvk2)
      | (go_at_call 29; refine (hin _).mono ?_; rintro e wf ⟨rfl, hw⟩; obtain rfl := hw.symm; clear hw)
      | (refine wpList_store_blk (.tmp 8) (.tmp 39) 26 rfl rfl rfl w.heap.size _ _ k02 rfl rfl (by kernel_rfl) rfl (by kernel_rfl) ?_; intro w3 k3 o3; have hB3 := o3.below hB2 (Nat.le_refl _) hB2.size; clear o3))
    exact vd_back k3 hB3 rfl rfl rfl (World.ownsRow_nil _ _ _ _)
end Go.Proofs.YtfficbpalibmoaaGreatDoor
/- impl.Verify by its contract: a signature that is none, and no signature. -/
namespace Go.Proofs.YtfficbpalibmoaaGreatDoor
open Go.RowKit
set_option linter.unusedVariables false

theorem own_only {w w' : World} {p B e s n : Nat} {v : Value} {xs : List Value} (h : w.ownsRow B e s v n xs) (ho : Only p w w') (hne : v.ownBlock ≠ some p) : w'.ownsRow B e s v n xs :=
  h.kept (row := some p) ⟨ho.os, ho.tape, ho.output, ho.size, fun k hk hne => ho.block k hk (fun e => hne (by rw [e]))⟩ (by cases hv : v.ownBlock <;> simp_all)

set_option maxRecDepth 100000 in
set_option maxHeartbeats 3200000 in
theorem implVerify_form (v vk : Value) (l : List UInt8) (ks : List (ByteArray × ByteArray)) (now : Int) (rq : ByteArray) (w : World) (h : BySl w v l) (hl : l.length ≤ 1048576) (hk : CRow w vk ks.length 2 (kyVs ks)) (hkx : ∀ x ∈ ks, x.1.size ≤ maxLen)
    (hC0 : (msO l).c = 0) (hpre : vPre ks now rq = true) (hlen : (msO l).m.an.length ≤ 400 ∧ (msO l).m.au.length ≤ 400 ∧ (msO l).m.ex.length ≤ 400) (hfV : fsV (msO l).m = (sg0, false, 32)) :
    Calls Tryz.prog 8 #[v, vk, .int .i64 now, .string rq] w (VPost vd0 w) := by
  have hinS := sgI_info sg0 sg0_size
  have honS : sg0.all (·.oneCell') = true := sgA_one _ _ _ _ _
  have HSX := Nm.hide sg0_size
  have k0 := blk_new w vdZ 26
  have hB0 := (Below.refl w.heap.size w).alloc (Nat.le_refl _) (.cells vdZ 26)
  have hde := implDecode_wideO v l _ (h.below hB0) (by omega)
  have hvk := fun W (hW : Below w.heap.size w W) => validKeys_any vk ks W (hk.below hW) hkx
  have hin := fun W => within_any now 281474976710655 W
  obtain ⟨av, cv, rfl⟩ : ∃ a c, v = .slice a l.length c := by obtain ⟨_, a, c, e, _⟩ := h; exact ⟨a, c, e⟩
  obtain ⟨ak, ck, rfl⟩ : ∃ a c, vk = .slice a ks.length c := by obtain ⟨_, a, c, e, _⟩ := hk; exact ⟨a, c, e⟩
  unfold DecPost at hde
  simp only [vdZ] at hde k0 hB0
  go_enter Tryz.func8, Tryz.ntmps8
  go_wp2_with fail
  refine hde.mono ?_
  rintro e w1 ⟨b1, q, x, y, z, rfl, L1⟩
  obtain ⟨x1, y1, rfl⟩ := row_val L1.rq
  obtain ⟨x2, y2, rfl⟩ := row_val L1.ra
  obtain ⟨x3, y3, rfl⟩ := row_val L1.ru
  obtain ⟨x4, y4, rfl⟩ := row_val L1.rx
  have k1 := blk_below k0 b1
  have hB1 := Nm.below_two hB0 b1
  have hs1 : w.heap.size < w1.heap.size := by have := b1.size; rw [World.size_alloc] at this; omega
  clear hde k0 hB0 b1
  obtain ⟨MS, eMS⟩ : ∃ M, M = msA (msO l).d (msO l).f (.slice x1 (msO l).m.qs.length y1) (.slice x2 (msO l).m.an.length y2) (.slice x3 (msO l).m.au.length y3) (.slice x4 (msO l).m.ex.length y4) := ⟨_, rfl⟩
  have hMz : MS.size = 15 := by rw [eMS]; rfl
  have hM1 : MS.all (·.oneCell') = true := by rw [eMS]; exact msA_one _ _ _ _ _ _ _ _ _ _ _ _ _ _
  have hMi : (Tryz.prog.info? 46).map (·.size) = some MS.size := by rw [hMz]; kernel_rfl
  have HMz := Nm.hide hMz
  have kA := blk_alloc k1 (.cells ms0 46)
  have hBA := hB1.alloc hB1.size (.cells ms0 46)
  have hsA : w.heap.size ≤ (w1.alloc (.cells ms0 46)).heap.size := hBA.size
  simp only [ms0] at kA hBA hsA
  rw [← eMS]
  clear hMz
  simp only [vPre, Bool.and_eq_true, decide_eq_true_eq] at hpre
  have hA : (ks.all (fun p => keyB p.1 p.2) && decide (ks.length ≤ 8)) = true := by rw [hpre.2.2.2.2, decide_eq_true hpre.1]; rfl
  have hN : (decide (0 ≤ now) && decide (now ≤ 281474976710655)) = true := by rw [decide_eq_true hpre.2.1, decide_eq_true hpre.2.2.1]; rfl
  rw [hA] at hvk
  rw [hN] at hin
  have hrq : ¬ (32 : Int) < (rq.size : Int) := by have := hpre.2.2.2.1; omega
  have hfs := fun W (hW : Below w1.heap.size w1 W) => findSig_any (msO l).d (msO l).f (msO l).m _ _ _ _ W (L1.rd.below hW) hlen
  rw [← eMS, hfV] at hfs
  rw [hC0]
  have hz36 : ∀ W, (zeroValue 68).run Tryz.prog W = .ok (.agg sg0) W := by
    have := zero_of_info (P := Tryz.prog) (t := 68) (v := .agg sg0) (n := 36) (by kernel_rfl)
    exact this.1
  have HS0 := Nm.hide sg0_size
  generalize sg0 = S0 at *
  have HPRE := Nm.hide hpre
  have HL1 := Nm.hide L1
  clear hpre hA hN hfV hlen hC0 L1 eMS
  go_wp2_with (first
    | (refine wpList_store_blk (.tmp 9) (.tmp 20) 46 rfl rfl rfl w1.heap.size _ _ (blk_new _ _ _) rfl rfl hMi (by rw [HMz.out]; rfl) hM1 ?_; intro w2 k2 o2; have k02 := o2.blk kA (by omega); have hB2 := o2.below hBA (by omega) hsA; have hvk2 := hvk _ hB2; have b2 := o2.below ((Below.refl w1.heap.size w1).alloc (Nat.le_refl _) _) (Nat.le_refl _) (by rw [World.size_alloc]; omega); clear o2 hvk kA hBA hsA hM1)
    | (go_at_call 28; refine hvk2.mono ?_; rintro e w3 ⟨rfl, b3⟩; have hB3 := Nm.below_two hB2 b3; have k03 := blk_below k02 b3; have k3 := blk_below k2 b3; have hfs3 := hfs _ (Nm.below_two b2 b3); clear hB2 k02 b3 hvk2 k2 hfs b2)
    | (go_at_call 29; refine (hin _).mono ?_; rintro e wf ⟨rfl, hw⟩; obtain rfl := hw.symm; clear hw hin)
    | (refine wpList_load_blk (.tmp 9) 46 rfl rfl w1.heap.size _ _ k3 rfl Tryz.underlying46 rfl hMi ?_))
  refine hfs3.mono ?_
  rintro e w4 ⟨rfl, b4⟩
  have hB4 := Nm.below_two hB3 b4
  have k04 := blk_below k03 b4
  have k5A := blk_alloc k04 (.cells S0 68)
  have hB5A := hB4.alloc hB4.size (.cells S0 68)
  have hs4 : w.heap.size < w4.heap.size := blk_lt k04
  have hs5A : w.heap.size ≤ (w4.alloc (.cells S0 68)).heap.size := hB5A.size
  clear hfs3 b4 hB3 k03 k3 hMi k04
  clear h hk hkx HL1
  go_wp2_with (first
    | (refine wpList_store_blk (.tmp 11) (.tmp 43) 68 rfl rfl rfl w4.heap.size _ _ (blk_new _ _ _) rfl rfl hinS (HS0.out.trans HSX.out.symm) honS ?_; intro w5 k5 o5; have k05 := o5.blk k5A (by omega); have hB5 := o5.below hB5A (by omega) hs5A; clear o5 k5A hB5A hs5A hinS honS)
    | (refine wpList_store_blk (.tmp 8) (.tmp 49) 26 rfl rfl rfl w.heap.size _ _ k05 rfl rfl (by kernel_rfl) rfl (by kernel_rfl) ?_; intro w6 k6 o6; have hB6 := o6.below hB5 (Nat.le_refl _) hB5.size; clear o6))
  exact vd_back k6 hB6 rfl rfl rfl (World.ownsRow_nil _ _ _ _)

set_option maxRecDepth 100000 in
set_option maxHeartbeats 3200000 in
theorem implVerify_plain (v vk : Value) (l : List UInt8) (ks : List (ByteArray × ByteArray)) (now : Int) (rq : ByteArray) (w : World) (h : BySl w v l) (hl : l.length ≤ 1048576) (hk : CRow w vk ks.length 2 (kyVs ks)) (hkx : ∀ x ∈ ks, x.1.size ≤ maxLen) (hp : 0 < l.length)
    (hC0 : (msO l).c = 0) (hpre : vPre ks now rq = true) (hlen : (msO l).m.an.length ≤ 400 ∧ (msO l).m.au.length ≤ 400 ∧ (msO l).m.ex.length ≤ 400) (hfV : fsV (msO l).m = (sg0, false, 0)) :
    Calls Tryz.prog 8 #[v, vk, .int .i64 now, .string rq] w (VPost (vdU l) w) := by
  have hinS := sgI_info sg0 sg0_size
  have honS : sg0.all (·.oneCell') = true := sgA_one _ _ _ _ _
  have HSX := Nm.hide sg0_size
  have k0 := blk_new w vdZ 26
  have hB0 := (Below.refl w.heap.size w).alloc (Nat.le_refl _) (.cells vdZ 26)
  have hde := implDecode_wideO v l _ (h.below hB0) (by omega)
  have hvk := fun W (hW : Below w.heap.size w W) => validKeys_any vk ks W (hk.below hW) hkx
  have hin := fun W => within_any now 281474976710655 W
  obtain ⟨av, cv, rfl⟩ : ∃ a c, v = .slice a l.length c := by obtain ⟨_, a, c, e, _⟩ := h; exact ⟨a, c, e⟩
  obtain ⟨ak, ck, rfl⟩ : ∃ a c, vk = .slice a ks.length c := by obtain ⟨_, a, c, e, _⟩ := hk; exact ⟨a, c, e⟩
  unfold DecPost at hde
  simp only [vdZ] at hde k0 hB0
  go_enter Tryz.func8, Tryz.ntmps8
  go_wp2_with fail
  refine hde.mono ?_
  rintro e w1 ⟨b1, q, x, y, z, rfl, L1⟩
  obtain ⟨x1, y1, rfl⟩ := row_val L1.rq
  obtain ⟨x2, y2, rfl⟩ := row_val L1.ra
  obtain ⟨x3, y3, rfl⟩ := row_val L1.ru
  obtain ⟨x4, y4, rfl⟩ := row_val L1.rx
  have k1 := blk_below k0 b1
  have hB1 := Nm.below_two hB0 b1
  have hs1 : w.heap.size < w1.heap.size := by have := b1.size; rw [World.size_alloc] at this; omega
  clear hde k0 hB0 b1
  obtain ⟨MS, eMS⟩ : ∃ M, M = msA (msO l).d (msO l).f (.slice x1 (msO l).m.qs.length y1) (.slice x2 (msO l).m.an.length y2) (.slice x3 (msO l).m.au.length y3) (.slice x4 (msO l).m.ex.length y4) := ⟨_, rfl⟩
  have hMz : MS.size = 15 := by rw [eMS]; rfl
  have hM1 : MS.all (·.oneCell') = true := by rw [eMS]; exact msA_one _ _ _ _ _ _ _ _ _ _ _ _ _ _
  have hMi : (Tryz.prog.info? 46).map (·.size) = some MS.size := by rw [hMz]; kernel_rfl
  have HMz := Nm.hide hMz
  have kA := blk_alloc k1 (.cells ms0 46)
  have hBA := hB1.alloc hB1.size (.cells ms0 46)
  have hsA : w.heap.size ≤ (w1.alloc (.cells ms0 46)).heap.size := hBA.size
  simp only [ms0] at kA hBA hsA
  rw [← eMS]
  clear hMz
  simp only [vPre, Bool.and_eq_true, decide_eq_true_eq] at hpre
  have hA : (ks.all (fun p => keyB p.1 p.2) && decide (ks.length ≤ 8)) = true := by rw [hpre.2.2.2.2, decide_eq_true hpre.1]; rfl
  have hN : (decide (0 ≤ now) && decide (now ≤ 281474976710655)) = true := by rw [decide_eq_true hpre.2.1, decide_eq_true hpre.2.2.1]; rfl
  rw [hA] at hvk
  rw [hN] at hin
  have hrq : ¬ (32 : Int) < (rq.size : Int) := by have := hpre.2.2.2.1; omega
  have hfs := fun W (hW : Below w1.heap.size w1 W) => findSig_any (msO l).d (msO l).f (msO l).m _ _ _ _ W (L1.rd.below hW) hlen
  rw [← eMS, hfV] at hfs
  rw [hC0]
  have hz36 : ∀ W, (zeroValue 68).run Tryz.prog W = .ok (.agg sg0) W := by
    have := zero_of_info (P := Tryz.prog) (t := 68) (v := .agg sg0) (n := 36) (by kernel_rfl)
    exact this.1
  have HS0 := Nm.hide sg0_size
  generalize sg0 = S0 at *
  have HPRE := Nm.hide hpre
  have HL1 := Nm.hide L1
  clear hpre hA hN hfV hlen hC0 L1 eMS
  go_wp2_with (first
    | (refine wpList_store_blk (.tmp 9) (.tmp 20) 46 rfl rfl rfl w1.heap.size _ _ (blk_new _ _ _) rfl rfl hMi (by rw [HMz.out]; rfl) hM1 ?_; intro w2 k2 o2; have k02 := o2.blk kA (by omega); have hB2 := o2.below hBA (by omega) hsA; have hvk2 := hvk _ hB2; have b2 := o2.below ((Below.refl w1.heap.size w1).alloc (Nat.le_refl _) _) (Nat.le_refl _) (by rw [World.size_alloc]; omega); clear o2 hvk kA hBA hsA hM1)
    | (go_at_call 28; refine hvk2.mono ?_; rintro e w3 ⟨rfl, b3⟩; have hB3 := Nm.below_two hB2 b3; have k03 := blk_below k02 b3; have k3 := blk_below k2 b3; have hfs3 := hfs _ (Nm.below_two b2 b3); clear hB2 k02 b3 hvk2 k2 hfs b2)
    | (go_at_call 29; refine (hin _).mono ?_; rintro e wf ⟨rfl, hw⟩; obtain rfl := hw.symm; clear hw hin)
    | (refine wpList_load_blk (.tmp 9) 46 rfl rfl w1.heap.size _ _ k3 rfl Tryz.underlying46 rfl hMi ?_))
  refine hfs3.mono ?_
  rintro e w4 ⟨rfl, b4⟩
  have hB4 := Nm.below_two hB3 b4
  have k04 := blk_below k03 b4
  have k5A := blk_alloc k04 (.cells S0 68)
  have hB5A := hB4.alloc hB4.size (.cells S0 68)
  have hs4 : w.heap.size < w4.heap.size := blk_lt k04
  have hs5A : w.heap.size ≤ (w4.alloc (.cells S0 68)).heap.size := hB5A.size
  clear hfs3 b4 hB3 k03 k3 hMi k04
  have hcl := fun W (hW : Below w.heap.size w W) => clone_by av l cv W (h.below hW) hp hl
  clear h hk hkx HL1
  go_wp2_with (first
    | (refine wpList_store_blk (.tmp 11) (.tmp 43) 68 rfl rfl rfl w4.heap.size _ _ (blk_new _ _ _) rfl rfl hinS (HS0.out.trans HSX.out.symm) honS ?_; intro w5 k5 o5; have k05 := o5.blk k5A (by omega); have hB5 := o5.below hB5A (by omega) hs5A; clear o5 k5A hB5A hs5A hinS honS)
    | (go_at_call 31; refine (hcl _ hB5).mono ?_; rintro e w6 ⟨g, c, rfl, own6, b6⟩; have hB6 := Nm.below_two hB5 b6; have k06 := blk_below k05 b6; have hg := (own6.lt g rfl).1; have own6' := own_base own6 hB5.size)
    | (refine wpList_store_blk (.tmp 8) (.tmp 54) 26 rfl rfl rfl w.heap.size _ _ k06 rfl rfl (by kernel_rfl) rfl (by kernel_rfl) ?_; intro w7 k7 o7; have hB7 := o7.below hB6 (Nat.le_refl _) hB6.size))
  have own7 : w7.ownsRow w.heap.size 5 1 (.slice (some ⟨g, 0, none⟩) l.length c) l.length (Nm.bys l) := own_only own6' o7 (by intro h0; have h1 : g = w.heap.size := Option.some.inj h0; have := blk_lt k05; omega)
  exact vd_back k7 hB7 rfl rfl rfl own7
end Go.Proofs.YtfficbpalibmoaaGreatDoor
