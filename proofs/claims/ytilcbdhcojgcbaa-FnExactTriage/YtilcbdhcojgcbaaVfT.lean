import Derived.Test.YtilcbdhcojgcbaaJSDe
import Derived.Test.YtilcbdhcojgcbaaJRd8
import Derived.Test.YtilcbdhcojgcbaaJVfB
import Derived.Test.YtilcbdhcojgcbaaJCutM
/- spec.Verify by its contract: what is no valid call. -/
namespace Go.Proofs.Ytilcbdhcojgcbaa
open Go.RowKit
set_option linter.unusedVariables false

theorem wpList_load_want {P : Program} {ops : Array Oper} {rest : List Oper} {o : Oper} {a : Act} {w : World} {Q : Exit → Act → World → Prop} (p : Operand) (t : TypeId) (hw : Region.wanted o (yielded ops a.tmps) = true) (ho : o.op = .load t p) (b : Nat) (cs : Array Value) (d : TypeDesc) (hk : Blk w b cs t)
    (hp : a.eval p = .pointer (some ⟨b, 0, none⟩)) (hu : P.underlying t = some d) (hd : (match d with | .struct _ | .array _ _ => true | _ => false) = true) (hi : (P.info? t).map (·.size) = some cs.size)
    (h : wpList P ops Q rest (a.put o.dst (.agg cs)) w) : wpList P ops Q (o :: rest) a w :=
  wpList_step fun _ hK => by
    rw [if_pos hw]
    unfold Oper.wp execOp
    simp only [ho, hp, Instr.loadAt, Instr.sureAddr, Sem.run_bind, Sem.run_pure, Result.andThen_ok, run_loadVar_row w b t t cs (0, 0) d hk hu hd hi]
    exact hK _ _ h

def vdF : Array Value := #[.int .i64 32, .bool false, .int .i64 0, .string ByteArray.empty, .slice none 0 0]
theorem vs_back {w W : World} {V : Vd} {u : Value} {a : Act} {c : Array Value} (hk : Blk W w.heap.size c 44) (hB : Below w.heap.size w W) (h8 : a.tmps[8]?.getD undef = .pointer (some ⟨w.heap.size, 0, none⟩)) (hd : a.defers = []) (hc : c = vdC V u) (ho : W.ownsRow w.heap.size 5 1 u V.body.length (Nm.bys V.body)) :
    bodyPost Try.prog Try.f11 (VPost V w) .ret a W := by
  subst hc
  exact bodyPost_ret (v := .agg (vdC V u)) (run_results_row Try.results11 h8 hk Try.underlying44 rfl (by kernel_rfl)) hd ⟨⟨_, rfl, ho⟩, hB⟩

set_option maxRecDepth 100000 in
set_option maxHeartbeats 3200000 in
theorem specVerify_bad (v vk : Value) (l : List UInt8) (ks : List (ByteArray × ByteArray)) (now : Int) (rq : ByteArray) (w : World) (h : BySl w v l) (hl : l.length ≤ 1048576) (hk : CRow w vk ks.length 2 (kyVs ks))
    (hbad : (msO l).c ≠ 0 ∨ (decide (ks.length ≤ 8) && ((decide (0 ≤ now) && decide (now ≤ 281474976710655)) && decide (rq.size ≤ 32))) = false) :
    Calls Try.prog 11 #[v, vk, .int .i64 now, .string rq] w (VPost vd0 w) := by
  have k0 := blk_alloc (blk_new w vdZ 44) (.cells vdF 44)
  have kf := blk_new (w.alloc (.cells vdZ 44)) vdF 44
  rw [World.size_alloc] at kf
  have hB0 := (Below.refl w.heap.size w).alloc (Nat.le_refl _) (.cells vdZ 44)
  have hB0 := hB0.alloc hB0.size (.cells vdF 44)
  have hde := l04Read_one v l _ (h.below hB0) (by omega)
  have hin := fun W => l04In_any now 281474976710655 W
  obtain ⟨av, cv, rfl⟩ : ∃ a c, v = .slice a l.length c := by obtain ⟨_, a, c, e, _⟩ := h; exact ⟨a, c, e⟩
  obtain ⟨ak, ck, rfl⟩ : ∃ a c, vk = .slice a ks.length c := by obtain ⟨_, a, c, e, _⟩ := hk; exact ⟨a, c, e⟩
  simp only [vdZ, vdF] at hde k0 kf hB0
  go_enter Try.func11, Try.ntmps11
  go_wp2_with fail
  refine hde.mono ?_
  rintro e w1 ⟨b1, q, x, y, z, nl, rfl, L1⟩
  obtain ⟨x1, y1, rfl⟩ := row_val L1.rq
  obtain ⟨x2, y2, rfl⟩ := row_val L1.ra
  obtain ⟨x3, y3, rfl⟩ := row_val L1.ru
  obtain ⟨x4, y4, rfl⟩ := row_val L1.rx
  have k1 := blk_below k0 b1
  have kf1 := blk_below kf b1
  have hB1 := Nm.below_two hB0 b1
  have hs1 : w.heap.size + 1 < w1.heap.size := blk_lt kf1
  clear hde k0 hB0 b1 kf
  obtain ⟨MS, eMS⟩ : ∃ M, M = msA (msO l).d (msO l).f (.slice x1 (msO l).m.qs.length y1) (.slice x2 (msO l).m.an.length y2) (.slice x3 (msO l).m.au.length y3) (.slice x4 (msO l).m.ex.length y4) := ⟨_, rfl⟩
  have hMz : MS.size = 15 := by rw [eMS]; rfl
  have hM1 : MS.all (·.oneCell') = true := by rw [eMS]; exact msA_one _ _ _ _ _ _ _ _ _ _ _ _ _ _
  have hMi : (Try.prog.info? 35).map (·.size) = some MS.size := by rw [hMz]; kernel_rfl
  have HMz := Nm.hide hMz
  have HMi := Nm.hide hMi
  have kA := blk_alloc k1 (.cells ms0 35)
  have kfA := blk_alloc kf1 (.cells ms0 35)
  have hBA := hB1.alloc hB1.size (.cells ms0 35)
  have hsA : w.heap.size ≤ (w1.alloc (.cells ms0 35)).heap.size := hBA.size
  simp only [ms0] at kA hBA hsA kfA
  rw [← eMS]
  clear hMz
  clear h hk eMS L1
  obtain ⟨C, eC⟩ : ∃ C, C = (msO l).c := ⟨_, rfl⟩
  rw [← eC] at hbad ⊢
  clear eC
  by_cases hC : C = 0
  · subst hC
    have hp := hbad.resolve_left (by simp)
    clear hbad
    have HP : Hid ((decide (ks.length ≤ 8) && ((decide (0 ≤ now) && decide (now ≤ 281474976710655)) && decide (rq.size ≤ 32))) = false) := hp
    clear hp
    by_cases h8 : ks.length ≤ 8
    · have h8' : ¬ (8 : Int) < (ks.length : Int) := by omega
      have HP2 : Hid (((decide (0 ≤ now) && decide (now ≤ 281474976710655)) && decide (rq.size ≤ 32)) = false) := by
        have := HP.out
        rw [decide_eq_true h8, Bool.true_and] at this
        exact this
      clear HP h8
      generalize (decide (0 ≤ now) && decide (now ≤ 281474976710655)) = B at *
      cases B with
      | false =>
        clear HP2
        go_wp2_with (first
          | (refine wpList_store_blk (.tmp 10) (.tmp 26) 35 rfl rfl rfl w1.heap.size _ _ (blk_new _ _ _) rfl rfl hMi (by rw [HMz.out]; rfl) hM1 ?_; intro w2 k2 o2; have k02 := o2.blk kA (by omega); have kf2 := o2.blk kfA (by omega); have hB2 := o2.below hBA (by omega) hsA; have b2 := o2.below ((Below.refl w1.heap.size w1).alloc (Nat.le_refl _) _) (Nat.le_refl _) (by rw [World.size_alloc]; omega); clear o2 kA kfA hBA hsA hMi hM1)
          | (go_at_call 18; refine (hin _).mono ?_; rintro e wf ⟨rfl, hw⟩; obtain rfl := hw.symm; clear hw)
          | (refine wpList_load_blk (.tmp 9) 44 rfl rfl (w.heap.size + 1) _ _ kf2 rfl Try.underlying44 rfl (by kernel_rfl) ?_)
          | (refine wpList_store_blk (.tmp 8) (.tmp 50) 44 rfl rfl rfl w.heap.size _ _ k02 rfl rfl (by kernel_rfl) rfl (by kernel_rfl) ?_; intro w3 k3 o3; have hB3 := o3.below hB2 (Nat.le_refl _) hB2.size; clear o3))
        exact vs_back k3 hB3 rfl rfl rfl (World.ownsRow_nil _ _ _ _)
      | true =>
        have h3 : ¬ rq.size ≤ 32 := by simpa using HP2.out
        have h3' : (32 : Int) < (rq.size : Int) := by omega
        clear HP2 h3
        go_wp2_with (first
          | (refine wpList_store_blk (.tmp 10) (.tmp 26) 35 rfl rfl rfl w1.heap.size _ _ (blk_new _ _ _) rfl rfl hMi (by rw [HMz.out]; rfl) hM1 ?_; intro w2 k2 o2; have k02 := o2.blk kA (by omega); have kf2 := o2.blk kfA (by omega); have hB2 := o2.below hBA (by omega) hsA; have b2 := o2.below ((Below.refl w1.heap.size w1).alloc (Nat.le_refl _) _) (Nat.le_refl _) (by rw [World.size_alloc]; omega); clear o2 kA kfA hBA hsA hMi hM1)
          | (go_at_call 18; refine (hin _).mono ?_; rintro e wf ⟨rfl, hw⟩; obtain rfl := hw.symm; clear hw)
          | (refine wpList_load_blk (.tmp 9) 44 rfl rfl (w.heap.size + 1) _ _ kf2 rfl Try.underlying44 rfl (by kernel_rfl) ?_)
          | (refine wpList_store_blk (.tmp 8) (.tmp 50) 44 rfl rfl rfl w.heap.size _ _ k02 rfl rfl (by kernel_rfl) rfl (by kernel_rfl) ?_; intro w3 k3 o3; have hB3 := o3.below hB2 (Nat.le_refl _) hB2.size; clear o3))
        exact vs_back k3 hB3 rfl rfl rfl (World.ownsRow_nil _ _ _ _)
    · have h8' : (8 : Int) < (ks.length : Int) := by omega
      clear HP h8
      go_wp2_with (first
        | (refine wpList_store_blk (.tmp 10) (.tmp 26) 35 rfl rfl rfl w1.heap.size _ _ (blk_new _ _ _) rfl rfl hMi (by rw [HMz.out]; rfl) hM1 ?_; intro w2 k2 o2; have k02 := o2.blk kA (by omega); have kf2 := o2.blk kfA (by omega); have hB2 := o2.below hBA (by omega) hsA; have b2 := o2.below ((Below.refl w1.heap.size w1).alloc (Nat.le_refl _) _) (Nat.le_refl _) (by rw [World.size_alloc]; omega); clear o2 kA kfA hBA hsA hMi hM1)
        | (go_at_call 18; refine (hin _).mono ?_; rintro e wf ⟨rfl, hw⟩; obtain rfl := hw.symm; clear hw)
        | (refine wpList_load_blk (.tmp 9) 44 rfl rfl (w.heap.size + 1) _ _ kf2 rfl Try.underlying44 rfl (by kernel_rfl) ?_)
        | (refine wpList_store_blk (.tmp 8) (.tmp 50) 44 rfl rfl rfl w.heap.size _ _ k02 rfl rfl (by kernel_rfl) rfl (by kernel_rfl) ?_; intro w3 k3 o3; have hB3 := o3.below hB2 (Nat.le_refl _) hB2.size; clear o3))
      exact vs_back k3 hB3 rfl rfl rfl (World.ownsRow_nil _ _ _ _)
  · have hC' : (C == (0 : Int)) = false := by simp [hC]
    clear hbad
    go_wp2_with (first
      | (refine wpList_store_blk (.tmp 10) (.tmp 26) 35 rfl rfl rfl w1.heap.size _ _ (blk_new _ _ _) rfl rfl hMi (by rw [HMz.out]; rfl) hM1 ?_; intro w2 k2 o2; have k02 := o2.blk kA (by omega); have kf2 := o2.blk kfA (by omega); have hB2 := o2.below hBA (by omega) hsA; have b2 := o2.below ((Below.refl w1.heap.size w1).alloc (Nat.le_refl _) _) (Nat.le_refl _) (by rw [World.size_alloc]; omega); clear o2 kA kfA hBA hsA hMi hM1)
      | (go_at_call 18; refine (hin _).mono ?_; rintro e wf ⟨rfl, hw⟩; obtain rfl := hw.symm; clear hw)
      | (refine wpList_load_blk (.tmp 9) 44 rfl rfl (w.heap.size + 1) _ _ kf2 rfl Try.underlying44 rfl (by kernel_rfl) ?_)
      | (refine wpList_store_blk (.tmp 8) (.tmp 50) 44 rfl rfl rfl w.heap.size _ _ k02 rfl rfl (by kernel_rfl) rfl (by kernel_rfl) ?_; intro w3 k3 o3; have hB3 := o3.below hB2 (Nat.le_refl _) hB2.size; clear o3))
    exact vs_back k3 hB3 rfl rfl rfl (World.ownsRow_nil _ _ _ _)

set_option maxRecDepth 100000 in
set_option maxHeartbeats 3200000 in
theorem specVerify_stray (v vk : Value) (l : List UInt8) (ks : List (ByteArray × ByteArray)) (now : Int) (rq : ByteArray) (w : World) (h : BySl w v l) (hl : l.length ≤ 1048576) (hk : CRow w vk ks.length 2 (kyVs ks))
    (hC0 : (msO l).c = 0) (hlen : (msO l).m.an.length ≤ 400 ∧ (msO l).m.au.length ≤ 400 ∧ (msO l).m.ex.length ≤ 400) (h8 : ks.length ≤ 8) (hn : (decide (0 ≤ now) && decide (now ≤ 281474976710655)) = true) (hr : rq.size ≤ 32) (hst : strayB (msO l).m = true) :
    Calls Try.prog 11 #[v, vk, .int .i64 now, .string rq] w (VPost vd0 w) := by
  have k0 := blk_alloc (blk_new w vdZ 44) (.cells vdF 44)
  have kf := blk_new (w.alloc (.cells vdZ 44)) vdF 44
  rw [World.size_alloc] at kf
  have hB0 := (Below.refl w.heap.size w).alloc (Nat.le_refl _) (.cells vdZ 44)
  have hB0 := hB0.alloc hB0.size (.cells vdF 44)
  have hde := l04Read_one v l _ (h.below hB0) (by omega)
  have hin := fun W => l04In_any now 281474976710655 W
  obtain ⟨av, cv, rfl⟩ : ∃ a c, v = .slice a l.length c := by obtain ⟨_, a, c, e, _⟩ := h; exact ⟨a, c, e⟩
  obtain ⟨ak, ck, rfl⟩ : ∃ a c, vk = .slice a ks.length c := by obtain ⟨_, a, c, e, _⟩ := hk; exact ⟨a, c, e⟩
  simp only [vdZ, vdF] at hde k0 kf hB0
  go_enter Try.func11, Try.ntmps11
  go_wp2_with fail
  refine hde.mono ?_
  rintro e w1 ⟨b1, q, x, y, z, nl, rfl, L1⟩
  obtain ⟨x1, y1, rfl⟩ := row_val L1.rq
  obtain ⟨x2, y2, rfl⟩ := row_val L1.ra
  obtain ⟨x3, y3, rfl⟩ := row_val L1.ru
  obtain ⟨x4, y4, rfl⟩ := row_val L1.rx
  have k1 := blk_below k0 b1
  have kf1 := blk_below kf b1
  have hB1 := Nm.below_two hB0 b1
  have hs1 : w.heap.size + 1 < w1.heap.size := blk_lt kf1
  clear hde k0 hB0 b1 kf
  obtain ⟨MS, eMS⟩ : ∃ M, M = msA (msO l).d (msO l).f (.slice x1 (msO l).m.qs.length y1) (.slice x2 (msO l).m.an.length y2) (.slice x3 (msO l).m.au.length y3) (.slice x4 (msO l).m.ex.length y4) := ⟨_, rfl⟩
  have hMz : MS.size = 15 := by rw [eMS]; rfl
  have hM1 : MS.all (·.oneCell') = true := by rw [eMS]; exact msA_one _ _ _ _ _ _ _ _ _ _ _ _ _ _
  have hMi : (Try.prog.info? 35).map (·.size) = some MS.size := by rw [hMz]; kernel_rfl
  have HMz := Nm.hide hMz
  have HMi := Nm.hide hMi
  have kA := blk_alloc k1 (.cells ms0 35)
  have kfA := blk_alloc kf1 (.cells ms0 35)
  have hBA := hB1.alloc hB1.size (.cells ms0 35)
  have hsA : w.heap.size ≤ (w1.alloc (.cells ms0 35)).heap.size := hBA.size
  simp only [ms0] at kA hBA hsA kfA
  rw [← eMS]
  clear hMz
  have hsv := fun W (hW : Below w1.heap.size w1 W) => l09Stray_any (msO l).d (msO l).f (msO l).m _ _ _ _ W (L1.rd.below hW) hlen
  rw [← eMS, hst] at hsv
  rw [hC0]
  rw [hn] at hin
  have h8' : ¬ (8 : Int) < (ks.length : Int) := by omega
  have h3' : ¬ (32 : Int) < (rq.size : Int) := by omega
  clear h hk eMS L1 hlen hC0 hst hn h8 hr
  go_wp2_with (first
    | (refine wpList_store_blk (.tmp 10) (.tmp 26) 35 rfl rfl rfl w1.heap.size _ _ (blk_new _ _ _) rfl rfl hMi (by rw [HMz.out]; rfl) hM1 ?_; intro w2 k2 o2; have k02 := o2.blk kA (by omega); have kf2 := o2.blk kfA (by omega); have hB2 := o2.below hBA (by omega) hsA; have b2 := o2.below ((Below.refl w1.heap.size w1).alloc (Nat.le_refl _) _) (Nat.le_refl _) (by rw [World.size_alloc]; omega); clear o2 kA kfA hBA hsA hMi hM1)
    | (go_at_call 18; refine (hin _).mono ?_; rintro e wf ⟨rfl, hw⟩; obtain rfl := hw.symm; clear hw)
    | (go_at_call 19; refine (hsv _ b2).mono ?_; rintro e w3 ⟨rfl, b3⟩; have hB3 := Nm.below_two hB2 b3; have k03 := blk_below k02 b3; have kf3 := blk_below kf2 b3)
    | (refine wpList_load_want (.tmp 10) 35 (by first | rfl | (simp [Region.wanted, yielded]; omega)) rfl w1.heap.size _ _ k2 rfl Try.underlying35 rfl HMi.out ?_)
    | (refine wpList_load_blk (.tmp 9) 44 rfl rfl (w.heap.size + 1) _ _ kf3 rfl Try.underlying44 rfl (by kernel_rfl) ?_)
    | (refine wpList_store_blk (.tmp 8) (.tmp 50) 44 rfl rfl rfl w.heap.size _ _ k03 rfl rfl (by kernel_rfl) rfl (by kernel_rfl) ?_; intro w4 k4 o4; have hB4 := o4.below hB3 (Nat.le_refl _) hB3.size; clear o4))
  exact vs_back k4 hB4 rfl rfl rfl (World.ownsRow_nil _ _ _ _)
end Go.Proofs.Ytilcbdhcojgcbaa
