import Derived.Test.YtehggabhjpiclaaMsC
import Derived.Test.YtehggabhjpiclaaMgT
import Derived.Test.YtehggabhjpiclaaMgU
import Derived.Test.YtehggabhjpiclaaJEqH2
import Derived.Test.YtehggabhjpiclaaMgO
/- The law of MessageSize: its walk. -/
namespace Go.Proofs.Ytehggabhjpiclaa
open Go.RowKit
set_option linter.unusedVariables false

theorem msum_small {m : Mg} (h : msum m ≤ 1048576) : MSmall m := by
  unfold msum at h
  refine ⟨fun r hr => ?_, fun r hr => ?_, fun r hr => ?_, fun r hr => ?_, by omega, by omega, by omega, by omega⟩
  · have := qsum_mem m.qs r hr; omega
  · have := rsum_mem m.an r hr; omega
  · have := rsum_mem m.au r hr; omega
  · have := rsum_mem m.ex r hr; omega

set_option maxRecDepth 100000 in
set_option maxHeartbeats 3200000 in
theorem fnExactMessageSize_walk (m : Mg) (q a u x : Value) (w : World) (h : MRow w m q a u x) (hx : MFit m) :
    Calls Try.prog 3 #[.agg (mgV m.hd q a u x)] w fun e w' => e = .returned (.bool true) ∧ Below w.heap.size w w' := by
  have kb := blk_new w (mgV m.hd q a u x) 27
  have hB0 := (Below.refl w.heap.size w).alloc (Nat.le_refl _) (.cells (mgV m.hd q a u x) 27)
  have hsz := szMessage_any m q a u x 1048576 _ (h.below hB0) hx (by decide) (by decide)
  have hz1 : (w.alloc (.cells (mgV m.hd q a u x) 27)).heap.size = w.heap.size + 1 := by simp
  by_cases hb : (msum m : Int) ≤ 1048576
  · have e1 : szM m 1048576 = 1048576 - msum m := if_pos hb
    rw [e1] at hsz
    have hms : msum m ≤ 1048576 := by omega
    have hsm := msum_small hms
    have hnn : 0 ≤ 1048576 - (msum m : Int) := by omega
    generalize (1048576 - (msum m : Int)) = L at *
    have hto := fun (W : World) (hW : Below w.heap.size w W) => toMessage_any m q a u x W ⟨h.rq.below hW, h.ra.below hW, h.ru.below hW, h.rx.below hW⟩ hms
    have hsp := fun (q' a' u' x' : Value) (W : World) (hr : MRow W m q' a' u' x') => specMessageSize_any m q' a' u' x' W hr hsm
    have him := fun (q' a' u' x' : Value) (W : World) (hr : MRow W m q' a' u' x') => implMessageSize_any m q' a' u' x' W hr hsm
    have heq := fun (q1 a1 u1 x1 q2 a2 u2 x2 : Value) (W : World) (h1 : MRow W m q1 a1 u1 x1) (h2 : MRow W m q2 a2 u2 x2) => eqMessageG_any m q1 a1 u1 x1 q2 a2 u2 x2 W h1 h2
    have hsl := fun (W : World) (B : Nat) (q' a' u' x' : Value) (ho : MOwn W B m q' a' u' x') => (⟨own_sl ho.rq, own_sl ho.ra, own_sl ho.ru, own_sl ho.rx⟩ : (∃ b c, q' = .slice b m.qs.length c) ∧ (∃ b c, a' = .slice b m.an.length c) ∧ (∃ b c, u' = .slice b m.au.length c) ∧ (∃ b c, x' = .slice b m.ex.length c))
    obtain ⟨_, qa, qc, rfl, _⟩ := h.rq
    obtain ⟨_, aa, ac, rfl, _⟩ := h.ra
    obtain ⟨_, ua, uc, rfl, _⟩ := h.ru
    obtain ⟨_, xa, xc, rfl, _⟩ := h.rx
    clear hb hms hsm hx h e1
    generalize (msN m : Int) = N at *
    generalize (msC m : Int) = C at *
    have hNn : (N != N) = false := by simp
    have hCn : (C != C) = false := by simp
    obtain ⟨⟨i0, b1, i2, b3, b4, b5, b6, b7, b8, b9, i10⟩, qs, an, au, ex⟩ := m
    simp only [mgV] at *
    go_enter Try.func3, Try.ntmps3
    go_wp2_with fail
    refine hsz.mono ?_
    rintro e w1 ⟨rfl, hb1⟩
    have z1 := blk_below kb hb1
    have c1 := Nm.below_two hB0 hb1
    have rr := fun i => blk_cell z1 i
    clear hsz kb hb1
    go_wp2_with fail
    refine (hto _ c1).mono ?_
    rintro e w2 ⟨q2, a2, u2, x2, rfl, ho2, hb2⟩
    have z2 := blk_below z1 hb2
    have c2 := Nm.below_two c1 hb2
    clear rr z1
    go_wp2_with fail
    refine (hsp _ _ _ _ _ ho2.read).mono ?_
    rintro e w3 ⟨rfl, hb3⟩
    have z3 := blk_below z2 hb3
    have c3 := Nm.below_two c2 hb3
    have rr := fun i => blk_cell z3 i
    clear z2 ho2
    go_wp2_with fail
    refine (hto _ c3).mono ?_
    rintro e w4 ⟨q4, a4, u4, x4, rfl, ho4, hb4⟩
    have z4 := blk_below z3 hb4
    have c4 := Nm.below_two c3 hb4
    obtain ⟨⟨s1, t1, rfl⟩, ⟨s2, t2, rfl⟩, ⟨s3, t3, rfl⟩, ⟨s4, t4, rfl⟩⟩ := hsl _ _ _ _ _ _ ho4
    have hbA := (Below.refl w4.heap.size w4).alloc (Nat.le_refl _) (.cells #[.int .i64 i0, .bool b1, .int .i64 i2, .bool b3, .bool b4, .bool b5, .bool b6, .bool b7, .bool b8, .bool b9, .int .i64 i10, .slice s1 qs.length t1, .slice s2 an.length t2, .slice s3 au.length t3, .slice s4 ex.length t4] 35)
    have x4 := blk_new w4 #[.int .i64 i0, .bool b1, .int .i64 i2, .bool b3, .bool b4, .bool b5, .bool b6, .bool b7, .bool b8, .bool b9, .int .i64 i10, .slice s1 qs.length t1, .slice s2 an.length t2, .slice s3 au.length t3, .slice s4 ex.length t4] 35
    clear rr z3
    go_wp2_with fail
    refine (him _ _ _ _ _ (ho4.below hbA).read).mono ?_
    rintro e w5 ⟨rfl, hb5⟩
    have z5 := blk_below (blk_below z4 hbA) hb5
    have x5 := blk_below x4 hb5
    have c5 := Nm.below_two c4 (Nm.below_two hbA hb5)
    have ho5 := ho4.below (Nm.below_two hbA hb5)
    clear z4 x4 c4 hbA hb5 ho4
    go_wp2
    refine wp_region_held_drew (S := fun W => Blk W w.heap.size #[.int .i64 i0, .bool b1, .int .i64 i2, .bool b3, .bool b4, .bool b5, .bool b6, .bool b7, .bool b8, .bool b9, .int .i64 i10, .slice qa qs.length qc, .slice aa an.length ac, .slice ua au.length uc, .slice xa ex.length xc] 27 ∧ Blk W w4.heap.size #[.int .i64 i0, .bool b1, .int .i64 i2, .bool b3, .bool b4, .bool b5, .bool b6, .bool b7, .bool b8, .bool b9, .int .i64 i10, .slice s1 qs.length t1, .slice s2 an.length t2, .slice s3 au.length t3, .slice s4 ex.length t4] 35) (by kernel_rfl) ⟨blk_below z5 (Below.refl _ _).drew, blk_below x5 (Below.refl _ _).drew⟩ (fun hHeld => ?_)
    refine wpAnyH_take (i := 0) (v := .agg #[.int .i64 i0, .bool b1, .int .i64 i2, .bool b3, .bool b4, .bool b5, .bool b6, .bool b7, .bool b8, .bool b9, .int .i64 i10, .slice s1 qs.length t1, .slice s2 an.length t2, .slice s3 au.length t3, .slice s4 ex.length t4]) rfl (by kernel_rfl) (by kernel_rfl) (by kernel_rfl) (fun _ _ _ h => h) (Or.inl ⟨by rfl, ?_⟩) (by assumption) ?_
    · rintro W ⟨k1, k2⟩
      have rr := fun i => blk_cell k2 i
      go_simp
    refine wpAnyH_take (i := 1) (v := .agg #[.int .i64 i0, .bool b1, .int .i64 i2, .bool b3, .bool b4, .bool b5, .bool b6, .bool b7, .bool b8, .bool b9, .int .i64 i10, .slice qa qs.length qc, .slice aa an.length ac, .slice ua au.length uc, .slice xa ex.length xc]) rfl (by kernel_rfl) (by kernel_rfl) (by kernel_rfl) (fun _ _ _ h => h) (Or.inl ⟨by rfl, ?_⟩) (by assumption) ?_
    · rintro W ⟨k1, k2⟩
      have rr := fun i => blk_cell k1 i
      go_simp
    refine wpAnyH_ready (rs := [2]) (by kernel_rfl) (by simp) ?_
    refine AllReadyH.cons rfl (fun K hK => ?_) AllReadyH.nil
    go_simp
    refine (hto _ (Nm.below_two c5 (Below.refl _ _).drew)).mono ?_
    rintro e w7 ⟨q7, a7, u7, x7, rfl, ho7, hb7⟩
    go_wp2_with fail
    have hb57 : Below w5.heap.size w5 w7 := Nm.below_two (Below.refl _ _).drew hb7
    have c7 := Nm.below_two c5 hb57
    refine hK.out _ _ ⟨blk_below z5 hb57, blk_below x5 hb57⟩ (fun _ => ?_)
    clear hK K
    refine wpAnyH_ready (rs := [3]) (by kernel_rfl) (by simp) ?_
    refine AllReadyH.cons rfl (fun K hK => ?_) AllReadyH.nil
    go_simp
    refine (heq _ _ _ _ _ _ _ _ _ (ho5.below hb57).read ho7.read).mono ?_
    rintro e w8 ⟨rfl, hb8⟩
    go_wp2_with fail
    have hb58 := Nm.below_two hb57 hb8
    have c8 := Nm.below_two c7 hb8
    refine hK.out _ _ ⟨blk_below z5 hb58, blk_below x5 hb58⟩ (fun _ => ?_)
    clear hK K
    refine wpAnyH_take (i := 4) (v := .bool false) rfl (by kernel_rfl) (by kernel_rfl) (by kernel_rfl) (fun _ _ _ h => h) (Or.inl ⟨by rfl, ?_⟩) (by assumption) ?_
    · rintro W ⟨k1, k2⟩
      go_simp
    refine wpAnyH_done (by kernel_rfl) ?_ _
    go_wp2
    go_ret
    exact ⟨rfl, c8⟩
  · have e1 : szM m 1048576 = -1 := if_neg hb
    rw [e1] at hsz
    obtain ⟨_, qa, qc, rfl, _⟩ := h.rq
    obtain ⟨_, aa, ac, rfl, _⟩ := h.ra
    obtain ⟨_, ua, uc, rfl, _⟩ := h.ru
    obtain ⟨_, xa, xc, rfl, _⟩ := h.rx
    clear hb e1 hx h
    obtain ⟨⟨i0, b1, i2, b3, b4, b5, b6, b7, b8, b9, i10⟩, qs, an, au, ex⟩ := m
    simp only [mgV] at *
    go_enter Try.func3, Try.ntmps3
    go_wp2_with fail
    refine hsz.mono ?_
    rintro e w1 ⟨rfl, b1⟩
    go_wp2
    go_ret
    exact ⟨rfl, Nm.below_two hB0 b1⟩
end Go.Proofs.Ytehggabhjpiclaa
