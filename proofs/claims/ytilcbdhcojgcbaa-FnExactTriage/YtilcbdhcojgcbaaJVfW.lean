import Derived.Test.YtilcbdhcojgcbaaJVfU
import Derived.Test.YtilcbdhcojgcbaaVfZ
import Derived.Test.YtilcbdhcojgcbaaJMath
import Derived.RegionTactic
import Derived.BigRegion
import Derived.Test.YtilcbdhcojgcbaaJICp
/- spec.Verify by its contract: a last record that is no signature. -/
namespace Go.Proofs.Ytilcbdhcojgcbaa
open Go.RowKit
set_option linter.unusedVariables false

set_option maxRecDepth 100000 in
set_option maxHeartbeats 3200000 in
theorem specVerify_other (v vk : Value) (l : List UInt8) (ks : List (ByteArray × ByteArray)) (now : Int) (rq : ByteArray) (w : World) (h : BySl w v l) (hl : l.length ≤ 1048576) (hk : CRow w vk ks.length 2 (kyVs ks)) (hkx : ∀ x ∈ ks, x.1.size ≤ maxLen)
    (hC0 : (msO l).c = 0) (hlen : (msO l).m.an.length ≤ 400 ∧ (msO l).m.au.length ≤ 400 ∧ (msO l).m.ex.length ≤ 400) (h8 : ks.length ≤ 8) (hn : (decide (0 ≤ now) && decide (now ≤ 281474976710655)) = true) (hr : rq.size ≤ 32) (hst : strayB (msO l).m = false) (hgk : ks.all (fun p => keyB p.1 p.2) = true)
    (r : Rm) (n : Nat) (hx0 : (msO l).m.ex.length = n + 1) (hxr : (msO l).m.ex[n]? = some r) (hty : r.ty ≠ 250) :
    Calls Try.prog 11 #[v, vk, .int .i64 now, .string rq] w (SPost (vdU l) w) := by
  have hn4 : n + 1 ≤ 400 := by have := hlen.2.2; omega
  have k0 := blk_alloc (blk_new w vdZ 44) (.cells vdF 44)
  have kf := blk_new (w.alloc (.cells vdZ 44)) vdF 44
  rw [World.size_alloc] at kf
  have hB0 := (Below.refl w.heap.size w).alloc (Nat.le_refl _) (.cells vdZ 44)
  have hB0 := hB0.alloc hB0.size (.cells vdF 44)
  have hde := l04Read_one v l _ (h.below hB0) (by omega)
  have hin := fun W => l04In_any now 281474976710655 W
  obtain ⟨av, cv, rfl⟩ : ∃ a c, v = .slice a l.length c := by obtain ⟨_, a, c, e, _⟩ := h; exact ⟨a, c, e⟩
  obtain ⟨ak, ck, rfl⟩ : ∃ a c, vk = .slice a ks.length c := by obtain ⟨_, a, c, e, _⟩ := hk; exact ⟨a, c, e⟩
  simp only [vdZ, vdF] at hde k0 kf hB0
  go_enter Try.func11, Try.ntmps11
  go_wp2_with fail
  refine hde.mono ?_
  rintro e w1 ⟨b1, q, x, y, z, nl, rfl, L1⟩
  obtain ⟨x1, y1, rfl⟩ := row_val L1.rq
  obtain ⟨x2, y2, rfl⟩ := row_val L1.ra
  obtain ⟨x3, y3, rfl⟩ := row_val L1.ru
  obtain ⟨x4, y4, rfl⟩ := row_val L1.rx
  have k1 := blk_below k0 b1
  have kf1 := blk_below kf b1
  have hB1 := Nm.below_two hB0 b1
  have hs1 : w.heap.size + 1 < w1.heap.size := blk_lt kf1
  clear hde k0 hB0 b1 kf
  obtain ⟨MS, eMS⟩ : ∃ M, M = msA (msO l).d (msO l).f (.slice x1 (msO l).m.qs.length y1) (.slice x2 (msO l).m.an.length y2) (.slice x3 (msO l).m.au.length y3) (.slice x4 (msO l).m.ex.length y4) := ⟨_, rfl⟩
  have hMz : MS.size = 15 := by rw [eMS]; rfl
  have hM1 : MS.all (·.oneCell') = true := by rw [eMS]; exact msA_one _ _ _ _ _ _ _ _ _ _ _ _ _ _
  have hMi : (Try.prog.info? 35).map (·.size) = some MS.size := by rw [hMz]; kernel_rfl
  have HMz := Nm.hide hMz
  have HMi := Nm.hide hMi
  have kA := blk_alloc k1 (.cells ms0 35)
  have kfA := blk_alloc kf1 (.cells ms0 35)
  have hBA := hB1.alloc hB1.size (.cells ms0 35)
  have hsA : w.heap.size ≤ (w1.alloc (.cells ms0 35)).heap.size := hBA.size
  simp only [ms0] at kA hBA hsA kfA
  rw [← eMS]
  clear hMz
  have hsv := fun W (hW : Below w1.heap.size w1 W) => l09Stray_any (msO l).d (msO l).f (msO l).m _ _ _ _ W (L1.rd.below hW) hlen
  rw [← eMS, hst] at hsv
  rw [hC0]
  rw [hn] at hin
  have h8' : ¬ (8 : Int) < (ks.length : Int) := by omega
  have h3' : ¬ (32 : Int) < (rq.size : Int) := by omega
  have HL1 := Nm.hide L1
  have HMS := Nm.hide eMS
  clear eMS L1 hlen hC0 hst hn hr
  go_wp2_with (first
    | (refine wpList_store_blk (.tmp 10) (.tmp 26) 35 rfl rfl rfl w1.heap.size _ _ (blk_new _ _ _) rfl rfl hMi (by rw [HMz.out]; rfl) hM1 ?_; intro w2 k2 o2; have k02 := o2.blk kA (by omega); have kf2 := o2.blk kfA (by omega); have hB2 := o2.below hBA (by omega) hsA; have b2 := o2.below ((Below.refl w1.heap.size w1).alloc (Nat.le_refl _) _) (Nat.le_refl _) (by rw [World.size_alloc]; omega); clear o2 kA kfA hBA hsA hMi hM1)
    | (go_at_call 18; refine (hin _).mono ?_; rintro e wf ⟨rfl, hw⟩; obtain rfl := hw.symm; clear hw)
    | (go_at_call 19; refine (hsv _ b2).mono ?_; rintro e w3 ⟨rfl, b3⟩; have hS3 : VKt w w3 w1.heap.size MS (msO l).m (.slice x1 (msO l).m.qs.length y1) (.slice x2 (msO l).m.an.length y2) (.slice x3 (msO l).m.au.length y3) (.slice x4 (msO l).m.ex.length y4) := ⟨blk_below k02 b3, blk_below kf2 b3, blk_below k2 b3, HL1.out.rd.below (Nm.below_two b2 b3), Nm.below_two hB2 b3⟩; clear k02 kf2 hB2 b2 b3 k2 hsv)
    | (refine wpList_load_want (.tmp 10) 35 (by first | rfl | (simp [Region.wanted, yielded]; omega)) rfl w1.heap.size _ _ k2 rfl Try.underlying35 rfl HMi.out ?_))
  go_loopw [13] (fun i wr => ∃ k : Nat, k ≤ ks.length ∧ i = .int .i64 k ∧ VKt w wr w1.heap.size MS (msO l).m (.slice x1 (msO l).m.qs.length y1) (.slice x2 (msO l).m.an.length y2) (.slice x3 (msO l).m.au.length y3) (.slice x4 (msO l).m.ex.length y4)) (fun i _ => ks.length - (intOf i).toNat)
  case atStart => exact ⟨0, Nat.zero_le _, rfl, hS3⟩
  case round =>
    clear hS3
    obtain ⟨k, hkl, rfl, hS⟩ := hrel
    by_cases hlt : k < ks.length
    · obtain ⟨x, hxk⟩ : ∃ x, ks[k]? = some x := ⟨_, List.getElem?_eq_getElem hlt⟩
      obtain ⟨_, a', c', e', hcap, hmx, hcc⟩ := hk
      cases e'
      obtain ⟨b, off, rfl, hcell⟩ := hcc (by omega)
      have put : ∀ {O : Nat} {z : Value}, w.cell? ⟨b, O, none⟩ = some z → wr.cell? ⟨b, O, none⟩ = some z := fun h => (hS.be.cell (World.block_lt_of_cell? w _ h)).trans h
      have c0 : wr.cell? ⟨b, off + k * 2, none⟩ = some (.string x.1) := put (hcell _ _ (kyVs_at ks k 0 x hxk (by decide)))
      have c1 : wr.cell? ⟨b, off + k * 2 + 1, none⟩ = some (.string x.2) := put (hcell _ _ (kyVs_at ks k 1 x hxk (by decide)))
      have hmem := List.mem_of_getElem? hxk
      have i1 : (0 : Int) ≤ (k : Int) := by omega
      have i2 : (k : Int) < (ks.length : Int) := by omega
      have hone := fun W => l09KeyOK_any x.1 x.2 W (hkx x hmem)
      have hok : keyB x.1 x.2 = true := by
        rw [List.all_eq_true] at hgk
        exact hgk x hmem
      rw [hok] at hone
      clear hok hmem hxk hcell hcc put hgk
      obtain ⟨y1', y2'⟩ := x
      simp only at *
      go_wp2_with fail
      refine (hone _).mono ?_
      rintro e w4 ⟨rfl, b4⟩
      have hS4 := hS.below b4
      clear hS b4 c0 c1
      go_wp2
      go_roundw
      case rel => exact ⟨k + 1, by omega, by go_num, hS4⟩
      case measure => simp [intOf]; omega
    · have hkl2 : k = ks.length := by omega
      subst hkl2
      have i2 : ¬ (ks.length : Int) < (ks.length : Int) := by omega
      have hAl := (Below.refl wr.heap.size wr).alloc (Nat.le_refl _) (.cells #[.int .i64 0, .bool false, .int .i64 (-1), .string ⟨#[]⟩, .slice none 0 0] 44)
      have hS1 := hS.below hAl
      have kV := blk_new wr #[.int .i64 0, .bool false, .int .i64 (-1), .string ⟨#[]⟩, .slice none 0 0] 44
      have cM := (blk_cell hS1.kM 14).trans (by rw [HMS.out]; rfl : MS[14]? = some (.slice x4 (msO l).m.ex.length y4))
      rw [hx0] at cM
      obtain ⟨_, a', c', e', hcap, hmx, hcc⟩ := hS1.rd.rx
      cases e'
      obtain ⟨b, off, rfl, hcell⟩ := hcc (by omega)
      have t1 := hcell _ _ (rrCs_at _ n 1 r hxr (by decide))
      have t1 : (wr.alloc (.cells #[.int .i64 0, .bool false, .int .i64 (-1), .string ⟨#[]⟩, .slice none 0 0] 44)).cell? ⟨b, off + n * 5 + 1, none⟩ = some (.int .i64 (r.ty : Int)) := t1
      have hwI : IntKind.i64.wrap (((n + 1 : Nat) : Int) - 1) = (n : Int) := by rw [Go.wrap_small _ (by omega) (by omega)]; omega
      have j1 : (0 : Int) ≤ (n : Int) := by omega
      have j2 : (n : Int) < ((n + 1 : Nat) : Int) := by omega
      have j3 : (((n + 1 : Nat) : Int) == 0) = false := by simp; omega
      have j4 : ((r.ty : Int) == 250) = false := by simp; omega
      generalize eN : n + 1 = N at *
      have HN := Nm.hide eN
      have HTY := Nm.hide hty
      clear eN hty hx0 hxr hcell hcc
      obtain ⟨X, eX⟩ : ∃ X : ByteArray, X = ⟨l.toArray⟩ := ⟨_, rfl⟩
      have hcv := fun W (hW : Below w.heap.size w W) => row_strB (h.below hW)
      rw [← eX] at hcv
      have hcv1 := hcv _ hS1.be
      obtain ⟨v7, w7, r7, f7, b7⟩ := FRow.new X (wr.alloc (.cells #[.int .i64 0, .bool false, .int .i64 (-1), .string ⟨#[]⟩, .slice none 0 0] 44)) (by rw [eX, ba_size]; omega)
      have hXl : X.data.toList = l := by rw [eX]
      rw [hXl] at f7
      have hS7 := hS1.below b7
      have kV7 := blk_below kV b7
      have rV := fun i => blk_cell kV7 i
      have fV := fun i => blk_frozen kV7 i
      have hg8 : w.heap.size < wr.heap.size := blk_lt hS.k8
      obtain ⟨xb, yb, rfl⟩ : ∃ a c, v7 = .slice a l.length c := by obtain ⟨g, cap, e, _⟩ := f7; exact ⟨_, _, e⟩
      have kV8 := blk_set kV7 4 (.slice xb l.length yb)
      have k88 : Blk (w7.setCell ⟨wr.heap.size, 4, none⟩ (.slice xb l.length yb)) w.heap.size vdZ 44 := blk_far hS7.k8 (by omega)
      have o8 : Only wr.heap.size w7 (w7.setCell ⟨wr.heap.size, 4, none⟩ (.slice xb l.length yb)) := (Only.refl _ _).set
      have hB8 := o8.below hS7.be (by omega) hS7.be.size
      have f8 := f7.only o8 (by rw [World.size_alloc]; omega)
      simp only [List.setIfInBounds_toArray, List.set_cons_zero, List.set_cons_succ] at kV8
      have k89 : Blk (w7.setCell ⟨wr.heap.size, 4, none⟩ (.slice xb l.length yb)) w.heap.size #[.int .i64 0, .bool false, .int .i64 0, .string ByteArray.empty, .slice none 0 0] 44 := k88
      have r88 := fun i => blk_cell k89 i
      have f88 := fun i => blk_frozen k89 i
      have HZ := Nm.hide (And.intro (blk_set (blk_set (blk_set (blk_set (blk_set k89 0 (.int .i64 0)) 1 (.bool false)) 2 (.int .i64 (-1))) 3 (.string ⟨#[]⟩)) 4 (.slice xb l.length yb)) (Only.set (v := .slice xb l.length yb) (i := 4) (Only.set (v := .string ⟨#[]⟩) (i := 3) (Only.set (v := .int .i64 (-1)) (i := 2) (Only.set (v := .bool false) (i := 1) (Only.set (v := .int .i64 0) (i := 0) (Only.refl w.heap.size (w7.setCell ⟨wr.heap.size, 4, none⟩ (.slice xb l.length yb)))))))))
      simp only [List.setIfInBounds_toArray, List.set_cons_zero, List.set_cons_succ] at HZ
      have HF8 := Nm.hide f8
      have HB8 := Nm.hide hB8
      clear h hk hS hS1 hS7 hAl kV kV7 o8 b7 hcv hXl eX hkx f7 hgk k88 k89 f8 hB8 kV8
      go_wp2
      exact vq_back HZ.out.1 (HZ.out.2.below HB8.out (Nat.le_refl _) HB8.out.size) rfl rfl rfl (free_by (HF8.out.only HZ.out.2 (by rw [World.size_alloc]; omega)))
end Go.Proofs.Ytilcbdhcojgcbaa
/- spec.Verify by its contract: all of it. -/
namespace Go.Proofs.Ytilcbdhcojgcbaa
open Go.RowKit
set_option linter.unusedVariables false

theorem rrS_dl {l : List UInt8} {p q : Nat} {r : Rm} (h : rrS l p = .ok r q) (ht : r.ty = 250) : r.dat.length ≤ 65535 := by
  rw [rrS] at h
  cases hd : dnF l p p [] none using Rs.elim with
  | bad c => rw [hd] at h; cases h
  | ok s nx =>
    rw [hd] at h
    simp only at h
    split at h
    · split at h
      · cases he : dataS l (n16 l nx) (nx + 10) (nx + 10 + n16 l (nx + 8)) using Rs.elim with
        | bad c => rw [he] at h; cases h
        | ok d q' =>
          rw [he] at h
          simp only at h
          cases h
          simp only at ht ⊢
          rw [ht, dataS] at he
          have hn := n16_lt l (nx + 8)
          split at he
          · cases he
            simp
          · split at he
            · rename_i hp
              exact absurd hp (by decide)
            · split at he
              · cases he
                simp [cutL]
                omega
              · cases he
      · cases h
    · cases h

theorem manyS_pen {α : Type} (f : Nat → Rs α) : ∀ (n p : Nat) (acc : List α) {ys : List α} {e : Nat}, manyS f (n + 1) p acc = .ok ys e → ∃ (xs : List α) (q : Nat) (x : α), manyS f n p acc = .ok xs q ∧ f q = .ok x e := by
  intro n
  induction n with
  | zero =>
    intro p acc ys e h
    rw [manyS] at h
    cases hf : f p using Rs.elim with
    | bad c => rw [hf] at h; cases h
    | ok y r =>
      rw [hf] at h
      simp only at h
      rw [manyS] at h
      cases h
      exact ⟨acc, p, y, rfl, hf⟩
  | succ n ih =>
    intro p acc ys e h
    rw [manyS] at h
    cases hf : f p using Rs.elim with
    | bad c => rw [hf] at h; cases h
    | ok y r =>
      rw [hf] at h
      simp only at h
      obtain ⟨xs, q, x, h1, h2⟩ := ih r _ h
      exact ⟨xs, q, x, by rw [manyS, hf]; exact h1, h2⟩

theorem last_le {l : List UInt8} {m : Mm} {p : Nat} (h : msgS l = .ok m p) : (∀ r ∈ m.ex, r.ty = 250 → r.dat.length ≤ 65535) ∧ (0 < m.ex.length → 12 ≤ lastP l ∧ lastP l ≤ l.length) := by
  have hls := msgS_lens h
  obtain ⟨_, hlast⟩ := last_rec h
  rw [msgS] at h
  split at h
  · cases h
  split at h
  · cases h
  split at h
  · cases h
  rw [listsS] at h
  cases h1 : manyS (quS l) (n16 l 4) 12 [] using Rs.elim with
  | bad c => rw [h1] at h; cases h
  | ok qs p1 =>
    rw [h1] at h
    simp only at h
    cases h2 : manyS (rrS l) (n16 l 6) p1 [] using Rs.elim with
    | bad c => rw [h2] at h; cases h
    | ok an p2 =>
      rw [h2] at h
      simp only at h
      cases h3 : manyS (rrS l) (n16 l 8) p2 [] using Rs.elim with
      | bad c => rw [h3] at h; cases h
      | ok au p3 =>
        rw [h3] at h
        simp only at h
        cases h4 : manyS (rrS l) (n16 l 10) p3 [] using Rs.elim with
        | bad c => rw [h4] at h; cases h
        | ok ex p4 =>
          rw [h4] at h
          simp only at h
          split at h
          · cases h
          · cases h
            refine ⟨manyS_all (P := fun r => r.ty = 250 → r.dat.length ≤ 65535) (fun p x e hx => rrS_dl hx) _ _ _ (by simp) h4, fun hpos => ?_⟩
            obtain ⟨qs', P1, xs, hq, hr⟩ := hlast hpos
            refine ⟨last_ge hq hr, ?_⟩
            have hall := manyS_cat _ _ _ _ _ (manyS_cat _ _ _ _ _ h2 h3) h4
            have hn : 0 < n16 l 10 := by have := hls.2.2.1; omega
            obtain ⟨t, ht⟩ : ∃ t, n16 l 6 + n16 l 8 + n16 l 10 = t + 1 := ⟨n16 l 6 + n16 l 8 + n16 l 10 - 1, by omega⟩
            rw [ht] at hall
            obtain ⟨xs2, q, x, hx, hx2⟩ := manyS_pen _ _ _ _ hall
            have ht2 : n16 l 6 + n16 l 8 + n16 l 10 - 1 = t := by omega
            have : lastP l = q := by rw [lastP, h1]; simp only; rw [ht2, hx]
            rw [this]
            exact Nat.le_trans (rrS_ge hx2) (rrS_place hx2)

theorem specVerify_any (v vk : Value) (l : List UInt8) (ks : List (ByteArray × ByteArray)) (now : Int) (rq : ByteArray) (w : World) (h : BySl w v l) (hl : l.length ≤ 1048576) (hk : CRow w vk ks.length 2 (kyVs ks)) (hkx : ∀ x ∈ ks, x.1.size ≤ maxLen) :
    Calls Try.prog 11 #[v, vk, .int .i64 now, .string rq] w (SPost (verL l ks now rq) w) := by
  cases hm : msgS l using Rs.elim with
  | bad c =>
    have e : verL l ks now rq = vd0 := by rw [verL, hm]
    rw [e]
    exact (specVerify_bad v vk l ks now rq w h hl hk (.inl (by rw [msO, hm]; exact code_bad hm))).mono fun _ _ h => SPost.of h
  | ok m p =>
    have hO : msO l = ⟨n16 l 0, n16 l 2, m, 0⟩ := by rw [msO, hm]
    obtain ⟨e1, e2, e3, e4, e5, e6⟩ := msgS_lens hm
    have hC0 : (msO l).c = 0 := by rw [hO]
    have hmm : (msO l).m = m := by rw [hO]
    have hlen : (msO l).m.an.length ≤ 400 ∧ (msO l).m.au.length ≤ 400 ∧ (msO l).m.ex.length ≤ 400 := by rw [hmm]; exact ⟨by omega, by omega, by omega⟩
    cases hb : (decide (ks.length ≤ 8) && ((decide (0 ≤ now) && decide (now ≤ 281474976710655)) && decide (rq.size ≤ 32))) with
    | false =>
      have hpre : vPre ks now rq = false := by
        rw [Bool.eq_false_iff]
        intro hp
        simp only [vPre, Bool.and_eq_true, decide_eq_true_eq] at hp
        obtain ⟨p1, p2, p3, p4, _⟩ := hp
        rw [decide_eq_true p1, decide_eq_true p2, decide_eq_true p3, decide_eq_true p4] at hb
        cases hb
      have e : verL l ks now rq = vd0 := by rw [verL, hm]; simp [hpre]
      rw [e]
      exact (specVerify_bad v vk l ks now rq w h hl hk (.inr hb)).mono fun _ _ h => SPost.of h
    | true =>
      simp only [Bool.and_eq_true, decide_eq_true_eq] at hb
      obtain ⟨p1, ⟨p2, p3⟩, p4⟩ := hb
      have hn : (decide (0 ≤ now) && decide (now ≤ 281474976710655)) = true := by rw [decide_eq_true p2, decide_eq_true p3]; rfl
      cases hst : strayB m with
      | true =>
        have e : verL l ks now rq = vd0 := by rw [verL, hm]; simp [verM, hst]
        rw [e]
        exact (specVerify_stray v vk l ks now rq w h hl hk hC0 hlen p1 hn p4 (by rw [hmm]; exact hst)).mono fun _ _ h => SPost.of h
      | false =>
        have hst' : strayB (msO l).m = false := by rw [hmm]; exact hst
        cases hgk : ks.all (fun p => keyB p.1 p.2) with
        | false =>
          have hpre : vPre ks now rq = false := by rw [vPre, hgk]; simp
          have e : verL l ks now rq = vd0 := by rw [verL, hm]; simp [hpre]
          rw [e]
          exact (specVerify_key v vk l ks now rq w h hl hk hkx hC0 hlen p1 hn p4 hst' hgk).mono fun _ _ h => SPost.of h
        | true =>
          have hpre : vPre ks now rq = true := by rw [vPre, hgk, decide_eq_true p1, decide_eq_true p2, decide_eq_true p3, decide_eq_true p4]; rfl
          have e : verL l ks now rq = verM l m ks now rq := by rw [verL, hm]; simp [hpre]
          rw [e, verM, hst]
          simp only [Bool.false_eq_true, if_false]
          cases hx : m.ex.getLast? with
          | none =>
            have hx0 : (msO l).m.ex.length = 0 := by rw [hmm, List.getLast?_eq_none_iff.1 hx]; rfl
            exact specVerify_none v vk l ks now rq w h hl hk hkx hC0 hlen p1 hn p4 hst' hgk hx0
          | some r =>
            have hmem : r ∈ m.ex := List.mem_of_getLast? hx
            have hpos : 0 < m.ex.length := List.length_pos_of_mem hmem
            obtain ⟨n, hn1⟩ : ∃ n, m.ex.length = n + 1 := ⟨m.ex.length - 1, by omega⟩
            have hx0 : (msO l).m.ex.length = n + 1 := by rw [hmm]; exact hn1
            have hxr : (msO l).m.ex[n]? = some r := by
              rw [hmm]
              rw [List.getLast?_eq_getElem?, hn1] at hx
              exact hx
            obtain ⟨hdl, hla⟩ := last_le hm
            simp only
            cases ht : vTs r with
            | false =>
              simp only [Bool.false_eq_true, if_false]
              exact specVerify_other v vk l ks now rq w h hl hk hkx hC0 hlen p1 hn p4 hst' hgk r n hx0 hxr (by simpa [vTs] using ht)
            | true =>
              have hty : r.ty = 250 := by simpa [vTs] using ht
              simp only [if_true]
              cases hd : datB r with
              | false =>
                simp only [Bool.false_eq_true, if_false]
                exact specVerify_data v vk l ks now rq w h hl hk hkx hC0 hlen p1 hn p4 hst' hgk r n hx0 hxr hty (hdl r hmem hty) hd
              | true =>
                simp only [if_true]
                rw [hn1]
                exact specVerify_signed v vk l ks now rq w h hl hk hkx hC0 hlen p1 hn p4 hst' hgk r n hx0 hxr hty (hdl r hmem hty) hd (dat_61 hd) e4 e5 (by have := (last_rec hm).1 r hmem; omega) (hla hpos).1 (hla hpos).2
end Go.Proofs.Ytilcbdhcojgcbaa
/- Options of a message's sender: rows of them; laws.szOption, szOptionS, toOption, toOptionS by their contracts. -/
namespace Go.Proofs.Ytilcbdhcojgcbaa
open Go.RowKit
set_option linter.unusedVariables false

/-- the cells of a row of options -/
def opVs (xs : List (Int × ByteArray)) : List Value := xs.flatMap fun k => [.int .i64 k.1, .string k.2]
theorem opVs_len (xs : List (Int × ByteArray)) : (opVs xs).length = xs.length * 2 := by
  induction xs with
  | nil => rfl
  | cons x xs ih =>
    have e : opVs (x :: xs) = [.int .i64 x.1, .string x.2] ++ opVs xs := by simp [opVs]
    rw [e, List.length_append, ih]
    simp
    omega
theorem opVs_at : ∀ (xs : List (Int × ByteArray)) (k j : Nat) (x : Int × ByteArray), xs[k]? = some x → j < 2 → (opVs xs)[k * 2 + j]? = [Value.int .i64 x.1, .string x.2][j]? := by
  intro xs
  induction xs with
  | nil => intro k j x h; simp at h
  | cons y xs ih =>
    intro k j x h hj
    have e : opVs (y :: xs) = [.int .i64 y.1, .string y.2] ++ opVs xs := by simp [opVs]
    cases k with
    | zero =>
      simp at h; subst h
      rw [e, Nat.zero_mul, Nat.zero_add, List.getElem?_append_left (by simpa using hj)]
    | succ k =>
      simp at h
      rw [e, List.getElem?_append_right (by simp; omega), show (k + 1) * 2 + j - [Value.int .i64 y.1, .string y.2].length = k * 2 + j by simp; omega]
      exact ih k j x h hj

/-- The bytes of options, as the laws count them. -/
def osum : List (Int × ByteArray) → Nat
  | [] => 0
  | x :: xs => x.2.size + osum xs
theorem osum_step : ∀ (xs : List (Int × ByteArray)) (k : Nat) (x : Int × ByteArray), xs[k]? = some x → osum (xs.take (k + 1)) = osum (xs.take k) + (x.2.size) := by
  intro xs
  induction xs with
  | nil => intro k x h; simp at h
  | cons y xs ih =>
    intro k x h
    cases k with
    | zero => simp at h; subst h; simp [osum]
    | succ k =>
      simp at h
      have := ih k x h
      simp only [List.take_succ_cons, osum]; omega
theorem osum_take_le : ∀ (xs : List (Int × ByteArray)) (k : Nat), osum (xs.take k) ≤ osum xs := by
  intro xs
  induction xs with
  | nil => intro k; simp [osum]
  | cons y xs ih =>
    intro k
    cases k with
    | zero => simp [osum]
    | succ k => have := ih k; simp only [List.take_succ_cons, osum]; omega
theorem osum_mem : ∀ (xs : List (Int × ByteArray)) (x : Int × ByteArray), x ∈ xs → x.2.size ≤ osum xs := by
  intro xs
  induction xs with
  | nil => intro x h; simp at h
  | cons y xs ih =>
    intro x h
    rcases List.mem_cons.1 h with rfl | h
    · simp only [osum]; omega
    · have := ih x h; simp only [osum]; omega
def szOS (xs : List (Int × ByteArray)) (L : Int) : Int := if (xs.length : Int) + (osum xs : Int) ≤ L then L - xs.length - osum xs else -1
def szOp (x : Int × ByteArray) (L : Int) : Int := if (x.2.size : Int) ≤ L then L - x.2.size else -1

theorem op_cells {w : World} {xs : List (Int × ByteArray)} {b off k : Nat} {x : Int × ByteArray} (hc : ∀ (i : Nat) (y : Value), (opVs xs)[i]? = some y → w.cell? ⟨b, off + i, none⟩ = some y) (h : xs[k]? = some x) :
    w.cell? ⟨b, off + k * 2, none⟩ = some (.int .i64 x.1) ∧ w.cell? ⟨b, off + k * 2 + 1, none⟩ = some (.string x.2) :=
  ⟨hc (k * 2) _ ((opVs_at xs k 0 x h (by decide)).trans rfl), hc (k * 2 + 1) _ ((opVs_at xs k 1 x h (by decide)).trans rfl)⟩

theorem setO2 {cs : List Value} {k : Nat} {A : List Value} (a b : Value) (hl : k * 2 + 2 ≤ cs.length) (h : cs.take (k * 2) = A) :
    ((cs.set (k * 2) a).set (k * 2 + 1) b).take ((k + 1) * 2) = A ++ [a, b] := by
  have hs : cs = cs.take (k * 2) ++ cs.drop (k * 2) := (List.take_append_drop _ _).symm
  have hdl : 2 ≤ (cs.drop (k * 2)).length := by simp; omega
  have hpl : (cs.take (k * 2)).length = k * 2 := by simp; omega
  rw [h] at hs hpl
  obtain ⟨q, hq⟩ : ∃ q, q = cs.drop (k * 2) := ⟨_, rfl⟩
  rw [← hq] at hs hdl
  match q, hdl with
  | y0 :: y1 :: r, _ =>
    rw [hs]
    simp only [List.set_append, hpl, Nat.lt_irrefl, if_false, Nat.sub_self, show ¬ (k * 2 + 1 < k * 2) by omega, Nat.add_sub_cancel_left]
    simp only [List.set_cons_zero, List.set_cons_succ]
    rw [List.take_append, hpl, show (k + 1) * 2 - k * 2 = 2 by omega, List.take_of_length_le (by omega)]
    rfl

theorem Try.infoOpz : (Try.prog.info? 83).map (fun i => (i.zero, i.size, i.bytes)) = some (some (.agg #[.int .i64 0, .string ByteArray.empty]), 2, 24) := by kernel_rfl

theorem optw_at {w : World} {B e g n cap k : Nat} {cs : List Value} (h : w.ownsRow B e 2 (.slice (some ⟨g, 0, none⟩) n cap) n cs) (hk : k < n) (j : Nat) (hj : j < 2) : ∃ y, w.cell? ⟨g, k * 2 + j, none⟩ = some y := by
  rw [h.cellAt (k * 2 + j) (by omega)]
  have := h.1
  exact ⟨_, List.getElem?_eq_getElem (by omega)⟩
theorem opVs_step {xs : List (Int × ByteArray)} {k : Nat} {x : Int × ByteArray} (hx : xs[k]? = some x) : opVs (xs.take (k + 1)) = opVs (xs.take k) ++ [.int .i64 x.1, .string x.2] := by
  rw [List.take_add_one, hx]
  simp [opVs]

end Go.Proofs.Ytilcbdhcojgcbaa
/- What ReadEdns and EdnsRecord say: mathematics. -/
namespace Go.Proofs.Ytilcbdhcojgcbaa
open Go.RowKit
set_option linter.unusedVariables false

/-- An option that may be told. -/
def optB (o : Int × ByteArray) : Bool := (decide (0 ≤ o.1) && decide (o.1 ≤ 65535)) && decide (o.2.size ≤ 65535)
/-- Its bytes. -/
def optL (o : Int × ByteArray) : List UInt8 := bigL o.1.toNat 2 ++ bigL o.2.size 2 ++ o.2.data.toList
def optsL (xs : List (Int × ByteArray)) : List UInt8 := xs.flatMap optL
def erB (size code flags : Int) (xs : List (Int × ByteArray)) : Bool := (decide (0 ≤ size) && decide (size ≤ 65535)) && ((decide (0 ≤ flags) && decide (flags ≤ 65535)) && ((decide (0 ≤ code) && decide (code ≤ 255)) && (xs.all optB && decide ((optsL xs).length ≤ 65535))))
/-- The record. -/
def erA (size code flags : Int) (xs : List (Int × ByteArray)) : Array Value := #[.string ⟨#[0]⟩, .int .i64 41, .int .i64 size, .int .i64 (code * 16777216 + flags), .string ⟨(optsL xs).toArray⟩]
def erZ : Array Value := #[.string ByteArray.empty, .int .i64 0, .int .i64 0, .int .i64 0, .string ByteArray.empty]

theorem optL_len (o : Int × ByteArray) : (optL o).length = 4 + o.2.size := by
  have : o.2.data.toList.length = o.2.size := by simp
  simp only [optL, List.length_append, big_len, this]
theorem optsL_len : ∀ xs : List (Int × ByteArray), (optsL xs).length = 4 * xs.length + osum xs
  | [] => rfl
  | x :: xs => by
    have ih := optsL_len xs
    have e : optsL (x :: xs) = optL x ++ optsL xs := by simp [optsL]
    rw [e, List.length_append, optL_len, ih, List.length_cons, osum]
    omega
theorem optsL_step {xs : List (Int × ByteArray)} {k : Nat} {x : Int × ByteArray} (h : xs[k]? = some x) : optsL (xs.take (k + 1)) = optsL (xs.take k) ++ optL x := by
  rw [List.take_add_one, h]
  simp [optsL]
theorem opt_all {xs : List (Int × ByteArray)} {k : Nat} {x : Int × ByteArray} (h : xs[k]? = some x) : (xs.take (k + 1)).all optB = ((xs.take k).all optB && optB x) := by
  rw [List.take_add_one, h]
  simp

/-- Options cut: so many that are read, the rest. -/
def optA : Nat → List (Int × ByteArray) → List UInt8 → Option (List (Int × ByteArray))
  | 0, _, _ => none
  | f + 1, acc, l => if l = [] then some acc else if l.length < 4 ∨ l.length < 4 + numL ((l.drop 2).take 2) then none else optA f (acc ++ [((numL (l.take 2) : Int), ⟨((l.drop 4).take (numL ((l.drop 2).take 2))).toArray⟩)]) (l.drop (4 + numL ((l.drop 2).take 2)))
def optR (l : List UInt8) : Option (List (Int × ByteArray)) := optA (l.length + 1) [] l
theorem optA_nil {f : Nat} {acc : List (Int × ByteArray)} : optA (f + 1) acc [] = some acc := by rw [optA, if_pos rfl]
theorem optA_bad {f : Nat} {acc : List (Int × ByteArray)} {l : List UInt8} (h : l ≠ []) (hb : l.length < 4 ∨ l.length < 4 + numL ((l.drop 2).take 2)) : optA (f + 1) acc l = none := by rw [optA, if_neg h, if_pos hb]
theorem optA_step {f : Nat} {acc : List (Int × ByteArray)} {l : List UInt8} (h : l ≠ []) (hb : ¬ (l.length < 4 ∨ l.length < 4 + numL ((l.drop 2).take 2))) : optA (f + 1) acc l = optA f (acc ++ [((numL (l.take 2) : Int), ⟨((l.drop 4).take (numL ((l.drop 2).take 2))).toArray⟩)]) (l.drop (4 + numL ((l.drop 2).take 2))) := by rw [optA, if_neg h, if_neg hb]
end Go.Proofs.Ytilcbdhcojgcbaa
/- Records as they come in: mathematics. -/
namespace Go.Proofs.Ytilcbdhcojgcbaa
open Go.RowKit
set_option linter.unusedVariables false

/-- A record: its owner, type, class, time and data. -/
structure Rr where
  own : ByteArray
  ty : Int
  cl : Int
  tt : Int
  da : ByteArray

def rvV (r : Rr) : List Value := [.string r.own, .int .i64 r.ty, .int .i64 r.cl, .int .i64 r.tt, .string r.da]
def rvVs (xs : List Rr) : List Value := xs.flatMap rvV
theorem rvVs_cons (x : Rr) (xs : List Rr) : rvVs (x :: xs) = rvV x ++ rvVs xs := by simp [rvVs]
theorem rvVs_app (a b : List Rr) : rvVs (a ++ b) = rvVs a ++ rvVs b := by simp [rvVs]
theorem rvVs_len (xs : List Rr) : (rvVs xs).length = xs.length * 5 := by
  induction xs with
  | nil => rfl
  | cons x xs ih =>
    have : (rvV x).length = 5 := rfl
    rw [rvVs_cons, List.length_append, ih, List.length_cons, this]; omega

theorem rvVs_at : ∀ (xs : List Rr) (k j : Nat) (x : Rr), xs[k]? = some x → j < 5 → (rvVs xs)[k * 5 + j]? = (rvV x)[j]? := by
  intro xs
  induction xs with
  | nil => intro k j x h; simp at h
  | cons y xs ih =>
    intro k j x h hj
    have hl : (rvV y).length = 5 := rfl
    cases k with
    | zero =>
      simp at h; subst h
      rw [rvVs_cons, Nat.zero_mul, Nat.zero_add, List.getElem?_append_left (by omega)]
    | succ k =>
      simp at h
      rw [rvVs_cons, List.getElem?_append_right (by omega), hl, show (k + 1) * 5 + j - 5 = k * 5 + j by omega]
      exact ih k j x h hj

theorem rv_cells {w : World} {xs : List Rr} {b off k : Nat} {x : Rr} (hc : ∀ (i : Nat) (y : Value), (rvVs xs)[i]? = some y → w.cell? ⟨b, off + i, none⟩ = some y) (h : xs[k]? = some x) :
    w.cell? ⟨b, off + k * 5, none⟩ = some (.string x.own) ∧ w.cell? ⟨b, off + k * 5 + 1, none⟩ = some (.int .i64 x.ty) ∧ w.cell? ⟨b, off + k * 5 + 2, none⟩ = some (.int .i64 x.cl) ∧ w.cell? ⟨b, off + k * 5 + 3, none⟩ = some (.int .i64 x.tt) ∧ w.cell? ⟨b, off + k * 5 + 4, none⟩ = some (.string x.da) :=
  ⟨hc (k * 5) _ ((rvVs_at xs k 0 x h (by decide)).trans rfl), hc (k * 5 + 1) _ ((rvVs_at xs k 1 x h (by decide)).trans rfl), hc (k * 5 + 2) _ ((rvVs_at xs k 2 x h (by decide)).trans rfl), hc (k * 5 + 3) _ ((rvVs_at xs k 3 x h (by decide)).trans rfl), hc (k * 5 + 4) _ ((rvVs_at xs k 4 x h (by decide)).trans rfl)⟩

/-- The bytes of records, as the laws count them. -/
def rsum : List Rr → Nat
  | [] => 0
  | x :: xs => x.own.size + x.da.size + rsum xs
theorem rsum_step : ∀ (xs : List Rr) (k : Nat) (x : Rr), xs[k]? = some x → rsum (xs.take (k + 1)) = rsum (xs.take k) + (x.own.size + x.da.size) := by
  intro xs
  induction xs with
  | nil => intro k x h; simp at h
  | cons y xs ih =>
    intro k x h
    cases k with
    | zero => simp at h; subst h; simp [rsum]
    | succ k =>
      simp at h
      have := ih k x h
      simp only [List.take_succ_cons, rsum]; omega
theorem rsum_take_le : ∀ (xs : List Rr) (k : Nat), rsum (xs.take k) ≤ rsum xs := by
  intro xs
  induction xs with
  | nil => intro k; simp [rsum]
  | cons y xs ih =>
    intro k
    cases k with
    | zero => simp [rsum]
    | succ k => have := ih k; simp only [List.take_succ_cons, rsum]; omega
theorem rsum_mem : ∀ (xs : List Rr) (x : Rr), x ∈ xs → x.own.size + x.da.size ≤ rsum xs := by
  intro xs
  induction xs with
  | nil => intro x h; simp at h
  | cons y xs ih =>
    intro x h
    rcases List.mem_cons.1 h with rfl | h
    · simp only [rsum]; omega
    · have := ih x h; simp only [rsum]; omega
def szRS (xs : List Rr) (L : Int) : Int := if (xs.length : Int) + (rsum xs : Int) ≤ L then L - xs.length - rsum xs else -1
end Go.Proofs.Ytilcbdhcojgcbaa
