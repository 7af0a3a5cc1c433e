import Derived.Test.YtfficbpalibmoaaGreatDoorJVfT
import Derived.Test.YtfficbpalibmoaaGreatDoorVfZ
import Derived.Test.YtfficbpalibmoaaGreatDoorJMath
import Derived.Test.YtfficbpalibmoaaGreatDoorRows
import Derived.WalkSpells
import Derived.WalkLawsBesides
import Derived.RegionTactic
import Derived.BigRegion
import Derived.Test.YtfficbpalibmoaaGreatDoorJDcM
import Derived.ChangeAlike
import Derived.Deep.RegionHeld3
import Derived.Test.YtfficbpalibmoaaGreatDoorJCmp
/- spec.Verify by its contract: a last record that is no signature. -/
namespace Go.Proofs.YtfficbpalibmoaaGreatDoor
open Go.RowKit
set_option linter.unusedVariables false

set_option maxRecDepth 100000 in
set_option maxHeartbeats 3200000 in
theorem specVerify_other (v vk : Value) (l : List UInt8) (ks : List (ByteArray × ByteArray)) (now : Int) (rq : ByteArray) (w : World) (h : BySl w v l) (hl : l.length ≤ 1048576) (hk : CRow w vk ks.length 2 (kyVs ks)) (hkx : ∀ x ∈ ks, x.1.size ≤ maxLen)
    (hC0 : (msO l).c = 0) (hlen : (msO l).m.an.length ≤ 400 ∧ (msO l).m.au.length ≤ 400 ∧ (msO l).m.ex.length ≤ 400) (h8 : ks.length ≤ 8) (hn : (decide (0 ≤ now) && decide (now ≤ 281474976710655)) = true) (hr : rq.size ≤ 32) (hst : strayB (msO l).m = false) (hgk : ks.all (fun p => keyB p.1 p.2) = true)
    (r : Rm) (n : Nat) (hx0 : (msO l).m.ex.length = n + 1) (hxr : (msO l).m.ex[n]? = some r) (hty : r.ty ≠ 250) :
    Calls Tryz.prog 5 #[v, vk, .int .i64 now, .string rq] w (SPost (vdU l) w) := by
  have hn4 : n + 1 ≤ 400 := by have := hlen.2.2; omega
  have k0 := blk_alloc (blk_new w vdZ 26) (.cells vdF 26)
  have kf := blk_new (w.alloc (.cells vdZ 26)) vdF 26
  rw [World.size_alloc] at kf
  have hB0 := (Below.refl w.heap.size w).alloc (Nat.le_refl _) (.cells vdZ 26)
  have hB0 := hB0.alloc hB0.size (.cells vdF 26)
  have hde := l04Read_one v l _ (h.below hB0) (by omega)
  have hin := fun W => l04In_any now 281474976710655 W
  obtain ⟨av, cv, rfl⟩ : ∃ a c, v = .slice a l.length c := by obtain ⟨_, a, c, e, _⟩ := h; exact ⟨a, c, e⟩
  obtain ⟨ak, ck, rfl⟩ : ∃ a c, vk = .slice a ks.length c := by obtain ⟨_, a, c, e, _⟩ := hk; exact ⟨a, c, e⟩
  simp only [vdZ, vdF] at hde k0 kf hB0
  go_enter Tryz.func5, Tryz.ntmps5
  go_wp2_with fail
  refine hde.mono ?_
  rintro e w1 ⟨b1, q, x, y, z, nl, rfl, L1⟩
  obtain ⟨x1, y1, rfl⟩ := row_val L1.rq
  obtain ⟨x2, y2, rfl⟩ := row_val L1.ra
  obtain ⟨x3, y3, rfl⟩ := row_val L1.ru
  obtain ⟨x4, y4, rfl⟩ := row_val L1.rx
  have k1 := blk_below k0 b1
  have kf1 := blk_below kf b1
  have hB1 := Nm.below_two hB0 b1
  have hs1 : w.heap.size + 1 < w1.heap.size := blk_lt kf1
  clear hde k0 hB0 b1 kf
  obtain ⟨MS, eMS⟩ : ∃ M, M = msA (msO l).d (msO l).f (.slice x1 (msO l).m.qs.length y1) (.slice x2 (msO l).m.an.length y2) (.slice x3 (msO l).m.au.length y3) (.slice x4 (msO l).m.ex.length y4) := ⟨_, rfl⟩
  have hMz : MS.size = 15 := by rw [eMS]; rfl
  have hM1 : MS.all (·.oneCell') = true := by rw [eMS]; exact msA_one _ _ _ _ _ _ _ _ _ _ _ _ _ _
  have hMi : (Tryz.prog.info? 46).map (·.size) = some MS.size := by rw [hMz]; kernel_rfl
  have HMz := Nm.hide hMz
  have HMi := Nm.hide hMi
  have kA := blk_alloc k1 (.cells ms0 46)
  have kfA := blk_alloc kf1 (.cells ms0 46)
  have hBA := hB1.alloc hB1.size (.cells ms0 46)
  have hsA : w.heap.size ≤ (w1.alloc (.cells ms0 46)).heap.size := hBA.size
  simp only [ms0] at kA hBA hsA kfA
  rw [← eMS]
  clear hMz
  have hsv := fun W (hW : Below w1.heap.size w1 W) => l09Stray_any (msO l).d (msO l).f (msO l).m _ _ _ _ W (L1.rd.below hW) hlen
  rw [← eMS, hst] at hsv
  rw [hC0]
  rw [hn] at hin
  have h8' : ¬ (8 : Int) < (ks.length : Int) := by omega
  have h3' : ¬ (32 : Int) < (rq.size : Int) := by omega
  have HL1 := Nm.hide L1
  have HMS := Nm.hide eMS
  clear eMS L1 hlen hC0 hst hn hr
  go_wp2_with (first
    | (refine wpList_store_blk (.tmp 10) (.tmp 26) 46 rfl rfl rfl w1.heap.size _ _ (blk_new _ _ _) rfl rfl hMi (by rw [HMz.out]; rfl) hM1 ?_; intro w2 k2 o2; have k02 := o2.blk kA (by omega); have kf2 := o2.blk kfA (by omega); have hB2 := o2.below hBA (by omega) hsA; have b2 := o2.below ((Below.refl w1.heap.size w1).alloc (Nat.le_refl _) _) (Nat.le_refl _) (by rw [World.size_alloc]; omega); clear o2 kA kfA hBA hsA hMi hM1)
    | (go_at_call 18; refine (hin _).mono ?_; rintro e wf ⟨rfl, hw⟩; obtain rfl := hw.symm; clear hw)
    | (go_at_call 19; refine (hsv _ b2).mono ?_; rintro e w3 ⟨rfl, b3⟩; have hS3 : VKt w w3 w1.heap.size MS (msO l).m (.slice x1 (msO l).m.qs.length y1) (.slice x2 (msO l).m.an.length y2) (.slice x3 (msO l).m.au.length y3) (.slice x4 (msO l).m.ex.length y4) := ⟨blk_below k02 b3, blk_below kf2 b3, blk_below k2 b3, HL1.out.rd.below (Nm.below_two b2 b3), Nm.below_two hB2 b3⟩; clear k02 kf2 hB2 b2 b3 k2 hsv)
    | (refine wpList_load_want (.tmp 10) 46 (by first | rfl | (simp [Region.wanted, yielded]; omega)) rfl w1.heap.size _ _ k2 rfl Tryz.underlying46 rfl HMi.out ?_))
  go_loopw [13] (fun i wr => ∃ k : Nat, k ≤ ks.length ∧ i = .int .i64 k ∧ VKt w wr w1.heap.size MS (msO l).m (.slice x1 (msO l).m.qs.length y1) (.slice x2 (msO l).m.an.length y2) (.slice x3 (msO l).m.au.length y3) (.slice x4 (msO l).m.ex.length y4)) (fun i _ => ks.length - (intOf i).toNat)
  case atStart => exact ⟨0, Nat.zero_le _, rfl, hS3⟩
  case round =>
    clear hS3
    obtain ⟨k, hkl, rfl, hS⟩ := hrel
    by_cases hlt : k < ks.length
    · obtain ⟨x, hxk⟩ : ∃ x, ks[k]? = some x := ⟨_, List.getElem?_eq_getElem hlt⟩
      obtain ⟨_, a', c', e', hcap, hmx, hcc⟩ := hk
      cases e'
      obtain ⟨b, off, rfl, hcell⟩ := hcc (by omega)
      have put : ∀ {O : Nat} {z : Value}, w.cell? ⟨b, O, none⟩ = some z → wr.cell? ⟨b, O, none⟩ = some z := fun h => (hS.be.cell (World.block_lt_of_cell? w _ h)).trans h
      have c0 : wr.cell? ⟨b, off + k * 2, none⟩ = some (.string x.1) := put (hcell _ _ (kyVs_at ks k 0 x hxk (by decide)))
      have c1 : wr.cell? ⟨b, off + k * 2 + 1, none⟩ = some (.string x.2) := put (hcell _ _ (kyVs_at ks k 1 x hxk (by decide)))
      have hmem := List.mem_of_getElem? hxk
      have i1 : (0 : Int) ≤ (k : Int) := by omega
      have i2 : (k : Int) < (ks.length : Int) := by omega
      have hone := fun W => l09KeyOK_any x.1 x.2 W (hkx x hmem)
      have hok : keyB x.1 x.2 = true := by
        rw [List.all_eq_true] at hgk
        exact hgk x hmem
      rw [hok] at hone
      clear hok hmem hxk hcell hcc put hgk
      obtain ⟨y1', y2'⟩ := x
      simp only at *
      go_wp2_with fail
      refine (hone _).mono ?_
      rintro e w4 ⟨rfl, b4⟩
      have hS4 := hS.below b4
      clear hS b4 c0 c1
      go_wp2
      go_roundw
      case rel => exact ⟨k + 1, by omega, by go_num, hS4⟩
      case measure => simp [intOf]; omega
    · have hkl2 : k = ks.length := by omega
      subst hkl2
      have i2 : ¬ (ks.length : Int) < (ks.length : Int) := by omega
      have hAl := (Below.refl wr.heap.size wr).alloc (Nat.le_refl _) (.cells #[.int .i64 0, .bool false, .int .i64 (-1), .string ⟨#[]⟩, .slice none 0 0] 26)
      have hS1 := hS.below hAl
      have kV := blk_new wr #[.int .i64 0, .bool false, .int .i64 (-1), .string ⟨#[]⟩, .slice none 0 0] 26
      have cM := (blk_cell hS1.kM 14).trans (by rw [HMS.out]; rfl : MS[14]? = some (.slice x4 (msO l).m.ex.length y4))
      rw [hx0] at cM
      obtain ⟨_, a', c', e', hcap, hmx, hcc⟩ := hS1.rd.rx
      cases e'
      obtain ⟨b, off, rfl, hcell⟩ := hcc (by omega)
      have t1 := hcell _ _ (rrCs_at _ n 1 r hxr (by decide))
      have t1 : (wr.alloc (.cells #[.int .i64 0, .bool false, .int .i64 (-1), .string ⟨#[]⟩, .slice none 0 0] 26)).cell? ⟨b, off + n * 5 + 1, none⟩ = some (.int .i64 (r.ty : Int)) := t1
      have hwI : IntKind.i64.wrap (((n + 1 : Nat) : Int) - 1) = (n : Int) := by rw [Go.wrap_small _ (by omega) (by omega)]; omega
      have j1 : (0 : Int) ≤ (n : Int) := by omega
      have j2 : (n : Int) < ((n + 1 : Nat) : Int) := by omega
      have j3 : (((n + 1 : Nat) : Int) == 0) = false := by simp; omega
      have j4 : ((r.ty : Int) == 250) = false := by simp; omega
      generalize eN : n + 1 = N at *
      have HN := Nm.hide eN
      have HTY := Nm.hide hty
      clear eN hty hx0 hxr hcell hcc
      obtain ⟨X, eX⟩ : ∃ X : ByteArray, X = ⟨l.toArray⟩ := ⟨_, rfl⟩
      have hcv := fun W (hW : Below w.heap.size w W) => row_strB (h.below hW)
      rw [← eX] at hcv
      have hcv1 := hcv _ hS1.be
      obtain ⟨v7, w7, r7, f7, b7⟩ := FRow.new X (wr.alloc (.cells #[.int .i64 0, .bool false, .int .i64 (-1), .string ⟨#[]⟩, .slice none 0 0] 26)) (by rw [eX, ba_size]; omega)
      have hXl : X.data.toList = l := by rw [eX]
      rw [hXl] at f7
      have hS7 := hS1.below b7
      have kV7 := blk_below kV b7
      have rV := fun i => blk_cell kV7 i
      have fV := fun i => blk_frozen kV7 i
      have hg8 : w.heap.size < wr.heap.size := blk_lt hS.k8
      obtain ⟨xb, yb, rfl⟩ : ∃ a c, v7 = .slice a l.length c := by obtain ⟨g, cap, e, _⟩ := f7; exact ⟨_, _, e⟩
      have kV8 := blk_set kV7 4 (.slice xb l.length yb)
      have k88 : Blk (w7.setCell ⟨wr.heap.size, 4, none⟩ (.slice xb l.length yb)) w.heap.size vdZ 26 := blk_far hS7.k8 (by omega)
      have o8 : Only wr.heap.size w7 (w7.setCell ⟨wr.heap.size, 4, none⟩ (.slice xb l.length yb)) := (Only.refl _ _).set
      have hB8 := o8.below hS7.be (by omega) hS7.be.size
      have f8 := f7.only o8 (by rw [World.size_alloc]; omega)
      simp only [List.setIfInBounds_toArray, List.set_cons_zero, List.set_cons_succ] at kV8
      have k89 : Blk (w7.setCell ⟨wr.heap.size, 4, none⟩ (.slice xb l.length yb)) w.heap.size #[.int .i64 0, .bool false, .int .i64 0, .string ByteArray.empty, .slice none 0 0] 26 := k88
      have r88 := fun i => blk_cell k89 i
      have f88 := fun i => blk_frozen k89 i
      have HZ := Nm.hide (And.intro (blk_set (blk_set (blk_set (blk_set (blk_set k89 0 (.int .i64 0)) 1 (.bool false)) 2 (.int .i64 (-1))) 3 (.string ⟨#[]⟩)) 4 (.slice xb l.length yb)) (Only.set (v := .slice xb l.length yb) (i := 4) (Only.set (v := .string ⟨#[]⟩) (i := 3) (Only.set (v := .int .i64 (-1)) (i := 2) (Only.set (v := .bool false) (i := 1) (Only.set (v := .int .i64 0) (i := 0) (Only.refl w.heap.size (w7.setCell ⟨wr.heap.size, 4, none⟩ (.slice xb l.length yb)))))))))
      simp only [List.setIfInBounds_toArray, List.set_cons_zero, List.set_cons_succ] at HZ
      have HF8 := Nm.hide f8
      have HB8 := Nm.hide hB8
      clear h hk hS hS1 hS7 hAl kV kV7 o8 b7 hcv hXl eX hkx f7 hgk k88 k89 f8 hB8 kV8
      go_wp2
      exact vq_back HZ.out.1 (HZ.out.2.below HB8.out (Nat.le_refl _) HB8.out.size) rfl rfl rfl (free_by (HF8.out.only HZ.out.2 (by rw [World.size_alloc]; omega)))
end Go.Proofs.YtfficbpalibmoaaGreatDoor
/- spec.Verify by its contract: all of it. -/
namespace Go.Proofs.YtfficbpalibmoaaGreatDoor
open Go.RowKit
set_option linter.unusedVariables false

theorem rrS_dl {l : List UInt8} {p q : Nat} {r : Rm} (h : rrS l p = .ok r q) (ht : r.ty = 250) : r.dat.length ≤ 65535 := by
  rw [rrS] at h
  cases hd : dnF l p p [] none using Rs.elim with
  | bad c => rw [hd] at h; cases h
  | ok s nx =>
    rw [hd] at h
    simp only at h
    split at h
    · split at h
      · cases he : dataS l (n16 l nx) (nx + 10) (nx + 10 + n16 l (nx + 8)) using Rs.elim with
        | bad c => rw [he] at h; cases h
        | ok d q' =>
          rw [he] at h
          simp only at h
          cases h
          simp only at ht ⊢
          rw [ht, dataS] at he
          have hn := n16_lt l (nx + 8)
          split at he
          · cases he
            simp
          · split at he
            · rename_i hp
              exact absurd hp (by decide)
            · split at he
              · cases he
                simp [cutL]
                omega
              · cases he
      · cases h
    · cases h

theorem manyS_pen {α : Type} (f : Nat → Rs α) : ∀ (n p : Nat) (acc : List α) {ys : List α} {e : Nat}, manyS f (n + 1) p acc = .ok ys e → ∃ (xs : List α) (q : Nat) (x : α), manyS f n p acc = .ok xs q ∧ f q = .ok x e := by
  intro n
  induction n with
  | zero =>
    intro p acc ys e h
    rw [manyS] at h
    cases hf : f p using Rs.elim with
    | bad c => rw [hf] at h; cases h
    | ok y r =>
      rw [hf] at h
      simp only at h
      rw [manyS] at h
      cases h
      exact ⟨acc, p, y, rfl, hf⟩
  | succ n ih =>
    intro p acc ys e h
    rw [manyS] at h
    cases hf : f p using Rs.elim with
    | bad c => rw [hf] at h; cases h
    | ok y r =>
      rw [hf] at h
      simp only at h
      obtain ⟨xs, q, x, h1, h2⟩ := ih r _ h
      exact ⟨xs, q, x, by rw [manyS, hf]; exact h1, h2⟩

theorem last_le {l : List UInt8} {m : Mm} {p : Nat} (h : msgS l = .ok m p) : (∀ r ∈ m.ex, r.ty = 250 → r.dat.length ≤ 65535) ∧ (0 < m.ex.length → 12 ≤ lastP l ∧ lastP l ≤ l.length) := by
  have hls := msgS_lens h
  obtain ⟨_, hlast⟩ := last_rec h
  rw [msgS] at h
  split at h
  · cases h
  split at h
  · cases h
  split at h
  · cases h
  rw [listsS] at h
  cases h1 : manyS (quS l) (n16 l 4) 12 [] using Rs.elim with
  | bad c => rw [h1] at h; cases h
  | ok qs p1 =>
    rw [h1] at h
    simp only at h
    cases h2 : manyS (rrS l) (n16 l 6) p1 [] using Rs.elim with
    | bad c => rw [h2] at h; cases h
    | ok an p2 =>
      rw [h2] at h
      simp only at h
      cases h3 : manyS (rrS l) (n16 l 8) p2 [] using Rs.elim with
      | bad c => rw [h3] at h; cases h
      | ok au p3 =>
        rw [h3] at h
        simp only at h
        cases h4 : manyS (rrS l) (n16 l 10) p3 [] using Rs.elim with
        | bad c => rw [h4] at h; cases h
        | ok ex p4 =>
          rw [h4] at h
          simp only at h
          split at h
          · cases h
          · cases h
            refine ⟨manyS_all (P := fun r => r.ty = 250 → r.dat.length ≤ 65535) (fun p x e hx => rrS_dl hx) _ _ _ (by simp) h4, fun hpos => ?_⟩
            obtain ⟨qs', P1, xs, hq, hr⟩ := hlast hpos
            refine ⟨last_ge hq hr, ?_⟩
            have hall := manyS_cat _ _ _ _ _ (manyS_cat _ _ _ _ _ h2 h3) h4
            have hn : 0 < n16 l 10 := by have := hls.2.2.1; omega
            obtain ⟨t, ht⟩ : ∃ t, n16 l 6 + n16 l 8 + n16 l 10 = t + 1 := ⟨n16 l 6 + n16 l 8 + n16 l 10 - 1, by omega⟩
            rw [ht] at hall
            obtain ⟨xs2, q, x, hx, hx2⟩ := manyS_pen _ _ _ _ hall
            have ht2 : n16 l 6 + n16 l 8 + n16 l 10 - 1 = t := by omega
            have : lastP l = q := by rw [lastP, h1]; simp only; rw [ht2, hx]
            rw [this]
            exact Nat.le_trans (rrS_ge hx2) (rrS_place hx2)

theorem specVerify_any (v vk : Value) (l : List UInt8) (ks : List (ByteArray × ByteArray)) (now : Int) (rq : ByteArray) (w : World) (h : BySl w v l) (hl : l.length ≤ 1048576) (hk : CRow w vk ks.length 2 (kyVs ks)) (hkx : ∀ x ∈ ks, x.1.size ≤ maxLen) :
    Calls Tryz.prog 5 #[v, vk, .int .i64 now, .string rq] w (SPost (verL l ks now rq) w) := by
  cases hm : msgS l using Rs.elim with
  | bad c =>
    have e : verL l ks now rq = vd0 := by rw [verL, hm]
    rw [e]
    exact (specVerify_bad v vk l ks now rq w h hl hk (.inl (by rw [msO, hm]; exact code_bad hm))).mono fun _ _ h => SPost.of h
  | ok m p =>
    have hO : msO l = ⟨n16 l 0, n16 l 2, m, 0⟩ := by rw [msO, hm]
    obtain ⟨e1, e2, e3, e4, e5, e6⟩ := msgS_lens hm
    have hC0 : (msO l).c = 0 := by rw [hO]
    have hmm : (msO l).m = m := by rw [hO]
    have hlen : (msO l).m.an.length ≤ 400 ∧ (msO l).m.au.length ≤ 400 ∧ (msO l).m.ex.length ≤ 400 := by rw [hmm]; exact ⟨by omega, by omega, by omega⟩
    cases hb : (decide (ks.length ≤ 8) && ((decide (0 ≤ now) && decide (now ≤ 281474976710655)) && decide (rq.size ≤ 32))) with
    | false =>
      have hpre : vPre ks now rq = false := by
        rw [Bool.eq_false_iff]
        intro hp
        simp only [vPre, Bool.and_eq_true, decide_eq_true_eq] at hp
        obtain ⟨p1, p2, p3, p4, _⟩ := hp
        rw [decide_eq_true p1, decide_eq_true p2, decide_eq_true p3, decide_eq_true p4] at hb
        cases hb
      have e : verL l ks now rq = vd0 := by rw [verL, hm]; simp [hpre]
      rw [e]
      exact (specVerify_bad v vk l ks now rq w h hl hk (.inr hb)).mono fun _ _ h => SPost.of h
    | true =>
      simp only [Bool.and_eq_true, decide_eq_true_eq] at hb
      obtain ⟨p1, ⟨p2, p3⟩, p4⟩ := hb
      have hn : (decide (0 ≤ now) && decide (now ≤ 281474976710655)) = true := by rw [decide_eq_true p2, decide_eq_true p3]; rfl
      cases hst : strayB m with
      | true =>
        have e : verL l ks now rq = vd0 := by rw [verL, hm]; simp [verM, hst]
        rw [e]
        exact (specVerify_stray v vk l ks now rq w h hl hk hC0 hlen p1 hn p4 (by rw [hmm]; exact hst)).mono fun _ _ h => SPost.of h
      | false =>
        have hst' : strayB (msO l).m = false := by rw [hmm]; exact hst
        cases hgk : ks.all (fun p => keyB p.1 p.2) with
        | false =>
          have hpre : vPre ks now rq = false := by rw [vPre, hgk]; simp
          have e : verL l ks now rq = vd0 := by rw [verL, hm]; simp [hpre]
          rw [e]
          exact (specVerify_key v vk l ks now rq w h hl hk hkx hC0 hlen p1 hn p4 hst' hgk).mono fun _ _ h => SPost.of h
        | true =>
          have hpre : vPre ks now rq = true := by rw [vPre, hgk, decide_eq_true p1, decide_eq_true p2, decide_eq_true p3, decide_eq_true p4]; rfl
          have e : verL l ks now rq = verM l m ks now rq := by rw [verL, hm]; simp [hpre]
          rw [e, verM, hst]
          simp only [Bool.false_eq_true, if_false]
          cases hx : m.ex.getLast? with
          | none =>
            have hx0 : (msO l).m.ex.length = 0 := by rw [hmm, List.getLast?_eq_none_iff.1 hx]; rfl
            exact specVerify_none v vk l ks now rq w h hl hk hkx hC0 hlen p1 hn p4 hst' hgk hx0
          | some r =>
            have hmem : r ∈ m.ex := List.mem_of_getLast? hx
            have hpos : 0 < m.ex.length := List.length_pos_of_mem hmem
            obtain ⟨n, hn1⟩ : ∃ n, m.ex.length = n + 1 := ⟨m.ex.length - 1, by omega⟩
            have hx0 : (msO l).m.ex.length = n + 1 := by rw [hmm]; exact hn1
            have hxr : (msO l).m.ex[n]? = some r := by
              rw [hmm]
              rw [List.getLast?_eq_getElem?, hn1] at hx
              exact hx
            obtain ⟨hdl, hla⟩ := last_le hm
            simp only
            cases ht : vTs r with
            | false =>
              simp only [Bool.false_eq_true, if_false]
              exact specVerify_other v vk l ks now rq w h hl hk hkx hC0 hlen p1 hn p4 hst' hgk r n hx0 hxr (by simpa [vTs] using ht)
            | true =>
              have hty : r.ty = 250 := by simpa [vTs] using ht
              simp only [if_true]
              cases hd : datB r with
              | false =>
                simp only [Bool.false_eq_true, if_false]
                exact specVerify_data v vk l ks now rq w h hl hk hkx hC0 hlen p1 hn p4 hst' hgk r n hx0 hxr hty (hdl r hmem hty) hd
              | true =>
                simp only [if_true]
                rw [hn1]
                exact specVerify_signed v vk l ks now rq w h hl hk hkx hC0 hlen p1 hn p4 hst' hgk r n hx0 hxr hty (hdl r hmem hty) hd (dat_61 hd) e4 e5 (by have := (last_rec hm).1 r hmem; omega) (hla hpos).1 (hla hpos).2
end Go.Proofs.YtfficbpalibmoaaGreatDoor
/- laws.eqByteS, markByteS, heldByteS by their contracts. -/
namespace Go.Proofs.YtfficbpalibmoaaGreatDoor
open Go.RowKit
set_option linter.unusedVariables false

set_option maxRecDepth 100000 in
set_option maxHeartbeats 800000 in
theorem eqBy_any (v u : Value) (l : List UInt8) (w : World) (h : CRow w v l.length 1 (Nm.bys l)) (h' : CRow w u l.length 1 (Nm.bys l)) :
    Calls Tryz.prog 10 #[v, u] w fun e w' => e = .returned (.bool true) ∧ Below w.heap.size w w' := by
  obtain ⟨_, a, cap, rfl, hcap, hmx, hc⟩ := h
  obtain ⟨_, a', cap', rfl, hcap', hmx', hc'⟩ := h'
  unfold maxLen at hmx
  have hne : ((l.length : Int) != (l.length : Int)) = false := by simp
  go_enter Tryz.func10, Tryz.ntmps10
  go_wp2
  go_loopw [5] (fun i wr => ∃ k : Nat, k ≤ l.length ∧ i = .int .i64 k ∧ Below w.heap.size w wr) (fun i _ => l.length - (intOf i).toNat)
  case atStart => exact ⟨0, Nat.zero_le _, rfl, Below.refl _ _⟩
  case round =>
    obtain ⟨k, hk, rfl, hbel⟩ := hrel
    by_cases hlt : k < l.length
    · obtain ⟨x, hx⟩ : ∃ x, l[k]? = some x := ⟨_, List.getElem?_eq_getElem hlt⟩
      have hx' : (Nm.bys l)[k]? = some (.int .u8 x.toNat) := by simp [Nm.bys, hx]
      obtain ⟨b, off, rfl, hcell⟩ := hc (by omega)
      obtain ⟨b', off', rfl, hcell'⟩ := hc' (by omega)
      have hcx : wr.cell? ⟨b, off + k, none⟩ = some (.int .u8 x.toNat) := (hbel.cell (World.block_lt_of_cell? w _ (hcell k _ hx'))).trans (hcell k _ hx')
      have hcx' : wr.cell? ⟨b', off' + k, none⟩ = some (.int .u8 x.toNat) := (hbel.cell (World.block_lt_of_cell? w _ (hcell' k _ hx'))).trans (hcell' k _ hx')
      have hxx : ((x.toNat : Int) != (x.toNat : Int)) = false := by simp
      have i1 : (k : Int) < (l.length : Int) := by omega
      clear hx hx' hcell hcell' hc hc'
      go_wp2
      go_region
      all_goals
        go_wp2
        go_roundw
        case rel => exact ⟨k + 1, by omega, by go_num, hbel.drew⟩
        case measure => simp [intOf]; omega
    · obtain rfl : k = l.length := by omega
      have i1 : (l.length : Int) ≤ (l.length : Int) := by omega
      clear hc hc'
      go_wp2
      go_ret
      exact ⟨rfl, hbel⟩

/-- The marks: 1, 2, .. as bytes. -/
def bmk (n : Nat) : List Value := (List.range n).map fun i : Nat => .int .u8 ((1 + (i : Int)) % 256)
theorem bmk_len (n : Nat) : (bmk n).length = n := by simp [bmk]
theorem bmk_get {n i : Nat} (h : i < n) : (bmk n)[i]? = some (.int .u8 ((1 + (i : Int)) % 256)) := by simp [bmk, h]
theorem take_set {L xs : List Value} {n i : Nat} {v : Value} (hL : L.length = n) (hx : xs.length = n) (hi : i < n) (hv : L[i]? = some v) : (L.take i ++ xs.drop i).set i v = L.take (i + 1) ++ xs.drop (i + 1) := by
  have h1 : (L.take i).length = i := by simp; omega
  obtain ⟨h2, e2⟩ := List.getElem?_eq_some_iff.1 hv
  rw [List.take_succ_eq_append_getElem h2, e2, List.set_append_right _ _ (by omega), h1, List.drop_eq_getElem_cons (by omega : i < xs.length), Nat.sub_self, List.set_cons_zero, List.append_assoc]
  rfl

set_option maxRecDepth 100000 in
set_option maxHeartbeats 1600000 in
theorem markBy_any (v : Value) (n B : Nat) (xs : List Value) (w : World) (hown : w.ownsRow B 5 1 v n xs) (hn : n ≤ 1048576) :
    Calls Tryz.prog 12 #[v, .int .i64 1] w fun e w' => e = .returned (.int .i64 (1 + (n : Int))) ∧ w'.ownsRow B 5 1 v n (bmk n) ∧ w.grownBy w' v.ownBlock := by
  have hxl : xs.length = n := by have := hown.1; omega
  rcases Nat.eq_zero_or_pos n with h0 | hpos
  · subst h0
    obtain ⟨a, cap, rfl⟩ : ∃ a cap, v = .slice a 0 cap := by
      rcases hown.2 with ⟨rfl, _⟩ | ⟨g, cap, cur, rfl, _⟩
      · exact ⟨_, _, rfl⟩
      · exact ⟨_, _, rfl⟩
    have hx0 : xs = bmk 0 := List.eq_nil_of_length_eq_zero hxl
    rw [hx0] at hown
    go_enter Tryz.func12, Tryz.ntmps12
    go_wp2
    go_loop [1, 5] (fun t i => t = .int .i64 1 ∧ i = .int .i64 0) (fun _ _ => 0)
    case atStart => exact ⟨rfl, rfl⟩
    case round =>
      obtain ⟨rfl, rfl⟩ := hrel
      go_wp2
      go_ret
      exact ⟨rfl, hown, World.grownBy.refl _ _⟩
  · obtain ⟨g, cap, rfl, hBg⟩ : ∃ g cap, v = .slice (some ⟨g, 0, none⟩) n cap ∧ B ≤ g := by
      rcases hown.2 with ⟨rfl, h0⟩ | ⟨g, cap, cur, rfl, hb, _⟩
      · omega
      · exact ⟨g, cap, rfl, hb⟩
    have hown0 : w.ownsRow B 5 1 (.slice (some ⟨g, 0, none⟩) n cap) n ((bmk n).take 0 ++ xs.drop 0) := by simpa using hown
    go_enter Tryz.func12, Tryz.ntmps12
    go_wp2
    go_loopw [1, 5] (fun t i wr => ∃ (j : Nat), j ≤ n ∧ i = .int .i64 (j : Int) ∧ t = .int .i64 (1 + (j : Int)) ∧ wr.ownsRow B 5 1 (.slice (some ⟨g, 0, none⟩) n cap) n ((bmk n).take j ++ xs.drop j) ∧ w.grownBy wr (some g))
      (fun _ i _ => n - (intOf i).toNat)
    case atStart => exact ⟨0, Nat.zero_le _, rfl, rfl, hown0, World.grownBy.refl _ _⟩
    case round =>
      obtain ⟨j, hj, rfl, rfl, hownj, hgr⟩ := hrel
      clear hown hown0
      by_cases hlt : j < n
      · have hyl : ((bmk n).take j ++ xs.drop j).length = n := by have := hownj.1; omega
        obtain ⟨y, hy⟩ : ∃ y, wr.cell? ⟨g, j, none⟩ = some y := by
          rw [hownj.cellAt j (by omega)]
          exact ⟨_, List.getElem?_eq_getElem (by omega)⟩
        have hfz := hownj.frozenAt j
        have HS : Hid ((wr.setCell ⟨g, j, none⟩ (.int .u8 ((1 + (j : Int)) % 256))).ownsRow B 5 1 (.slice (some ⟨g, 0, none⟩) n cap) n ((bmk n).take (j + 1) ++ xs.drop (j + 1)) ∧ w.grownBy (wr.setCell ⟨g, j, none⟩ (.int .u8 ((1 + (j : Int)) % 256))) (some g)) := by
          refine ⟨?_, ⟨hgr.os, hgr.tape, hgr.output, by simpa using hgr.size, fun q hq hne => by rw [heap_setCell_other wr ⟨g, j, none⟩ q _ (fun e => hne (by simp [e]))]; exact hgr.block q hq hne⟩⟩
          have := (hownj.stored j (.int .u8 ((1 + (j : Int)) % 256))).1
          rwa [take_set (bmk_len n) hxl hlt (bmk_get hlt)] at this
        have i1 : (j : Int) < (n : Int) := by omega
        have e9 : 1 + (j : Int) + 1 = 1 + ((j : Int) + 1) := by omega
        clear hownj hgr hyl
        go_wp2
        go_roundw
        case rel => exact ⟨j + 1, by omega, by go_num, by go_num, HS.out.1, HS.out.2⟩
        case measure => simp [intOf]; omega
      · obtain rfl : j = n := by omega
        have i1 : (j : Int) ≤ (j : Int) := by omega
        rw [List.take_of_length_le (by rw [bmk_len]; omega), List.drop_of_length_le (by omega), List.append_nil] at hownj
        go_wp2
        go_ret
        exact ⟨rfl, hownj, hgr⟩

set_option maxRecDepth 100000 in
set_option maxHeartbeats 1600000 in
theorem heldBy_any (v : Value) (n : Nat) (w : World) (h : CRow w v n 1 (bmk n)) (hn : n ≤ 1048576) :
    Calls Tryz.prog 37 #[v, .int .i64 1] w fun e w' => e = .returned (.int .i64 (1 + (n : Int))) ∧ Below w.heap.size w w' := by
  obtain ⟨_, a, cap, rfl, hcap, hmx, hc⟩ := h
  unfold maxLen at hmx
  go_enter Tryz.func37, Tryz.ntmps37
  go_wp2
  go_loopw [1, 5] (fun t i wr => ∃ k : Nat, k ≤ n ∧ i = .int .i64 k ∧ t = .int .i64 (1 + (k : Int)) ∧ Below w.heap.size w wr) (fun _ i _ => n - (intOf i).toNat)
  case atStart => exact ⟨0, Nat.zero_le _, rfl, rfl, Below.refl _ _⟩
  case round =>
    obtain ⟨k, hk, rfl, rfl, hbel⟩ := hrel
    by_cases hlt : k < n
    · obtain ⟨b, off, rfl, hcell⟩ := hc (by omega)
      have hcx := (hbel.cell (World.block_lt_of_cell? w _ (hcell k _ (bmk_get hlt)))).trans (hcell k _ (bmk_get hlt))
      have hxx : ((1 + (k : Int)) % 256 != (1 + (k : Int)) % 256) = false := by simp
      have i1 : (k : Int) < (n : Int) := by omega
      clear hcell hc
      go_wp2
      go_roundw
      case rel => exact ⟨k + 1, by omega, by go_num, by go_num, hbel⟩
      case measure => simp [intOf]; omega
    · obtain rfl : k = n := by omega
      have i1 : (k : Int) ≤ (k : Int) := by omega
      clear hc
      go_wp2
      go_ret
      exact ⟨rfl, hbel⟩
end Go.Proofs.YtfficbpalibmoaaGreatDoor
/- laws.markText, laws.markStringS, laws.heldStringS by their contracts. -/
namespace Go.Proofs.YtfficbpalibmoaaGreatDoor
open Go.RowKit

def dgF : Nat → Nat → List UInt8
  | 0, _ => []
  | f + 1, k => if k = 0 then [] else dgF f (k / 10) ++ [UInt8.ofNat (48 + k % 10)]

def mkS (k : Nat) : ByteArray := if k = 0 then ⟨#[109, 48]⟩ else ⟨(109 :: dgF (k + 1) k).toArray⟩

def MkAt (k j : Nat) (t : ByteArray) : Prop := ∃ f, j < f ∧ dgF (k + 1) k = dgF f j ++ t.data.toList

theorem mk_start (k : Nat) : MkAt k k ⟨#[]⟩ := ⟨k + 1, by omega, by simp⟩
theorem mk_step {k j : Nat} {t : ByteArray} (h : MkAt k j t) (hj : 0 < j) : MkAt k (j / 10) (⟨#[UInt8.ofNat (48 + j % 10)]⟩ ++ t) := by
  obtain ⟨f, hf, e⟩ := h
  obtain ⟨g, rfl⟩ : ∃ g, f = g + 1 := ⟨f - 1, by omega⟩
  refine ⟨g, by omega, ?_⟩
  rw [e, dgF, if_neg (by omega)]
  simp
theorem mk_end {k j : Nat} {t : ByteArray} (h : MkAt k j t) (hj : j = 0) (hk : 0 < k) : (⟨#[109]⟩ : ByteArray) ++ t = mkS k := by
  obtain ⟨f, hf, e⟩ := h
  obtain ⟨g, rfl⟩ : ∃ g, f = g + 1 := ⟨f - 1, by omega⟩
  have z : dgF (g + 1) j = [] := by rw [dgF, if_pos hj]
  rw [z, List.nil_append] at e
  rw [mkS, if_neg (by omega), e]
  apply ba_ext
  simp
theorem mk_len {k j : Nat} {t : ByteArray} (h : MkAt k j t) : t.size ≤ k + 1 := by
  have hl : ∀ f k, (dgF f k).length ≤ f := by
    intro f
    induction f with
    | zero => intro k; simp [dgF]
    | succ f ih =>
      intro k
      rw [dgF]
      split
      · simp
      · have := ih (k / 10); simp; omega
  obtain ⟨f, hf, e⟩ := h
  have := congrArg List.length e
  rw [List.length_append, size_list] at this
  have := hl (k + 1) k
  omega

set_option maxRecDepth 100000 in
set_option maxHeartbeats 800000 in
theorem markText_any (k : Nat) (w : World) (hk : k ≤ 1000000000) :
    Calls Tryz.prog 36 #[.int .i64 (k : Int)] w fun e w' => e = .returned (.string (mkS k)) ∧ Below w.heap.size w w' := by
  by_cases h0 : k = 0
  · have HE : Hid (mkS k = ⟨#[109, 48]⟩) := by show _ = _; rw [mkS, if_pos h0]
    have h0' : (k : Int) ≤ 0 := by omega
    clear h0
    go_enter Tryz.func36, Tryz.ntmps36
    go_wp2
    go_ret
    rw [HE.out]
    exact ⟨rfl, Below.refl _ _⟩
  · have hpos : 0 < k := by omega
    have h0' : (0 : Int) < (k : Int) := by omega
    have hst := mk_start k
    go_enter Tryz.func36, Tryz.ntmps36
    go_wp2
    go_loopw [0, 3] (fun i v wr => ∃ (j : Nat) (t : ByteArray), i = .int .i64 (j : Int) ∧ j ≤ k ∧ v = .string t ∧ MkAt k j t ∧ Below w.heap.size w wr)
      (fun i _ _ => (intOf i).toNat)
    case atStart => exact ⟨k, _, rfl, Nat.le_refl _, rfl, hst, Below.refl _ _⟩
    case round =>
      obtain ⟨j, t, rfl, hjk, rfl, hat, hbel⟩ := hrel
      have hsz := hbel.size
      have hts := mk_len hat
      have hone : (ByteArray.mk #[109]).size = 1 := rfl
      clear hst
      by_cases hj : 0 < j
      · have HN := Nm.hide (mk_step hat hj)
        have hj' : (0 : Int) < (j : Int) := by omega
        have hcv := fun n => conv_one n wr
        have hn1 : ∀ c, (ByteArray.mk #[c]).size = 1 := fun _ => rfl
        have hmod : (48 + (j : Int) % 10) % 256 = 48 + (j : Int) % 10 := by omega
        have htn : (48 + (j : Int) % 10).toNat = 48 + j % 10 := by omega
        clear hat
        go_wp2
        go_roundw
        case rel => exact ⟨j / 10, _, by go_num, by omega, rfl, by simpa using HN.out, hbel.alloc hsz _⟩
        case measure => simp [intOf]; omega
      · have HE := Nm.hide (mk_end hat (by omega) hpos)
        have hj' : (j : Int) ≤ 0 := by omega
        clear hat
        go_wp2
        go_ret
        rw [← HE.out]
        exact ⟨rfl, hbel⟩
end Go.Proofs.YtfficbpalibmoaaGreatDoor
/- laws.markRRS by its contract. -/
namespace Go.Proofs.YtfficbpalibmoaaGreatDoor
open Go.RowKit
set_option linter.unusedVariables false

theorem mr_below {w w1 w2 : World} {g : Nat} (h : w.grownBy w1 (some g)) (h2 : Below w1.heap.size w1 w2) : w.grownBy w2 (some g) :=
  ⟨h2.os.trans h.os, h2.tape.trans h.tape, h2.output.trans h.output, Nat.le_trans h.size h2.size, fun k hk hne =>
    (h2.block k (Nat.lt_of_lt_of_le hk h.size)).trans (h.block k hk hne)⟩
theorem mr_ne (s : ByteArray) : (s.toList != s.toList) = false ∧ (s.toList == s.toList) = true := by simp

/-- The marks of cells: number k + i at cell i, a text or a number. -/
def mkQ (k i : Nat) : Value := if i % 3 = 0 then .string (mkS (k + i)) else .int .i64 ((k + i : Nat) : Int)
def mkR (k i : Nat) : Value := if i % 5 = 0 ∨ i % 5 = 4 then .string (mkS (k + i)) else .int .i64 ((k + i : Nat) : Int)
def mkL (f : Nat → Nat → Value) (k m : Nat) : List Value := (List.range m).map (f k)

theorem mkL_len (f : Nat → Nat → Value) (k m : Nat) : (mkL f k m).length = m := by simp [mkL]
theorem mkL_get {f : Nat → Nat → Value} {k m i : Nat} (h : i < m) : (mkL f k m)[i]? = some (f k i) := by simp [mkL, h]
theorem mkL_set {f : Nat → Nat → Value} {k m i : Nat} {xs : List Value} (hl : xs.length = m) (h : i < m) :
    ((mkL f k m).take i ++ xs.drop i).set i (f k i) = (mkL f k m).take (i + 1) ++ xs.drop (i + 1) := by
  apply List.ext_getElem?
  intro j
  have h1 : ((mkL f k m).take i).length = i := by rw [List.length_take, mkL_len]; omega
  have h2 : ((mkL f k m).take (i + 1)).length = i + 1 := by rw [List.length_take, mkL_len]; omega
  rw [List.getElem?_set]
  by_cases e : i = j
  · subst e
    rw [if_pos rfl, if_pos (by rw [List.length_append, h1, List.length_drop]; omega), List.getElem?_append_left (by omega), List.getElem?_take, if_pos (by omega), mkL_get h]
  · rw [if_neg e]
    by_cases e2 : j < i
    · rw [List.getElem?_append_left (by omega), List.getElem?_append_left (by omega), List.getElem?_take, List.getElem?_take, if_pos e2, if_pos (by omega)]
    · rw [List.getElem?_append_right (by omega), List.getElem?_append_right (by omega), h1, h2, List.getElem?_drop, List.getElem?_drop]
      congr 1
      omega
theorem mkL_cell {f : Nat → Nat → Value} {k m i j : Nat} {xs : List Value} (hl : xs.length = m) (h : j < m) : ∃ y, ((mkL f k m).take i ++ xs.drop i)[j]? = some y :=
  ⟨_, List.getElem?_eq_getElem (by rw [List.length_append, List.length_take, mkL_len, List.length_drop]; omega)⟩
theorem mkL_done {f : Nat → Nat → Value} {k m : Nat} {xs : List Value} (hl : xs.length = m) : (mkL f k m).take m ++ xs.drop m = mkL f k m := by
  rw [List.take_of_length_le (by rw [mkL_len]; omega), List.drop_eq_nil_of_le (by omega), List.append_nil]

end Go.Proofs.YtfficbpalibmoaaGreatDoor
/- laws.eqVerdict, markVerdict, heldVerdict by their contracts. -/
namespace Go.Proofs.YtfficbpalibmoaaGreatDoor
open Go.RowKit
set_option linter.unusedVariables false

set_option maxRecDepth 100000 in
set_option maxHeartbeats 800000 in
theorem eqVerdict_any (V : Vd) (u u' : Value) (w : World) (h : BySl w u V.body) (h' : BySl w u' V.body) :
    Calls Tryz.prog 9 #[.agg (vdC V u), .agg (vdC V u')] w fun e w' => e = .returned (.bool true) ∧ Below w.heap.size w w' := by
  have hB1 := (Below.refl w.heap.size w).alloc (Nat.le_refl _) (.cells (vdC V u) 26)
  have hB2 := hB1.alloc hB1.size (.cells (vdC V u') 26)
  have heq := eqBy_any u u' V.body _ (h.below hB2) (h'.below hB2)
  have hB : ∀ W, Below ((w.alloc (.cells (vdC V u) 26)).alloc (.cells (vdC V u') 26)).heap.size ((w.alloc (.cells (vdC V u) 26)).alloc (.cells (vdC V u') 26)) W → Below w.heap.size w W := fun W hW => Nm.below_two hB2 hW
  have HB := Nm.hide hB
  have e1 : (V.code != V.code) = false := by simp
  have e2 : (V.key != V.key) = false := by simp
  have e3 : (V.signed != V.signed) = false := by simp
  obtain ⟨e4, e5⟩ := mr_ne ⟨V.sum.toArray⟩
  obtain ⟨x, y, rfl⟩ : ∃ a c, u = .slice a V.body.length c := by obtain ⟨_, a, c, e, _⟩ := h; exact ⟨a, c, e⟩
  obtain ⟨x', y', rfl⟩ : ∃ a c, u' = .slice a V.body.length c := by obtain ⟨_, a, c, e, _⟩ := h'; exact ⟨a, c, e⟩
  clear h h' hB1 hB2 hB
  obtain ⟨c, sg, k, sm, bo⟩ := V
  simp only [vdC] at *
  generalize (⟨sm.toArray⟩ : ByteArray) = SM at *
  go_enter Tryz.func9, Tryz.ntmps9
  go_wp2_with fail
  refine heq.mono ?_
  rintro e w1 ⟨rfl, b1⟩
  have hb1 := HB.out _ b1
  clear heq b1
  go_wp2
  go_ret
  exact ⟨rfl, hb1⟩

set_option maxRecDepth 100000 in
set_option maxHeartbeats 800000 in
theorem markVerdict_any (V : Vd) (u : Value) (B : Nat) (xs : List Value) (w : World) (h : w.ownsRow B 5 1 u V.body.length xs) (hl : V.body.length ≤ 1048576) :
    Calls Tryz.prog 14 #[.agg (vdC V u), .int .i64 1] w fun e w' => e = .returned (.int .i64 (1 + (V.body.length : Int))) ∧ w'.ownsRow B 5 1 u V.body.length (bmk V.body.length) ∧ w.grownBy w' u.ownBlock := by
  have hB1 := (Below.refl w.heap.size w).alloc (Nat.le_refl _) (.cells (vdC V u) 26)
  have hmk := markBy_any u V.body.length B _ _ (own_below h hB1) hl
  have hG : ∀ W, (w.alloc (.cells (vdC V u) 26)).grownBy W u.ownBlock → w.grownBy W u.ownBlock := fun W hW => by
    have hs : w.heap.size ≤ (w.alloc (.cells (vdC V u) 26)).heap.size := by rw [World.size_alloc]; omega
    exact ⟨hW.os.trans hB1.os, hW.tape.trans hB1.tape, hW.output.trans hB1.output, Nat.le_trans hs hW.size, fun q hq hne => (hW.block q (Nat.lt_of_lt_of_le hq hs) hne).trans (hB1.block q hq)⟩
  have HG := Nm.hide hG
  obtain ⟨x, y, rfl⟩ := own_sl h
  clear h hB1 hG
  obtain ⟨c, sg, k, sm, bo⟩ := V
  simp only [vdC] at *
  generalize (⟨sm.toArray⟩ : ByteArray) = SM at *
  go_enter Tryz.func14, Tryz.ntmps14
  go_wp2_with fail
  refine hmk.mono ?_
  rintro e w1 ⟨rfl, o1, g1⟩
  have hg1 := HG.out _ g1
  have HO := Nm.hide (And.intro o1 hg1)
  clear hmk g1 o1 hg1
  go_wp2
  go_ret
  exact ⟨rfl, HO.out.1, HO.out.2⟩

set_option maxRecDepth 100000 in
set_option maxHeartbeats 800000 in
theorem heldVerdict_any (V : Vd) (u : Value) (w : World) (h : CRow w u V.body.length 1 (bmk V.body.length)) (hl : V.body.length ≤ 1048576) :
    Calls Tryz.prog 15 #[.agg (vdC V u), .int .i64 1] w fun e w' => e = .returned (.int .i64 (1 + (V.body.length : Int))) ∧ Below w.heap.size w w' := by
  have hB1 := (Below.refl w.heap.size w).alloc (Nat.le_refl _) (.cells (vdC V u) 26)
  have hmk := heldBy_any u V.body.length _ (h.below hB1) hl
  have hB : ∀ W, Below (w.alloc (.cells (vdC V u) 26)).heap.size (w.alloc (.cells (vdC V u) 26)) W → Below w.heap.size w W := fun W hW => Nm.below_two hB1 hW
  have HB := Nm.hide hB
  obtain ⟨x, y, rfl⟩ : ∃ a c, u = .slice a V.body.length c := by obtain ⟨_, a, c, e, _⟩ := h; exact ⟨a, c, e⟩
  have hnn : ¬ (1 + (V.body.length : Int)) < 0 := by omega
  clear h hB1 hB
  obtain ⟨c, sg, k, sm, bo⟩ := V
  simp only [vdC] at *
  generalize (⟨sm.toArray⟩ : ByteArray) = SM at *
  go_enter Tryz.func15, Tryz.ntmps15
  go_wp2_with fail
  refine hmk.mono ?_
  rintro e w1 ⟨rfl, b1⟩
  have hb1 := HB.out _ b1
  clear hmk b1
  go_wp2
  go_ret
  exact ⟨rfl, hb1⟩
end Go.Proofs.YtfficbpalibmoaaGreatDoor
