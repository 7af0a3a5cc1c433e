import Derived.Test.YtihhchebcojplaaJRd11
import Derived.Test.YtihhchebcojplaaJRowA
import Derived.Test.YtihhchebcojplaaJMath
import Derived.Deep.RegionHeld2
import Derived.Deep.CutRange
/- spec.l04Read by its contract: the walk. -/
namespace Go.Proofs.Ytihhchebcojplaa
open Go.RowKit
set_option linter.unusedVariables false

theorem rrS_code {l : List UInt8} {p : Nat} {c : Int} (h : rrS l p = .bad c) : c ≠ 0 := by
  rw [rrS] at h
  split at h
  · rename_i c2 hd
    cases h
    exact dnF_code l p p [] none c hd
  · split at h
    · split at h
      · split at h
        · rename_i c2 hd
          cases h
          exact dataS_code hd
        · cases h
      · cases h; decide
    · cases h; decide

set_option maxRecDepth 100000 in
set_option maxHeartbeats 16000000 in
theorem l04Read_main (v : Value) (l : List UInt8) (w : World) (h : BySl w v l) (hl : l.length ≤ 1048576) (hbig : ¬ 65535 < l.length) (hsh : ¬ l.length < 12) (hcnt : ¬ 400 < n16 l 4 + n16 l 6 + n16 l 8 + n16 l 10) :
    Calls Try.prog 14 #[v] w (ReadPost l w) := by
  have hby := h
  obtain ⟨hbl, a, cap, rfl, hcap, hmx, hc⟩ := h
  clear hc
  obtain ⟨i0, hi, hz0, hz1, hz2⟩ := info_parts Try.infoQu
  obtain ⟨j0, hj, kz0, kz1, kz2⟩ := info_parts Try.infoRR
  have be0 : Below w.heap.size w (w.alloc (.cells ms0 29)) := (Below.refl _ _).alloc (Nat.le_refl _) _
  have hb0 := blk_new w ms0 29
  have hbig' : (l.length : Int) ≤ 65535 := by omega
  have hdh := specDecodeHead_any (.slice a l.length cap) l _ (hby.below be0) hl
  have HM : Hid (msgS l = listsS l) := by rw [Hid, msgS, if_neg hbig, if_neg hsh, if_neg hcnt]
  have hV : dhV l = .tuple #[.agg (hdA (n16 l 0) (n16 l 2)), .agg (ctA l), .int .i64 0] := if_pos (by omega)
  rw [hV] at hdh
  have q4 := n16_lt l 4
  have q6 := n16_lt l 6
  have q8 := n16_lt l 8
  have q10 := n16_lt l 10
  have hcnt' : (n16 l 4 : Int) + (n16 l 6 : Int) + (n16 l 8 : Int) + (n16 l 10 : Int) ≤ 400 := by omega
  have hbd : decide ((65535 : Int) < (l.length : Int)) = false := by simp; omega
  have hcd : decide ((400 : Int) < (n16 l 4 : Int) + (n16 l 6 : Int) + (n16 l 8 : Int) + (n16 l 10 : Int)) = false := by simp; omega
  have HVA : Hid (∀ q x y z, msA (n16 l 0) (n16 l 2) q x y z = #[.int .i64 (n16 l 0), .bool ((n16 l 2).testBit 15), .int .i64 ((n16 l 2 / 2048 % 16 : Nat) : Int), .bool ((n16 l 2).testBit 10), .bool ((n16 l 2).testBit 9), .bool ((n16 l 2).testBit 8), .bool ((n16 l 2).testBit 7), .bool ((n16 l 2).testBit 6), .bool ((n16 l 2).testBit 5), .bool ((n16 l 2).testBit 4), .int .i64 ((n16 l 2 % 16 : Nat) : Int), q, x, y, z]) := by
    intro q x y z; rfl
  have hms : ms0 = #[.int .i64 0, .bool false, .int .i64 0, .bool false, .bool false, .bool false, .bool false, .bool false, .bool false, .bool false, .int .i64 0, .slice none 0 0, .slice none 0 0, .slice none 0 0, .slice none 0 0] := rfl
  simp only [hdA, ctA] at hdh
  rw [hms] at hdh
  have be0' := be0
  rw [hms] at be0'
  have HLQ := Nm.hide (fun c => listsS_q (l := l) (c := c))
  generalize ((n16 l 2 / 2048 % 16 : Nat) : Int) = op at *
  generalize ((n16 l 2 % 16 : Nat) : Int) = cd at *
  generalize (n16 l 2).testBit 15 = t15 at *
  generalize (n16 l 2).testBit 10 = t10 at *
  generalize (n16 l 2).testBit 9 = t9 at *
  generalize (n16 l 2).testBit 8 = t8 at *
  generalize (n16 l 2).testBit 7 = t7 at *
  generalize (n16 l 2).testBit 6 = t6 at *
  generalize (n16 l 2).testBit 5 = t5 at *
  generalize (n16 l 2).testBit 4 = t4 at *
  go_enter Try.func14, Try.ntmps14
  go_wp2_with (go_at_call 29; refine hdh.mono ?_; rintro e w1 ⟨rfl, hb1⟩)
  have S0 := sst_new (blk_below hb0 hb1) (Nm.below_two be0 hb1) #[.int .i64 (n16 l 0), .bool t15, .int .i64 op, .bool t10, .bool t9, .bool t8, .bool t7, .bool t6, .bool t5, .bool t4, .int .i64 cd] #[.int .i64 (n16 l 4), .int .i64 (n16 l 6), .int .i64 (n16 l 8), .int .i64 (n16 l 10)] #[.int .i64 (n16 l 0), .bool t15, .int .i64 op, .bool t10, .bool t9, .bool t8, .bool t7, .bool t6, .bool t5, .bool t4, .int .i64 cd, .slice none 0 0, .slice none 0 0, .slice none 0 0, .slice none 0 0]
  refine gen_world (Pr := fun W => SSt w W w1.heap.size _ _ _) (G := fun W => Code.wp _ _ _ _ W) S0 ?_
  clear S0 be0 hb0 hdh be0' hms hV
  have hlt1 := hb1.size
  generalize w1.heap.size = b
  clear hb1 hlt1 w1
  intro W0 S0
  have hsd := fun (q : Nat) W (h : BySl W (.slice a l.length cap) l) => specDecodeName_any (.slice a l.length cap) l (q : Int) W h hl
  generalize hk1 : n16 l 4 = k1 at *
  generalize hk2 : n16 l 6 = k2 at *
  generalize hk3 : n16 l 8 = k3 at *
  generalize hk4 : n16 l 10 = k4 at *
  generalize hR : manyS (quS l) k1 12 [] = R
  have hR0 := Nm.hide hR
  go_loopw [9, 11] (fun vp vi wr => ∃ (k pos : Nat) (xs : List Qm) (xa : Option Addr) (ya : Nat), vp = .int .i64 pos ∧ vi = .int .i64 k ∧ k ≤ k1 ∧ pos ≤ l.length ∧ xs.length = k ∧ SSt w wr b #[.int .i64 (n16 l 0), .bool t15, .int .i64 op, .bool t10, .bool t9, .bool t8, .bool t7, .bool t6, .bool t5, .bool t4, .int .i64 cd] #[.int .i64 k1, .int .i64 k2, .int .i64 k3, .int .i64 k4] #[.int .i64 (n16 l 0), .bool t15, .int .i64 op, .bool t10, .bool t9, .bool t8, .bool t7, .bool t6, .bool t5, .bool t4, .int .i64 cd, (.slice xa k ya), .slice none 0 0, .slice none 0 0, .slice none 0 0] ∧ wr.ownsRow w.heap.size 53 3 (.slice xa k ya) k (quCs xs) ∧ manyS (quS l) (k1 - k) pos xs = R)
    (fun _ vi _ => k1 - (intOf vi).toNat)
  case atStart => exact ⟨0, 12, [], none, 0, rfl, rfl, Nat.zero_le _, by omega, rfl, S0, ⟨rfl, .inl ⟨rfl, rfl⟩⟩, hR⟩
  case round =>
    obtain ⟨k, pos, xs, xa, ya, rfl, rfl, hk, hpos, hxl, Sk, ok, hres⟩ := hrel
    clear S0 hR
    have cc := fun i => blk_cell Sk.cb i
    by_cases hlt : k < k1
    · have hlt' : (k : Int) < (k1 : Int) := by omega
      have hck : k1 - k = (k1 - (k + 1)) + 1 := by omega
      rw [hck, manyS] at hres
      have hcall := hsd pos wr (hby.below Sk.be)
      rw [dnS_at hpos] at hcall
      cases hd : dnF l pos pos [] none using Rs.elim with
      | bad c =>
        rw [quS_bad hd] at hres
        simp only at hres
        rw [hd] at hcall
        simp only at hcall
        have hcn : (c != 0) = true := by rw [bne_iff_ne]; exact dnF_code l pos pos [] none c hd
        have HB := Nm.hide (HM.out.trans (HLQ.out c (by rw [hR0.out, ← hres])))
        go_wp2_with (go_at_call 30; refine hcall.mono ?_; rintro e w5 ⟨rfl, hb5⟩; have S5 := Sk.below hb5; have r5 := (fun i => blk_cell S5.res i); have f5 := (fun i => blk_frozen S5.res i); have HL := Nm.hide (S5.lay ms0.toList rfl); simp only [setAll, ms0, Nat.reduceAdd, Nat.zero_add] at HL r5; clear Sk S5 ok)
        refine read_back HL.out.1 ⟨_, _, _, _, _, _, _, _, _, _, _, _, _, _, _, rfl⟩ rfl rfl rfl rfl ?_
        exact ⟨HL.out.2, .inr ⟨_, _, HB.out, rfl⟩⟩
      | ok s nx =>
        rw [hd] at hcall
        simp only at hcall
        have hnx := dnF_next l pos pos [] none (fun x h => by cases h) s nx hd
        by_cases h4 : nx + 4 ≤ l.length
        · rw [quS_ok hd h4] at hres
          simp only at hres
          have h4' : (nx : Int) + 4 ≤ (l.length : Int) := by omega
          have hfc : (nx : Int) + 4 ≤ (cap : Int) := by omega
          have hcp : ¬ cap = nx := by omega
          obtain ⟨bb, off, rfl, hcv⟩ := by_str hby (show nx + 4 ≤ l.length from h4) (by decide)
          have hcv : ∀ W, Below w.heap.size w W → (convert 22 9 (.slice (some ⟨bb, off + nx, none⟩) 4 (cap - nx))).run Try.prog W = .ok (.string ⟨(cutL l nx 4).toArray⟩) W := hcv
          have hsz : (ByteArray.mk (cutL l nx 4).toArray).size = 4 := by show (cutL l nx 4).toArray.size = 4; simp [cutL]; omega
          have hn := fun (i m : Nat) (hm : m ≤ 6) (hi : i + m ≤ 4) W => l02Num_any ((ByteArray.mk (cutL l nx 4).toArray).extract i (i + m)) W (by rw [ByteArray.size_extract, hsz]; omega)
          have hn0 : ∀ W, Calls Try.prog 31 #[.string ((ByteArray.mk (cutL l nx 4).toArray).extract 0 2)] W fun e w' => e = .returned (.int .i64 ((n16 l nx : Nat) : Int)) ∧ w' = W := by
            intro W; have := hn 0 2 (by decide) (by decide) W; rw [cut_num l nx 4 0 2 h4 (by decide)] at this; exact this
          have hn2 : ∀ W, Calls Try.prog 31 #[.string ((ByteArray.mk (cutL l nx 4).toArray).extract 2 4)] W fun e w' => e = .returned (.int .i64 ((n16 l (nx + 2) : Nat) : Int)) ∧ w' = W := by
            intro W; have := hn 2 2 (by decide) (by decide) W; rw [cut_num l nx 4 2 2 h4 (by decide)] at this; exact this
          clear hn
          have HRES := Nm.hide hres
          generalize (⟨(cutL l nx 4).toArray⟩ : ByteArray) = sb at *
          generalize n16 l nx = ty at *
          generalize n16 l (nx + 2) = cl at *
          clear hres hd
          go_wp2_with (go_at_call 30; refine hcall.mono ?_; rintro e w5 ⟨rfl, hb5⟩; have S5 := Sk.below hb5; have o5 := own_below ok hb5; have hcv5 := hcv w5 S5.be; have c5 : w5.cell? ⟨b + 1 + 1, 11, none⟩ = some (.slice xa k ya) := (blk_cell S5.mb 11); have hz5 := S5.be.size; clear Sk ok)
          refine wp_region_last (fun W => W.cell? ⟨b + 1 + 1, 11, none⟩ = some (.slice xa k ya)) 13 (by kernel_rfl) c5 (fun hHeld => ?_)
          refine wpAnyL_take (i := 0) (v := ?_) rfl (by kernel_rfl) (by kernel_rfl) (by kernel_rfl) (by kernel_rfl) (fun _ _ _ h => h) (Or.inl ⟨by rfl, ?_⟩) (by assumption) ?_
          rotate_left 1
          · (intro w hSw; go_simp; try (with_reducible rfl))
          refine wpAnyL_take (i := 1) (v := ?_) rfl (by kernel_rfl) (by kernel_rfl) (by kernel_rfl) (by kernel_rfl) (fun _ _ _ h => h) (Or.inl ⟨by rfl, ?_⟩) (by assumption) ?_
          rotate_left 1
          · (intro w hSw; go_simp; try (with_reducible rfl))
          refine wpAnyL_take (i := 2) (v := ?_) rfl (by kernel_rfl) (by kernel_rfl) (by kernel_rfl) (by kernel_rfl) (fun _ _ _ h => h) (Or.inl ⟨by rfl, ?_⟩) (by assumption) ?_
          rotate_left 1
          · (intro w hSw; go_simp; try (with_reducible rfl))
          refine wpAnyL_take (i := 3) (v := ?_) rfl (by kernel_rfl) (by kernel_rfl) (by kernel_rfl) (by kernel_rfl) (fun _ _ _ h => h) (Or.inl ⟨by rfl, ?_⟩) (by assumption) ?_
          rotate_left 1
          · (intro w hSw; go_simp; try (with_reducible rfl))
          refine wpAnyL_take (i := 4) (v := ?_) rfl (by kernel_rfl) (by kernel_rfl) (by kernel_rfl) (by kernel_rfl) (fun _ _ _ h => h) (Or.inl ⟨by rfl, ?_⟩) (by assumption) ?_
          rotate_left 1
          · (intro w hSw; go_simp; try (with_reducible rfl))
          refine wpAnyL_take (i := 6) (v := ?_) rfl (by kernel_rfl) (by kernel_rfl) (by kernel_rfl) (by kernel_rfl) (fun _ _ _ h => h) (Or.inl ⟨by rfl, ?_⟩) (by assumption) ?_
          rotate_left 1
          · (intro w hSw; go_simp; try (with_reducible rfl))
          refine wpAnyL_take (i := 7) (v := ?_) rfl (by kernel_rfl) (by kernel_rfl) (by kernel_rfl) (by kernel_rfl) (fun _ _ _ h => h) (Or.inl ⟨by rfl, ?_⟩) (by assumption) ?_
          rotate_left 1
          · (intro w hSw; go_simp; try (with_reducible rfl))
          refine wpAnyL_one (i := 5) (by kernel_rfl) rfl (fun K hK => ?_)
          go_simp
          refine (hn0 _).mono ?_
          rintro e wv ⟨rfl, hwv⟩
          subst hwv
          go_wp2_with fail
          refine hK.out _ _ (by assumption) (fun _ => ?_)
          clear hK K
          refine wpAnyL_one (i := 8) (by kernel_rfl) rfl (fun K hK => ?_)
          go_simp
          refine (hn2 _).mono ?_
          rintro e wv ⟨rfl, hwv⟩
          subst hwv
          go_wp2_with fail
          refine hK.out _ _ (by assumption) (fun _ => ?_)
          clear hK K
          refine wpAnyL_take (i := 9) (v := ?_) rfl (by kernel_rfl) (by kernel_rfl) (by kernel_rfl) (by kernel_rfl) (fun _ _ _ h => h) (Or.inl ⟨by rfl, ?_⟩) (by assumption) ?_
          rotate_left 1
          · (intro w hSw; go_simp; try (with_reducible rfl))
          have c5a : ∀ o, (w5.alloc o).drew.cell? ⟨b + 1 + 1, 11, none⟩ = some (.slice xa k ya) := fun o => (blk_cell (S5.below ((Below.refl _ _).alloc (Nat.le_refl _) o)).mb 11)
          refine wpAnyL_one (i := 10) (by kernel_rfl) rfl (fun K hK => ?_)
          go_simp
          refine hK.out _ _ (c5a _) (fun hH2 => ?_)
          clear hK K
          refine wpAnyL_one (i := 11) (by kernel_rfl) rfl (fun K hK => ?_)
          refine step_append_own rfl (.tmp 80) (.tmp 89) 26 rfl w.heap.size 53 i0 (.agg #[.string ByteArray.empty, .int .i64 0, .int .i64 0]) 3 32 Try.underlying26 hi hz0 hz1 hz2 rfl (by decide) _ _ _ (by rfl) (own_below (o5.alloc _) (Below.refl _ _).drew) ⟨w5.heap.size, 0, none⟩ 1 1 (quC ⟨s, ty, cl⟩) (by rfl) rfl (cell_newD _ _ _) (by intro u hu; simp [quC] at hu; rcases hu with rfl | rfl | rfl <;> rfl) (by unfold maxLen; omega) (by omega) (by simp at hz5 ⊢; omega) ?_
          intro va wa hown9 hgrow9 hnl9
          clear hnl9
          rw [← quCs_snoc] at hown9
          have S9 := ((S5.below ((Below.refl _ _).alloc (Nat.le_refl _) _)).drew).row (B := 0) (own_below (o5.alloc _) (Below.refl _ _).drew) hgrow9 (by decide) (by decide) (by decide)
          obtain ⟨xb, yb, hvb⟩ := row_val hown9
          rw [hvb]
          have c9 : wa.cell? ⟨b + 1 + 1, 11, none⟩ = some (.slice xa k ya) := (blk_cell S9.mb 11)
          have f9 := blk_frozen S9.mb 11
          refine hK.out _ _ c9 (fun hH3 => ?_)
          clear hK K
          refine wpAnyL_take (i := 12) (v := ?_) rfl (by kernel_rfl) (by kernel_rfl) (by kernel_rfl) (by kernel_rfl) (fun _ _ _ h => h) (Or.inl ⟨by rfl, ?_⟩) (by assumption) ?_
          rotate_left 1
          · (intro w hSw; go_simp; try (with_reducible rfl))
          refine wpAnyL_end (by kernel_rfl) rfl (by kernel_rfl) (fun K hK => ?_)
          go_simp
          refine hK.out _ _ ?_
          clear hK K
          have HS10 : Hid (SSt w (wa.setCell ⟨b + 1 + 1, 11, none⟩ (.slice xb (k + 1) yb)) b #[.int .i64 (n16 l 0), .bool t15, .int .i64 op, .bool t10, .bool t9, .bool t8, .bool t7, .bool t6, .bool t5, .bool t4, .int .i64 cd] #[.int .i64 k1, .int .i64 k2, .int .i64 k3, .int .i64 k4] #[.int .i64 (n16 l 0), .bool t15, .int .i64 op, .bool t10, .bool t9, .bool t8, .bool t7, .bool t6, .bool t5, .bool t4, .int .i64 cd, .slice xb (k + 1) yb, .slice none 0 0, .slice none 0 0, .slice none 0 0] ∧ (wa.setCell ⟨b + 1 + 1, 11, none⟩ (.slice xb (k + 1) yb)).ownsRow w.heap.size 53 3 (.slice xb (k + 1) yb) (k + 1) (quCs (xs ++ [⟨s, ty, cl⟩]))) := by
            rw [Hid]
            rw [hvb] at hown9
            exact ⟨S9.field 11 _, row_setAll (by decide) [_] 11 wa _ hown9 S9.mb⟩
          clear S9 hown9 hgrow9 S5 o5 c5 c5a hcv5 hcv
          go_wp2
          go_roundw
          case rel => exact ⟨k + 1, nx + 4, xs ++ [⟨s, ty, cl⟩], xb, yb, by go_num, by go_num, by omega, by omega, by simp; omega, HS10.out.1, HS10.out.2, HRES.out⟩
          case measure => simp [intOf]; omega
        · rw [quS_short hd (by omega)] at hres
          simp only at hres
          have h4' : (l.length : Int) < (nx : Int) + 4 := by omega
          have HB := Nm.hide (HM.out.trans (HLQ.out 8 (by rw [hR0.out, ← hres])))
          go_wp2_with (go_at_call 30; refine hcall.mono ?_; rintro e w5 ⟨rfl, hb5⟩; have S5 := Sk.below hb5; have r5 := (fun i => blk_cell S5.res i); have f5 := (fun i => blk_frozen S5.res i); have HL := Nm.hide (S5.lay ms0.toList rfl); simp only [setAll, ms0, Nat.reduceAdd, Nat.zero_add] at HL r5; clear Sk S5 ok)
          refine read_back HL.out.1 ⟨_, _, _, _, _, _, _, _, _, _, _, _, _, _, _, rfl⟩ rfl rfl rfl rfl ?_
          exact ⟨HL.out.2, .inr ⟨_, _, HB.out, rfl⟩⟩
    · obtain rfl : k1 = k := by omega
      rw [Nat.sub_self, manyS] at hres
      have HCO : Hid (msgS l = contK l 1 (cntK l 1) pos ⟨xs, [], [], []⟩) := by
        rw [Hid, HM.out]
        exact listsS_cont (by rw [hk1, hR0.out, ← hres])
      generalize hR2 : msgS l = R2 at *
      have HR2 := Nm.hide hR2
      obtain ⟨P1, hP1⟩ : ∃ P1, P1 = pos := ⟨_, rfl⟩
      have HQ1 : Hid (manyS (quS l) (n16 l 4) 12 [] = .ok xs P1) := by rw [Hid, hk1, hR0.out, ← hres, hP1]
      have HC1 : Hid (cntK l 1 = k2) := hk2
      have HC2 : Hid (cntK l 2 = k3) := hk3
      have HC3 : Hid (cntK l 3 = k4) := hk4
      have hrr := fun (q : Nat) W (h : BySl W (.slice a l.length cap) l) (hq : q ≤ l.length) => l04Record_any (.slice a l.length cap) l q W h hl hq
      have L0 : Lists wr w.heap.size ⟨xs, [], [], []⟩ (.slice xa k1 ya) (.slice none 0 0) (.slice none 0 0) (.slice none 0 0) := ⟨by rw [hxl]; exact ok, ⟨rfl, .inl ⟨rfl, rfl⟩⟩, ⟨rfl, .inl ⟨rfl, rfl⟩⟩, ⟨rfl, .inl ⟨rfl, rfl⟩⟩, fun k h => by simp [Value.ownBlock] at h, fun k h => by simp [Value.ownBlock] at h, fun k h => by simp [Value.ownBlock] at h⟩
      obtain ⟨wo, hwo⟩ : ∃ wo, wo = wr := ⟨wr, rfl⟩
      subst hwo
      clear hR2 HM HLQ hR0 hres hsd ok hk1 hk2 hk3 hk4
      go_wp2
      go_loopw [9, 10, 16] (fun vp vl vk wr => ∃ (j pos : Nat) (z : Int) (m : Mm) (nl : Int) (a1 a2 a3 a4 : Option Addr) (c1 c2 c3 c4 : Nat), vp = .int .i64 pos ∧ vl = .int .i64 nl ∧ vk = .int .i64 z ∧ Hid (z = (j : Int)) ∧ 1 ≤ j ∧ j ≤ 4 ∧ pos ≤ l.length ∧ Hid ((j ≤ 1 → m.an.length = 0) ∧ (j ≤ 2 → m.au.length = 0) ∧ (j ≤ 3 → m.ex.length = 0)) ∧ Hid (LI l P1 m pos nl) ∧ SSt w wr b #[.int .i64 (n16 l 0), .bool t15, .int .i64 op, .bool t10, .bool t9, .bool t8, .bool t7, .bool t6, .bool t5, .bool t4, .int .i64 cd] #[.int .i64 k1, .int .i64 k2, .int .i64 k3, .int .i64 k4] #[.int .i64 (n16 l 0), .bool t15, .int .i64 op, .bool t10, .bool t9, .bool t8, .bool t7, .bool t6, .bool t5, .bool t4, .int .i64 cd, .slice a1 m.qs.length c1, .slice a2 m.an.length c2, .slice a3 m.au.length c3, .slice a4 m.ex.length c4] ∧ Lists wr w.heap.size m (.slice a1 m.qs.length c1) (.slice a2 m.an.length c2) (.slice a3 m.au.length c3) (.slice a4 m.ex.length c4) ∧ contK l j (cntK l j) pos m = R2)
        (fun _ _ vk _ => 4 - (intOf vk).toNat)
      case atStart => exact ⟨1, pos, 1, ⟨xs, [], [], []⟩, 0, xa, none, none, none, ya, 0, 0, 0, rfl, rfl, rfl, rfl, by decide, by decide, hpos, ⟨fun _ => rfl, fun _ => rfl, fun _ => rfl⟩, by rw [hP1]; exact LI_start _ _ _ _, by rw [hxl]; exact Sk, by rw [hxl]; exact L0, HCO.out.symm⟩
      case round =>
        clear Sk L0 HCO hpos hP1
        obtain ⟨j, pos, z, m, nl, a1, a2, a3, a4, c1, c2, c3, c4, rfl, rfl, rfl, HZ, hj1, hj4, hpos, HLE, HLI, Sq, Lq, hcon⟩ := hrel
        obtain ⟨wo2, hwo2⟩ : ∃ wo2, wo2 = wr := ⟨wr, rfl⟩
        subst hwo2
        have hjj : j = 1 ∨ j = 2 ∨ j = 3 ∨ j = 4 := by omega
        rcases hjj with rfl | rfl | rfl | rfl
        · -- the answer
          obtain rfl : z = 1 := HZ.out
          have hle := HLE.out
          rw [HC1.out] at hcon
          go_wp2
          go_loopw [9, 10, 17] (fun vp vl vi wr => ∃ (i pos : Nat) (m : Mm) (nl : Int) (a1 a2 a3 a4 : Option Addr) (c1 c2 c3 c4 : Nat), vp = .int .i64 pos ∧ vl = .int .i64 nl ∧ vi = .int .i64 i ∧ i ≤ k2 ∧ pos ≤ l.length ∧ Hid (m.an.length = i ∧ m.au.length = 0 ∧ m.ex.length = 0) ∧ Hid (LI l P1 m pos nl) ∧ SSt w wr b #[.int .i64 (n16 l 0), .bool t15, .int .i64 op, .bool t10, .bool t9, .bool t8, .bool t7, .bool t6, .bool t5, .bool t4, .int .i64 cd] #[.int .i64 k1, .int .i64 k2, .int .i64 k3, .int .i64 k4] #[.int .i64 (n16 l 0), .bool t15, .int .i64 op, .bool t10, .bool t9, .bool t8, .bool t7, .bool t6, .bool t5, .bool t4, .int .i64 cd, .slice a1 m.qs.length c1, .slice a2 m.an.length c2, .slice a3 m.au.length c3, .slice a4 m.ex.length c4] ∧ Lists wr w.heap.size m (.slice a1 m.qs.length c1) (.slice a2 m.an.length c2) (.slice a3 m.au.length c3) (.slice a4 m.ex.length c4) ∧ contK l 1 (k2 - i) pos m = R2)
            (fun _ _ vi _ => k2 - (intOf vi).toNat)
          case atStart => exact ⟨0, pos, m, nl, a1, a2, a3, a4, c1, c2, c3, c4, rfl, rfl, rfl, Nat.zero_le _, hpos, ⟨hle.1 (by decide), hle.2.1 (by decide), hle.2.2 (by decide)⟩, HLI.out, Sq, Lq, hcon⟩
          case round =>
            clear Sq Lq hcon hle HLE HLI hpos
            obtain ⟨i, pos, m, nl, a1, a2, a3, a4, c1, c2, c3, c4, rfl, rfl, rfl, hik, hpos, HLN, HLI, Sk, Lk, hcon⟩ := hrel
            have cc := fun i => blk_cell Sk.cb i
            by_cases hlt : i < k2
            · have hlt' : (i : Int) < (k2 : Int) := by omega
              have hck : k2 - i = (k2 - (i + 1)) + 1 := by omega
              rw [hck] at hcon
              have hcall := hrr pos wr (hby.below Sk.be) hpos
              cases hd : rrS l pos using Rs.elim with
              | bad c =>
                rw [hd] at hcall
                simp only [rrV, rr0] at hcall
                have hcn : (c != 0) = true := by rw [bne_iff_ne]; exact rrS_code hd
                have HB := Nm.hide (HR2.out.trans ((contK_bad (by decide) (by decide) hd).symm.trans hcon).symm)
                go_wp2_with (go_at_call 32; refine hcall.mono ?_; rintro e w5 ⟨rfl, hb5⟩; have S5 := (Sk.below hb5).below ((Below.refl _ _).alloc (Nat.le_refl _) (.cells #[.string ByteArray.empty, .int .i64 0, .int .i64 0, .int .i64 0, .string ByteArray.empty] 66)); have r5 := (fun i => blk_cell S5.res i); have f5 := (fun i => blk_frozen S5.res i); have HL := Nm.hide (S5.lay ms0.toList rfl); simp only [setAll, ms0, Nat.reduceAdd, Nat.zero_add] at HL r5; clear Sk S5 Lk)
                refine read_back HL.out.1 ⟨_, _, _, _, _, _, _, _, _, _, _, _, _, _, _, rfl⟩ rfl rfl rfl rfl ?_
                exact ⟨HL.out.2, .inr ⟨_, _, HB.out, rfl⟩⟩
              | ok r q =>
                rw [hd] at hcall
                simp only [rrV, rrG] at hcall
                have hqp := rrS_place hd
                have HCON : Hid (contK l 1 (k2 - (i + 1)) q ⟨m.qs, m.an ++ [r], m.au, m.ex⟩ = R2) := by rw [Hid, ← hcon, contK_ok (by decide) (by decide) hd]; rfl
                have HLI2 : Hid (LI l P1 ⟨m.qs, m.an ++ [r], m.au, m.ex⟩ q (pos : Int)) := LI_1 HLI.out hd HLN.out.2.1 HLN.out.2.2
                clear HLI
                clear hcon hd
                have HRC : Hid (rrC r = [.string ⟨r.owner.toArray⟩, .int .i64 (r.ty : Int), .int .i64 (r.cl : Int), .int .i64 (r.ttl : Int), .string ⟨r.dat.toArray⟩]) := by rw [Hid]; rfl
                obtain ⟨N, HN⟩ : ∃ N, Hid (N = (m.an ++ [r]).length) := ⟨_, rfl⟩
                generalize (⟨r.owner.toArray⟩ : ByteArray) = d1 at *
                generalize (r.ty : Int) = d2 at *
                generalize (r.cl : Int) = d3 at *
                generalize (r.ttl : Int) = d4 at *
                generalize (⟨r.dat.toArray⟩ : ByteArray) = d5 at *
                go_wp2_with (first | (go_at_call 32; refine hcall.mono ?_; rintro e w5 ⟨rfl, hb5⟩; have hbA := ((Below.refl w5.heap.size w5).alloc (Nat.le_refl _) (.cells #[.string d1, .int .i64 d2, .int .i64 d3, .int .i64 d4, .string d5] 66)); have S6 := (Sk.below hb5).below hbA; have L6 := lists_below (lists_below Lk hb5) hbA; have r6 := (blk_cell S6.mb 12); have f6 := blk_frozen S6.mb 12; have hz6 := S6.be.size; clear Sk Lk) | (at_builtin; refine wpList_append_own_at _ rfl (.tmp 122) (.tmp 124) 27 rfl w.heap.size 66 j0 (.agg #[.string ByteArray.empty, .int .i64 0, .int .i64 0, .int .i64 0, .string ByteArray.empty]) 5 56 Try.underlying27 hj kz0 kz1 kz2 rfl (by decide) _ _ _ rfl (own_below L6.ra ((Below.refl _ _).alloc (Nat.le_refl _) _)) ⟨w5.heap.size + 1, 0, none⟩ 1 1 [.string d1, .int .i64 d2, .int .i64 d3, .int .i64 d4, .string d5] rfl rfl (by simpa using cell_new5 (w5.alloc (.cells #[.string d1, .int .i64 d2, .int .i64 d3, .int .i64 d4, .string d5] 66)) [.string d1, .int .i64 d2, .int .i64 d3, .int .i64 d4, .string d5] 66) (by intro u hu; simp at hu; rcases hu with rfl | rfl | rfl | rfl | rfl <;> rfl) (by have := HLN.out; unfold maxLen; omega) (by have := HLN.out; omega) (by simp at hz6 ⊢; omega) ?_; intro va wa ho9 hg9 hnl9 hat9; clear hnl9; rw [← HRC.out, ← rrCs_snoc] at ho9; have hbB := ((Below.refl (w5.alloc (.cells #[.string d1, .int .i64 d2, .int .i64 d3, .int .i64 d4, .string d5] 66)).heap.size (w5.alloc (.cells #[.string d1, .int .i64 d2, .int .i64 d3, .int .i64 d4, .string d5] 66))).alloc (Nat.le_refl _) (.cells #[.string d1, .int .i64 d2, .int .i64 d3, .int .i64 d4, .string d5] 66)); have L7 := lists_below L6 hbB; have S9 := (S6.below hbB).row (B := 0) L7.ra hg9 (by decide) (by decide) (by decide); have L9 := L7.app1 ho9 hg9 hat9; obtain ⟨xb, yb, hvb⟩ : ∃ xb yb, va = .slice xb N yb := (by rw [HN.out, List.length_append]; exact row_val ho9); subst hvb; have c9 : wa.cell? ⟨b + 1 + 1, 12, none⟩ = some (.slice a2 m.an.length c2) := (blk_cell S9.mb 12); have f9 := blk_frozen S9.mb 12; have HS10 := Nm.hide (And.intro (S9.field 12 (.slice xb N yb)) (lists_field (i := 12) (v := .slice xb N yb) L9 S9.mb)); clear S9 L9 L7 L6 S6 ho9 hg9 hat9 r6 f6))
                go_roundw
                case rel =>
                  obtain rfl : N = _ := HN.out
                  have hlen := HLN.out
                  exact ⟨i + 1, q, ⟨m.qs, m.an ++ [r], m.au, m.ex⟩, pos, a1, xb, a3, a4, c1, yb, c3, c4, by go_num, by go_num, by go_num, by omega, hqp, ⟨by simp; omega, hlen.2.1, hlen.2.2⟩, HLI2.out, HS10.out.1, HS10.out.2, HCON.out⟩
                case measure => simp [intOf]; omega
            · have hke : i = k2 := by omega
              rw [hke, Nat.sub_self, contK_zero (by decide) (by decide)] at hcon
              have hlt' : (k2 : Int) ≤ (i : Int) := by omega
              have HSL := Nm.hide (And.intro Sk (And.intro Lk hcon))
              clear Sk Lk hcon
              go_wp2
              go_roundw
              case rel =>
                have hlen := HLN.out
                exact ⟨2, pos, 2, m, nl, a1, a2, a3, a4, c1, c2, c3, c4, rfl, rfl, by go_num, rfl, by decide, by decide, hpos, ⟨fun h => by omega, fun _ => hlen.2.1, fun _ => hlen.2.2⟩, HLI.out, HSL.out.1, HSL.out.2.1, HSL.out.2.2⟩
              case measure => simp [intOf]
        · -- the authority
          obtain rfl : z = 2 := HZ.out
          have hle := HLE.out
          rw [HC2.out] at hcon
          go_wp2
          go_loopw [9, 10, 17] (fun vp vl vi wr => ∃ (i pos : Nat) (m : Mm) (nl : Int) (a1 a2 a3 a4 : Option Addr) (c1 c2 c3 c4 : Nat), vp = .int .i64 pos ∧ vl = .int .i64 nl ∧ vi = .int .i64 i ∧ i ≤ k3 ∧ pos ≤ l.length ∧ Hid (m.au.length = i ∧ m.ex.length = 0) ∧ Hid (LI l P1 m pos nl) ∧ SSt w wr b #[.int .i64 (n16 l 0), .bool t15, .int .i64 op, .bool t10, .bool t9, .bool t8, .bool t7, .bool t6, .bool t5, .bool t4, .int .i64 cd] #[.int .i64 k1, .int .i64 k2, .int .i64 k3, .int .i64 k4] #[.int .i64 (n16 l 0), .bool t15, .int .i64 op, .bool t10, .bool t9, .bool t8, .bool t7, .bool t6, .bool t5, .bool t4, .int .i64 cd, .slice a1 m.qs.length c1, .slice a2 m.an.length c2, .slice a3 m.au.length c3, .slice a4 m.ex.length c4] ∧ Lists wr w.heap.size m (.slice a1 m.qs.length c1) (.slice a2 m.an.length c2) (.slice a3 m.au.length c3) (.slice a4 m.ex.length c4) ∧ contK l 2 (k3 - i) pos m = R2)
            (fun _ _ vi _ => k3 - (intOf vi).toNat)
          case atStart => exact ⟨0, pos, m, nl, a1, a2, a3, a4, c1, c2, c3, c4, rfl, rfl, rfl, Nat.zero_le _, hpos, ⟨hle.2.1 (by decide), hle.2.2 (by decide)⟩, HLI.out, Sq, Lq, hcon⟩
          case round =>
            clear Sq Lq hcon hle HLE HLI hpos
            obtain ⟨i, pos, m, nl, a1, a2, a3, a4, c1, c2, c3, c4, rfl, rfl, rfl, hik, hpos, HLN, HLI, Sk, Lk, hcon⟩ := hrel
            have cc := fun i => blk_cell Sk.cb i
            by_cases hlt : i < k3
            · have hlt' : (i : Int) < (k3 : Int) := by omega
              have hck : k3 - i = (k3 - (i + 1)) + 1 := by omega
              rw [hck] at hcon
              have hcall := hrr pos wr (hby.below Sk.be) hpos
              cases hd : rrS l pos using Rs.elim with
              | bad c =>
                rw [hd] at hcall
                simp only [rrV, rr0] at hcall
                have hcn : (c != 0) = true := by rw [bne_iff_ne]; exact rrS_code hd
                have HB := Nm.hide (HR2.out.trans ((contK_bad (by decide) (by decide) hd).symm.trans hcon).symm)
                go_wp2_with (go_at_call 32; refine hcall.mono ?_; rintro e w5 ⟨rfl, hb5⟩; have S5 := (Sk.below hb5).below ((Below.refl _ _).alloc (Nat.le_refl _) (.cells #[.string ByteArray.empty, .int .i64 0, .int .i64 0, .int .i64 0, .string ByteArray.empty] 66)); have r5 := (fun i => blk_cell S5.res i); have f5 := (fun i => blk_frozen S5.res i); have HL := Nm.hide (S5.lay ms0.toList rfl); simp only [setAll, ms0, Nat.reduceAdd, Nat.zero_add] at HL r5; clear Sk S5 Lk)
                refine read_back HL.out.1 ⟨_, _, _, _, _, _, _, _, _, _, _, _, _, _, _, rfl⟩ rfl rfl rfl rfl ?_
                exact ⟨HL.out.2, .inr ⟨_, _, HB.out, rfl⟩⟩
              | ok r q =>
                rw [hd] at hcall
                simp only [rrV, rrG] at hcall
                have hqp := rrS_place hd
                have HCON : Hid (contK l 2 (k3 - (i + 1)) q ⟨m.qs, m.an, m.au ++ [r], m.ex⟩ = R2) := by rw [Hid, ← hcon, contK_ok (by decide) (by decide) hd]; rfl
                have HLI2 : Hid (LI l P1 ⟨m.qs, m.an, m.au ++ [r], m.ex⟩ q (pos : Int)) := LI_2 HLI.out hd HLN.out.2
                clear HLI
                clear hcon hd
                have HRC : Hid (rrC r = [.string ⟨r.owner.toArray⟩, .int .i64 (r.ty : Int), .int .i64 (r.cl : Int), .int .i64 (r.ttl : Int), .string ⟨r.dat.toArray⟩]) := by rw [Hid]; rfl
                obtain ⟨N, HN⟩ : ∃ N, Hid (N = (m.au ++ [r]).length) := ⟨_, rfl⟩
                generalize (⟨r.owner.toArray⟩ : ByteArray) = d1 at *
                generalize (r.ty : Int) = d2 at *
                generalize (r.cl : Int) = d3 at *
                generalize (r.ttl : Int) = d4 at *
                generalize (⟨r.dat.toArray⟩ : ByteArray) = d5 at *
                go_wp2_with (first | (go_at_call 32; refine hcall.mono ?_; rintro e w5 ⟨rfl, hb5⟩; have hbA := ((Below.refl w5.heap.size w5).alloc (Nat.le_refl _) (.cells #[.string d1, .int .i64 d2, .int .i64 d3, .int .i64 d4, .string d5] 66)); have S6 := (Sk.below hb5).below hbA; have L6 := lists_below (lists_below Lk hb5) hbA; have r6 := (blk_cell S6.mb 13); have f6 := blk_frozen S6.mb 13; have hz6 := S6.be.size; clear Sk Lk) | (at_builtin; refine wpList_append_own_at _ rfl (.tmp 130) (.tmp 132) 27 rfl w.heap.size 66 j0 (.agg #[.string ByteArray.empty, .int .i64 0, .int .i64 0, .int .i64 0, .string ByteArray.empty]) 5 56 Try.underlying27 hj kz0 kz1 kz2 rfl (by decide) _ _ _ rfl (own_below L6.ru ((Below.refl _ _).alloc (Nat.le_refl _) _)) ⟨w5.heap.size + 1, 0, none⟩ 1 1 [.string d1, .int .i64 d2, .int .i64 d3, .int .i64 d4, .string d5] rfl rfl (by simpa using cell_new5 (w5.alloc (.cells #[.string d1, .int .i64 d2, .int .i64 d3, .int .i64 d4, .string d5] 66)) [.string d1, .int .i64 d2, .int .i64 d3, .int .i64 d4, .string d5] 66) (by intro u hu; simp at hu; rcases hu with rfl | rfl | rfl | rfl | rfl <;> rfl) (by have := HLN.out; unfold maxLen; omega) (by have := HLN.out; omega) (by simp at hz6 ⊢; omega) ?_; intro va wa ho9 hg9 hnl9 hat9; clear hnl9; rw [← HRC.out, ← rrCs_snoc] at ho9; have hbB := ((Below.refl (w5.alloc (.cells #[.string d1, .int .i64 d2, .int .i64 d3, .int .i64 d4, .string d5] 66)).heap.size (w5.alloc (.cells #[.string d1, .int .i64 d2, .int .i64 d3, .int .i64 d4, .string d5] 66))).alloc (Nat.le_refl _) (.cells #[.string d1, .int .i64 d2, .int .i64 d3, .int .i64 d4, .string d5] 66)); have L7 := lists_below L6 hbB; have S9 := (S6.below hbB).row (B := 0) L7.ru hg9 (by decide) (by decide) (by decide); have L9 := L7.app2 ho9 hg9 hat9; obtain ⟨xb, yb, hvb⟩ : ∃ xb yb, va = .slice xb N yb := (by rw [HN.out, List.length_append]; exact row_val ho9); subst hvb; have c9 : wa.cell? ⟨b + 1 + 1, 13, none⟩ = some (.slice a3 m.au.length c3) := (blk_cell S9.mb 13); have f9 := blk_frozen S9.mb 13; have HS10 := Nm.hide (And.intro (S9.field 13 (.slice xb N yb)) (lists_field (i := 13) (v := .slice xb N yb) L9 S9.mb)); clear S9 L9 L7 L6 S6 ho9 hg9 hat9 r6 f6))
                go_roundw
                case rel =>
                  obtain rfl : N = _ := HN.out
                  have hlen := HLN.out
                  exact ⟨i + 1, q, ⟨m.qs, m.an, m.au ++ [r], m.ex⟩, pos, a1, a2, xb, a4, c1, c2, yb, c4, by go_num, by go_num, by go_num, by omega, hqp, ⟨by simp; omega, hlen.2⟩, HLI2.out, HS10.out.1, HS10.out.2, HCON.out⟩
                case measure => simp [intOf]; omega
            · have hke : i = k3 := by omega
              rw [hke, Nat.sub_self, contK_zero (by decide) (by decide)] at hcon
              have hlt' : (k3 : Int) ≤ (i : Int) := by omega
              have HSL := Nm.hide (And.intro Sk (And.intro Lk hcon))
              clear Sk Lk hcon
              go_wp2
              go_roundw
              case rel =>
                have hlen := HLN.out
                exact ⟨3, pos, 3, m, nl, a1, a2, a3, a4, c1, c2, c3, c4, rfl, rfl, by go_num, rfl, by decide, by decide, hpos, ⟨fun h => by omega, fun h => by omega, fun _ => hlen.2⟩, HLI.out, HSL.out.1, HSL.out.2.1, HSL.out.2.2⟩
              case measure => simp [intOf]
        · -- the extra records
          obtain rfl : z = 3 := HZ.out
          have hle := HLE.out
          rw [HC3.out] at hcon
          go_wp2
          go_loopw [9, 10, 17] (fun vp vl vi wr => ∃ (i pos : Nat) (m : Mm) (nl : Int) (a1 a2 a3 a4 : Option Addr) (c1 c2 c3 c4 : Nat), vp = .int .i64 pos ∧ vl = .int .i64 nl ∧ vi = .int .i64 i ∧ i ≤ k4 ∧ pos ≤ l.length ∧ Hid (m.ex.length = i) ∧ Hid (LI l P1 m pos nl) ∧ SSt w wr b #[.int .i64 (n16 l 0), .bool t15, .int .i64 op, .bool t10, .bool t9, .bool t8, .bool t7, .bool t6, .bool t5, .bool t4, .int .i64 cd] #[.int .i64 k1, .int .i64 k2, .int .i64 k3, .int .i64 k4] #[.int .i64 (n16 l 0), .bool t15, .int .i64 op, .bool t10, .bool t9, .bool t8, .bool t7, .bool t6, .bool t5, .bool t4, .int .i64 cd, .slice a1 m.qs.length c1, .slice a2 m.an.length c2, .slice a3 m.au.length c3, .slice a4 m.ex.length c4] ∧ Lists wr w.heap.size m (.slice a1 m.qs.length c1) (.slice a2 m.an.length c2) (.slice a3 m.au.length c3) (.slice a4 m.ex.length c4) ∧ contK l 3 (k4 - i) pos m = R2)
            (fun _ _ vi _ => k4 - (intOf vi).toNat)
          case atStart => exact ⟨0, pos, m, nl, a1, a2, a3, a4, c1, c2, c3, c4, rfl, rfl, rfl, Nat.zero_le _, hpos, (hle.2.2 (by decide)), HLI.out, Sq, Lq, hcon⟩
          case round =>
            clear Sq Lq hcon hle HLE HLI hpos
            obtain ⟨i, pos, m, nl, a1, a2, a3, a4, c1, c2, c3, c4, rfl, rfl, rfl, hik, hpos, HLN, HLI, Sk, Lk, hcon⟩ := hrel
            have cc := fun i => blk_cell Sk.cb i
            by_cases hlt : i < k4
            · have hlt' : (i : Int) < (k4 : Int) := by omega
              have hck : k4 - i = (k4 - (i + 1)) + 1 := by omega
              rw [hck] at hcon
              have hcall := hrr pos wr (hby.below Sk.be) hpos
              cases hd : rrS l pos using Rs.elim with
              | bad c =>
                rw [hd] at hcall
                simp only [rrV, rr0] at hcall
                have hcn : (c != 0) = true := by rw [bne_iff_ne]; exact rrS_code hd
                have HB := Nm.hide (HR2.out.trans ((contK_bad (by decide) (by decide) hd).symm.trans hcon).symm)
                go_wp2_with (go_at_call 32; refine hcall.mono ?_; rintro e w5 ⟨rfl, hb5⟩; have S5 := (Sk.below hb5).below ((Below.refl _ _).alloc (Nat.le_refl _) (.cells #[.string ByteArray.empty, .int .i64 0, .int .i64 0, .int .i64 0, .string ByteArray.empty] 66)); have r5 := (fun i => blk_cell S5.res i); have f5 := (fun i => blk_frozen S5.res i); have HL := Nm.hide (S5.lay ms0.toList rfl); simp only [setAll, ms0, Nat.reduceAdd, Nat.zero_add] at HL r5; clear Sk S5 Lk)
                refine read_back HL.out.1 ⟨_, _, _, _, _, _, _, _, _, _, _, _, _, _, _, rfl⟩ rfl rfl rfl rfl ?_
                exact ⟨HL.out.2, .inr ⟨_, _, HB.out, rfl⟩⟩
              | ok r q =>
                rw [hd] at hcall
                simp only [rrV, rrG] at hcall
                have hqp := rrS_place hd
                have HCON : Hid (contK l 3 (k4 - (i + 1)) q ⟨m.qs, m.an, m.au, m.ex ++ [r]⟩ = R2) := by rw [Hid, ← hcon, contK_ok (by decide) (by decide) hd]; rfl
                have HLI2 : Hid (LI l P1 ⟨m.qs, m.an, m.au, m.ex ++ [r]⟩ q (pos : Int)) := LI_3 HLI.out hd 
                clear HLI
                clear hcon hd
                have HRC : Hid (rrC r = [.string ⟨r.owner.toArray⟩, .int .i64 (r.ty : Int), .int .i64 (r.cl : Int), .int .i64 (r.ttl : Int), .string ⟨r.dat.toArray⟩]) := by rw [Hid]; rfl
                obtain ⟨N, HN⟩ : ∃ N, Hid (N = (m.ex ++ [r]).length) := ⟨_, rfl⟩
                generalize (⟨r.owner.toArray⟩ : ByteArray) = d1 at *
                generalize (r.ty : Int) = d2 at *
                generalize (r.cl : Int) = d3 at *
                generalize (r.ttl : Int) = d4 at *
                generalize (⟨r.dat.toArray⟩ : ByteArray) = d5 at *
                go_wp2_with (first | (go_at_call 32; refine hcall.mono ?_; rintro e w5 ⟨rfl, hb5⟩; have hbA := ((Below.refl w5.heap.size w5).alloc (Nat.le_refl _) (.cells #[.string d1, .int .i64 d2, .int .i64 d3, .int .i64 d4, .string d5] 66)); have S6 := (Sk.below hb5).below hbA; have L6 := lists_below (lists_below Lk hb5) hbA; have r6 := (blk_cell S6.mb 14); have f6 := blk_frozen S6.mb 14; have hz6 := S6.be.size; clear Sk Lk) | (at_builtin; refine wpList_append_own_at _ rfl (.tmp 138) (.tmp 140) 27 rfl w.heap.size 66 j0 (.agg #[.string ByteArray.empty, .int .i64 0, .int .i64 0, .int .i64 0, .string ByteArray.empty]) 5 56 Try.underlying27 hj kz0 kz1 kz2 rfl (by decide) _ _ _ rfl (own_below L6.rx ((Below.refl _ _).alloc (Nat.le_refl _) _)) ⟨w5.heap.size + 1, 0, none⟩ 1 1 [.string d1, .int .i64 d2, .int .i64 d3, .int .i64 d4, .string d5] rfl rfl (by simpa using cell_new5 (w5.alloc (.cells #[.string d1, .int .i64 d2, .int .i64 d3, .int .i64 d4, .string d5] 66)) [.string d1, .int .i64 d2, .int .i64 d3, .int .i64 d4, .string d5] 66) (by intro u hu; simp at hu; rcases hu with rfl | rfl | rfl | rfl | rfl <;> rfl) (by have := HLN.out; unfold maxLen; omega) (by have := HLN.out; omega) (by simp at hz6 ⊢; omega) ?_; intro va wa ho9 hg9 hnl9 hat9; clear hnl9; rw [← HRC.out, ← rrCs_snoc] at ho9; have hbB := ((Below.refl (w5.alloc (.cells #[.string d1, .int .i64 d2, .int .i64 d3, .int .i64 d4, .string d5] 66)).heap.size (w5.alloc (.cells #[.string d1, .int .i64 d2, .int .i64 d3, .int .i64 d4, .string d5] 66))).alloc (Nat.le_refl _) (.cells #[.string d1, .int .i64 d2, .int .i64 d3, .int .i64 d4, .string d5] 66)); have L7 := lists_below L6 hbB; have S9 := (S6.below hbB).row (B := 0) L7.rx hg9 (by decide) (by decide) (by decide); have L9 := L7.app3 ho9 hg9 hat9; obtain ⟨xb, yb, hvb⟩ : ∃ xb yb, va = .slice xb N yb := (by rw [HN.out, List.length_append]; exact row_val ho9); subst hvb; have c9 : wa.cell? ⟨b + 1 + 1, 14, none⟩ = some (.slice a4 m.ex.length c4) := (blk_cell S9.mb 14); have f9 := blk_frozen S9.mb 14; have HS10 := Nm.hide (And.intro (S9.field 14 (.slice xb N yb)) (lists_field (i := 14) (v := .slice xb N yb) L9 S9.mb)); clear S9 L9 L7 L6 S6 ho9 hg9 hat9 r6 f6))
                go_roundw
                case rel =>
                  obtain rfl : N = _ := HN.out
                  have hlen := HLN.out
                  exact ⟨i + 1, q, ⟨m.qs, m.an, m.au, m.ex ++ [r]⟩, pos, a1, a2, a3, xb, c1, c2, c3, yb, by go_num, by go_num, by go_num, by omega, hqp, (by simp; omega), HLI2.out, HS10.out.1, HS10.out.2, HCON.out⟩
                case measure => simp [intOf]; omega
            · have hke : i = k4 := by omega
              rw [hke, Nat.sub_self, contK_zero (by decide) (by decide)] at hcon
              have hlt' : (k4 : Int) ≤ (i : Int) := by omega
              have HSL := Nm.hide (And.intro Sk (And.intro Lk hcon))
              clear Sk Lk hcon
              go_wp2
              go_roundw
              case rel =>
                have hlen := HLN.out
                exact ⟨4, pos, 4, m, nl, a1, a2, a3, a4, c1, c2, c3, c4, rfl, rfl, by go_num, rfl, by decide, by decide, hpos, ⟨fun h => by omega, fun h => by omega, fun h => by omega⟩, HLI.out, HSL.out.1, HSL.out.2.1, HSL.out.2.2⟩
              case measure => simp [intOf]
        · obtain rfl : z = 4 := HZ.out
          rw [contK_end] at hcon
          have r5 := (fun i => blk_cell Sq.res i)
          have f5 := (fun i => blk_frozen Sq.res i)
          by_cases hend : pos < l.length
          · rw [if_pos hend] at hcon
            have hne : ((pos : Int) != (l.length : Int)) = true := by rw [bne_iff_ne]; omega
            have HB := Nm.hide (HR2.out.trans hcon.symm)
            have HL := Nm.hide (Sq.lay ms0.toList rfl)
            simp only [setAll, ms0, Nat.reduceAdd, Nat.zero_add] at HL r5
            clear Sq Lq hcon
            go_wp2
            refine read_back HL.out.1 ⟨_, _, _, _, _, _, _, _, _, _, _, _, _, _, _, rfl⟩ rfl rfl rfl rfl ?_
            exact ⟨HL.out.2, .inr ⟨_, _, HB.out, rfl⟩⟩
          · rw [if_neg hend] at hcon
            have hne : ((pos : Int) != (l.length : Int)) = false := by simp; omega
            have HB := Nm.hide (HR2.out.trans hcon.symm)
            have HL := Nm.hide (And.intro (Sq.lay [.int .i64 (n16 l 0), .bool t15, .int .i64 op, .bool t10, .bool t9, .bool t8, .bool t7, .bool t6, .bool t5, .bool t4, .int .i64 cd, .slice a1 m.qs.length c1, .slice a2 m.an.length c2, .slice a3 m.au.length c3, .slice a4 m.ex.length c4] rfl) (lists_setAll Lq Sq.res [.int .i64 (n16 l 0), .bool t15, .int .i64 op, .bool t10, .bool t9, .bool t8, .bool t7, .bool t6, .bool t5, .bool t4, .int .i64 cd, .slice a1 m.qs.length c1, .slice a2 m.an.length c2, .slice a3 m.au.length c3, .slice a4 m.ex.length c4] 0))
            have r6 := (fun i => blk_cell Sq.mb i)
            simp only [setAll, ms0, Nat.reduceAdd, Nat.zero_add] at HL r5
            clear Sq Lq hcon
            go_wp2
            refine read_back HL.out.1.1 ⟨_, _, _, _, _, _, _, _, _, _, _, _, _, _, _, rfl⟩ rfl rfl rfl rfl ?_
            exact ⟨HL.out.1.2, .inl ⟨m, pos, _, _, _, _, _, HB.out, by rw [HVA.out], HL.out.2, _, _, _, HQ1.out, HLI.out⟩⟩
end Go.Proofs.Ytihhchebcojplaa
/- (*reader).message where a list is bad. -/
namespace Go.Proofs.Ytihhchebcojplaa
open Go.RowKit
set_option linter.unusedVariables false

set_option maxRecDepth 100000 in
set_option maxHeartbeats 8000000 in
theorem message_a (g : Nat) (a : Option Addr) (l : List UInt8) (cap : Nat) (w : World) (h : Rd w g (.slice a l.length cap) 0) (hfar : ∀ w', w.grownBy w' (some g) → BySl w' (.slice a l.length cap) l) (hnn : l.length ≤ 1048576)
    (hbig : ¬ 65535 < l.length) (hsh : ¬ l.length < 12) (hcnt : ¬ 400 < n16 l 4 + n16 l 6 + n16 l 8 + n16 l 10) {c : Int} (hd1 : manyS (quS l) (n16 l 4) 12 [] = .bad c) :
    Calls Try.prog 17 #[.pointer (some ⟨g, 0, none⟩)] w fun e w' => e = .panicked (fault c) ∧ w.grownBy w' (some g) := by
  have hglt := rd_lt h
  have c0 : w.cell? ⟨g, 0, none⟩ = some (.slice a l.length cap) := by rw [cell_of_row _ _ _ _ _ _ h]; rfl
  have hbe : Below w.heap.size w (w.alloc (.cells ms0 29)) := (Below.refl _ _).alloc (Nat.le_refl _) _
  have hb0 := blk_new w ms0 29
  have hr0 := rd_below h hbe
  have hg0 := hgr_below (World.grownBy.refl w (some g)) hbe
  simp only [ms0] at hbe hb0 hr0 hg0
  have hbig' : (l.length : Int) ≤ 65535 := by omega
  have hhd := head_any g a l cap _ hr0 (fun W hW => hfar W (hgr_step hg0 hW)) hnn
  have c1 := (blk_cell (rd_blk hr0) 0)
  have hhd' := hhd.mono (R' := fun e w' => e = .returned (.tuple #[.agg (hdA (n16 l 0) (n16 l 2)), .agg (ctA l)]) ∧ Rd w' g (.slice a l.length cap) 12 ∧ w.grownBy w' (some g) ∧ Blk w' w.heap.size ms0 29) (by
    rintro e w' (⟨_, he, hr, hg⟩ | ⟨hx, _⟩)
    · exact ⟨he, hr, hgr_step hg0 hg, blk_grown hb0 hg (by simp; omega)⟩
    · omega)
  clear hhd hb0 hr0 hbe
  have q4 := n16_lt l 4
  have q6 := n16_lt l 6
  have q8 := n16_lt l 8
  have q10 := n16_lt l 10
  simp only [hdA, ctA] at hhd'
  have hcnt' : (n16 l 4 : Int) + (n16 l 6 : Int) + (n16 l 8 : Int) + (n16 l 10 : Int) ≤ 400 := by omega
  go_enter Try.func17, Try.ntmps17
  go_wp2_with (first | (go_at_call 34; refine hhd'.mono ?_; rintro e w2 ⟨rfl, hr2, hg2, hb2⟩))
  have M0 := mst_new (n := l.length) (d := n16 l 0) (f := n16 l 2) (l := l) hr2 (by omega) hg2 hb2 hglt
  simp only [hdA, ctA, Int.natCast_emod, Int.natCast_ediv] at M0
  refine gen_world2 (Pr := fun W => MSt w W g w2.heap.size _ _ _ l.length 12) (G := fun W => Code.wp _ _ _ _ W) M0 ?_
  clear M0 hr2 hg2 hb2
  generalize w2.heap.size = b
  intro W0 M0
  have hqu := fun W (h : MSt w W g b (.slice a l.length cap) #[.int .i64 (n16 l 0), .bool ((n16 l 2).testBit 15), .int .i64 ((n16 l 2 : Int) / 2048 % 16), .bool ((n16 l 2).testBit 10), .bool ((n16 l 2).testBit 9), .bool ((n16 l 2).testBit 8), .bool ((n16 l 2).testBit 7), .bool ((n16 l 2).testBit 6), .bool ((n16 l 2).testBit 5), .bool ((n16 l 2).testBit 4), .int .i64 ((n16 l 2 : Int) % 16)] #[.int .i64 (n16 l 4), .int .i64 (n16 l 6), .int .i64 (n16 l 8), .int .i64 (n16 l 10)] l.length 12) => questions_any g a l cap 12 (n16 l 4) W h.rd (fun W2 hW2 => hfar W2 (hgr_step h.grown hW2)) h.le hnn (by omega)
  have hrr := fun W (p k : Nat) (hk : k < 65536) (h : MSt w W g b (.slice a l.length cap) #[.int .i64 (n16 l 0), .bool ((n16 l 2).testBit 15), .int .i64 ((n16 l 2 : Int) / 2048 % 16), .bool ((n16 l 2).testBit 10), .bool ((n16 l 2).testBit 9), .bool ((n16 l 2).testBit 8), .bool ((n16 l 2).testBit 7), .bool ((n16 l 2).testBit 6), .bool ((n16 l 2).testBit 5), .bool ((n16 l 2).testBit 4), .int .i64 ((n16 l 2 : Int) % 16)] #[.int .i64 (n16 l 4), .int .i64 (n16 l 6), .int .i64 (n16 l 8), .int .i64 (n16 l 10)] l.length p) => records_any g a l cap p k W h.rd (fun W2 hW2 => hfar W2 (hgr_step h.grown hW2)) h.le hnn (by omega)
  have HVA : Hid (∀ q x y z, msA (n16 l 0) (n16 l 2) q x y z = #[.int .i64 (n16 l 0), .bool ((n16 l 2).testBit 15), .int .i64 ((n16 l 2 : Int) / 2048 % 16), .bool ((n16 l 2).testBit 10), .bool ((n16 l 2).testBit 9), .bool ((n16 l 2).testBit 8), .bool ((n16 l 2).testBit 7), .bool ((n16 l 2).testBit 6), .bool ((n16 l 2).testBit 5), .bool ((n16 l 2).testBit 4), .int .i64 ((n16 l 2 : Int) % 16), q, x, y, z]) := by
    intro q x y z; simp [msA]
  generalize ((n16 l 2 : Nat) : Int) / 2048 % 16 = op at *
  generalize ((n16 l 2 : Nat) : Int) % 16 = cd at *
  generalize (n16 l 2).testBit 15 = t15 at *
  generalize (n16 l 2).testBit 10 = t10 at *
  generalize (n16 l 2).testBit 9 = t9 at *
  generalize (n16 l 2).testBit 8 = t8 at *
  generalize (n16 l 2).testBit 7 = t7 at *
  generalize (n16 l 2).testBit 6 = t6 at *
  generalize (n16 l 2).testBit 5 = t5 at *
  generalize (n16 l 2).testBit 4 = t4 at *
  generalize n16 l 4 = k1 at *
  generalize n16 l 6 = k2 at *
  generalize n16 l 8 = k3 at *
  generalize n16 l 10 = k4 at *
  clear hhd' hfar
  have hSM : ∀ W p, MSt w W g b (.slice a l.length cap) #[.int .i64 (n16 l 0), .bool t15, .int .i64 op, .bool t10, .bool t9, .bool t8, .bool t7, .bool t6, .bool t5, .bool t4, .int .i64 cd] #[.int .i64 k1, .int .i64 k2, .int .i64 k3, .int .i64 k4] l.length p → (W.cell? ⟨b, 0, none⟩ = some (.int .i64 (n16 l 0)) ∧ W.cell? ⟨b, 1, none⟩ = some (.bool t15) ∧ W.cell? ⟨b, 2, none⟩ = some (.int .i64 op) ∧ W.cell? ⟨b, 3, none⟩ = some (.bool t10) ∧ W.cell? ⟨b, 4, none⟩ = some (.bool t9) ∧ W.cell? ⟨b, 5, none⟩ = some (.bool t8) ∧ W.cell? ⟨b, 6, none⟩ = some (.bool t7) ∧ W.cell? ⟨b, 7, none⟩ = some (.bool t6) ∧ W.cell? ⟨b, 8, none⟩ = some (.bool t5) ∧ W.cell? ⟨b, 9, none⟩ = some (.bool t4) ∧ W.cell? ⟨b, 10, none⟩ = some (.int .i64 cd) ∧ W.cell? ⟨b + 1, 0, none⟩ = some (.int .i64 k1) ∧ W.cell? ⟨b + 1, 1, none⟩ = some (.int .i64 k2) ∧ W.cell? ⟨b + 1, 2, none⟩ = some (.int .i64 k3) ∧ W.cell? ⟨b + 1, 3, none⟩ = some (.int .i64 k4)) := by
    intro W p h
    exact ⟨blk_cell h.hb 0, blk_cell h.hb 1, blk_cell h.hb 2, blk_cell h.hb 3, blk_cell h.hb 4, blk_cell h.hb 5, blk_cell h.hb 6, blk_cell h.hb 7, blk_cell h.hb 8, blk_cell h.hb 9, blk_cell h.hb 10, blk_cell h.cb 0, blk_cell h.cb 1, blk_cell h.cb 2, blk_cell h.cb 3⟩
  have hS0 := hSM _ _ M0.drew
  have MD := M0.drew
  have hbl := M0.lt
  have hz0 := M0.grown.size
  have hy0 := blk_lt M0.res
  have hqB := fun W h => (hqu W h).mono (R' := fun e w' => e = .panicked (fault c) ∧ W.grownBy w' (some g)) (by
      rintro e w' (⟨_, _, _, hx, _⟩ | ⟨c2, hx, he, hg⟩)
      · rw [hd1] at hx; cases hx
      · rw [hd1] at hx; cases hx; exact ⟨he, hg⟩)
  clear hqu hrr
  go_cut [5] from 31 to 48 (fun _ _ => False)
  case rest => exact hcut.elim
  case first =>
    go_region_held2 (fun W => W.cell? ⟨b, 0, none⟩ = some (.int .i64 (n16 l 0)) ∧ W.cell? ⟨b, 1, none⟩ = some (.bool t15) ∧ W.cell? ⟨b, 2, none⟩ = some (.int .i64 op) ∧ W.cell? ⟨b, 3, none⟩ = some (.bool t10) ∧ W.cell? ⟨b, 4, none⟩ = some (.bool t9) ∧ W.cell? ⟨b, 5, none⟩ = some (.bool t8) ∧ W.cell? ⟨b, 6, none⟩ = some (.bool t7) ∧ W.cell? ⟨b, 7, none⟩ = some (.bool t6) ∧ W.cell? ⟨b, 8, none⟩ = some (.bool t5) ∧ W.cell? ⟨b, 9, none⟩ = some (.bool t4) ∧ W.cell? ⟨b, 10, none⟩ = some (.int .i64 cd) ∧ W.cell? ⟨b + 1, 0, none⟩ = some (.int .i64 k1) ∧ W.cell? ⟨b + 1, 1, none⟩ = some (.int .i64 k2) ∧ W.cell? ⟨b + 1, 2, none⟩ = some (.int .i64 k3) ∧ W.cell? ⟨b + 1, 3, none⟩ = some (.int .i64 k4)) (first | with_reducible assumption | exact hF.out.elim | with_reducible exact hS0 | with_reducible exact hSM _ _ (MD.alloc _) | with_reducible exact hSM _ _ (M0.alloc _).drew | with_reducible exact hSM _ _ (M4.alloc _) | with_reducible exact hSM _ _ (M3.alloc _) | with_reducible exact hSM _ _ (M2.alloc _) | with_reducible exact hSM _ _ (M1.alloc _) | (have hK := hSM _ _ (MSt.sets M4 hB5 (by omega) [.int .i64 (n16 l 0), .bool t15, .int .i64 op, .bool t10, .bool t9, .bool t8, .bool t7, .bool t6, .bool t5, .bool t4, .int .i64 cd, .slice x1 qs.length y1, .slice x2 an.length y2, .slice x3 au.length y3, .slice x4 ex.length y4]); simp only [setAll, Nat.reduceAdd, Nat.zero_add] at hK; with_reducible exact hK)) ((first | (go_at_call 36; refine calls_any (.slice none 0 0) hF ?_) | (go_at_call 35; refine calls_panics (ch := fault c) (.slice none 0 0) (by with_reducible refine (hqB _ (by first | with_reducible exact MD | with_reducible exact MD.alloc _ | with_reducible exact (M0.alloc _).drew)).mono ?_; rintro e w3 ⟨rfl, hg3⟩; refine ⟨rfl, ?_⟩; refine bp_panic rfl ?_; exact ⟨rfl, by first | with_reducible exact hgr_step MD.grown hg3 | with_reducible exact hgr_step (MD.alloc _).grown hg3 | with_reducible exact hgr_step (M0.alloc _).drew.grown hg3⟩) ?_; intro hF)))
    all_goals exact hF.out.elim
end Go.Proofs.Ytihhchebcojplaa
