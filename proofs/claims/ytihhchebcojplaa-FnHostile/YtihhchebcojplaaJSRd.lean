import Derived.Test.YtihhchebcojplaaJSHd
import Derived.Test.YtihhchebcojplaaJLst
import Derived.Test.YtihhchebcojplaaJRd8
import Derived.Test.YtihhchebcojplaaJSDt
/- spec.l04Read by its contract: its variables. -/
namespace Go.Proofs.Ytihhchebcojplaa
open Go.RowKit
set_option linter.unusedVariables false

/-- The variables of the model's reading: the answer's, the head's, the counts', the message's. -/
structure SSt (w W : World) (b : Nat) (hd ct ms : Array Value) : Prop where
  res : Blk W w.heap.size ms0 29
  hb : Blk W b hd 25
  cb : Blk W (b + 1) ct 59
  mb : Blk W (b + 1 + 1) ms 29
  be : Below w.heap.size w W
  lt : w.heap.size < b

section
variable {w W W1 : World} {b : Nat} {hd ct ms : Array Value}

theorem SSt.below (h : SSt w W b hd ct ms) (hb : Below W.heap.size W W1) : SSt w W1 b hd ct ms :=
  ⟨blk_below h.res hb, blk_below h.hb hb, blk_below h.cb hb, blk_below h.mb hb, h.be.trans (hb.mono h.be.size), h.lt⟩

theorem SSt.drew (h : SSt w W b hd ct ms) : SSt w W.drew b hd ct ms := h.below (Below.refl _ _).drew

/-- A list's field is set. -/
theorem SSt.field (h : SSt w W b hd ct ms) (i : Nat) (v : Value) : SSt w (W.setCell ⟨b + 1 + 1, i, none⟩ v) b hd ct (ms.setIfInBounds i v) :=
  have := h.lt
  ⟨blk_far h.res (by omega), blk_far h.hb (by omega), blk_far h.cb (by omega), blk_set h.mb i v, h.be.setCell (by simp; omega) _, h.lt⟩

/-- An append onto a row of the call's own leaves the variables alone. -/
theorem SSt.row {B e s m : Nat} {v : Value} {xs : List Value} (h : SSt w W b hd ct ms) (ho : W.ownsRow w.heap.size e s v m xs) (hg : W.grownBy W1 v.ownBlock) (h1 : e ≠ 29) (h2 : e ≠ 25) (h3 : e ≠ 59) : SSt w W1 b hd ct ms := by
  have key : ∀ {c : Nat} {cs : Array Value} {T : TypeId}, Blk W c cs T → e ≠ T → v.ownBlock ≠ some c := by
    intro c cs T hb hne
    rcases ho.2 with ⟨rfl, _⟩ | ⟨g', cap', cur, rfl, _, hh, _⟩
    · simp [Value.ownBlock]
    · simp only [Value.ownBlock, ne_eq, Option.some.injEq]
      intro e2
      subst e2
      unfold Blk at hb
      rw [hh] at hb
      simp at hb
      exact hne hb.2
  exact ⟨blk_grown h.res hg (key h.res h1), blk_grown h.hb hg (key h.hb h2), blk_grown h.cb hg (key h.cb h3), blk_grown h.mb hg (key h.mb h1), h.be.grown hg h.be.size (fun k hk => (ho.lt k hk).1), h.lt⟩

/-- The answer's variable is laid anew. -/
theorem SSt.lay (h : SSt w W b hd ct ms) (vs : List Value) (hl : ms0.size = vs.length) : Blk (setAll W w.heap.size 0 vs) w.heap.size vs.toArray 29 ∧ Below w.heap.size w (setAll W w.heap.size 0 vs) :=
  ⟨setAll_new _ h.res hl, setAll_below (Nat.le_refl _) _ _ _ h.be⟩
end

/-- What was read is handed back. -/
theorem read_back {W : World} {b : Nat} {cs : Array Value} {R : Ending → World → Prop} {a : Act} {n code : Int} (h : Blk W b cs 29)
    (hc : ∃ x0 x1 x2 x3 x4 x5 x6 x7 x8 x9 x10 x11 x12 x13 x14 : Value, cs = #[x0, x1, x2, x3, x4, x5, x6, x7, x8, x9, x10, x11, x12, x13, x14])
    (h2 : a.tmps[2]? = some (.pointer (some ⟨b, 0, none⟩))) (h3 : a.tmps[3]? = some (.int .i64 n)) (h4 : a.tmps[4]? = some (.int .i64 code)) (hd : a.defers = [])
    (hR : R (.returned (.tuple #[.agg cs, .int .i64 n, .int .i64 code])) W) : bodyPost Try.prog Try.f14 R .ret a W := by
  obtain ⟨x0, x1, x2, x3, x4, x5, x6, x7, x8, x9, x10, x11, x12, x13, x14, rfl⟩ := hc
  refine bodyPost_ret ?_ hd hR
  have r := fun i => blk_cell h i
  simp [results, Try.results14, go_sem, Result.andThen, r, h2, h3, h4]

/-- What the model's reading comes to. -/
def ReadPost (l : List UInt8) (w : World) (e : Ending) (w' : World) : Prop := Below w.heap.size w w' ∧
  ((∃ m p q x y z, ∃ n : Int, msgS l = .ok m p ∧ e = .returned (.tuple #[.agg (msA (n16 l 0) (n16 l 2) q x y z), .int .i64 n, .int .i64 0]) ∧ Lists w' w.heap.size m q x y z ∧ LastOK l m n) ∨
   (∃ c, ∃ n : Int, msgS l = .bad c ∧ e = .returned (.tuple #[.agg ms0, .int .i64 n, .int .i64 c])))

set_option maxRecDepth 100000 in
set_option maxHeartbeats 3200000 in
theorem l04Read_head (v : Value) (l : List UInt8) (w : World) (h : BySl w v l) (hl : l.length ≤ 100000000) (hbad : 65535 < l.length ∨ l.length < 12 ∨ 400 < n16 l 4 + n16 l 6 + n16 l 8 + n16 l 10) :
    Calls Try.prog 14 #[v] w (ReadPost l w) := by
  have hby := h
  obtain ⟨hbl, a, cap, rfl, hcap, hmx, hc⟩ := h
  clear hc
  have be0 : Below w.heap.size w (w.alloc (.cells ms0 29)) := (Below.refl _ _).alloc (Nat.le_refl _) _
  have hb0 := blk_new w ms0 29
  by_cases hbig : 65535 < l.length
  · have hbig' : (65535 : Int) < (l.length : Int) := by omega
    have HM : Hid (msgS l = .bad 11) := by rw [Hid, msgS, if_pos hbig]
    simp only [ms0] at be0 hb0
    go_enter Try.func14, Try.ntmps14
    go_wp2
    refine read_back (b := w.heap.size) (blk_new w _ _) ⟨_, _, _, _, _, _, _, _, _, _, _, _, _, _, _, rfl⟩ rfl rfl rfl rfl ?_
    exact ⟨be0, .inr ⟨_, _, HM.out, rfl⟩⟩
  · have hbig' : (l.length : Int) ≤ 65535 := by omega
    have hdh := specDecodeHead_any (.slice a l.length cap) l _ (hby.below be0) (by omega)
    by_cases hsh : l.length < 12
    · have HM : Hid (msgS l = .bad 8) := by rw [Hid, msgS, if_neg hbig, if_pos hsh]
      have hV : dhV l = .tuple #[.agg hd0, .agg ct0, .int .i64 8] := if_neg (by omega)
      rw [hV] at hdh
      simp only [hd0, ct0, ms0] at hdh be0 hb0
      go_enter Try.func14, Try.ntmps14
      go_wp2_with (go_at_call 29; refine hdh.mono ?_; rintro e w1 ⟨rfl, hb1⟩; have hm1 := blk_alloc (blk_alloc (blk_below hb0 hb1) (.cells #[.int .i64 0, .bool false, .int .i64 0, .bool false, .bool false, .bool false, .bool false, .bool false, .bool false, .bool false, .int .i64 0] 25)) (.cells #[.int .i64 0, .int .i64 0, .int .i64 0, .int .i64 0] 59); have be1 := ((Nm.below_two be0 hb1).alloc (Nm.below_two be0 hb1).size (.cells #[.int .i64 0, .bool false, .int .i64 0, .bool false, .bool false, .bool false, .bool false, .bool false, .bool false, .bool false, .int .i64 0] 25)).alloc (by have := (Nm.below_two be0 hb1).size; simp; omega) (.cells #[.int .i64 0, .int .i64 0, .int .i64 0, .int .i64 0] 59); have r1 := (fun i => blk_cell hm1 i); have f1 := (fun i => blk_frozen hm1 i); have HL := Nm.hide (And.intro (setAll_new ms0.toList hm1 rfl) (setAll_below (Nat.le_refl _) ms0.toList 0 _ be1)); simp only [setAll, ms0, Nat.reduceAdd, Nat.zero_add] at HL)
      refine read_back HL.out.1 ⟨_, _, _, _, _, _, _, _, _, _, _, _, _, _, _, rfl⟩ rfl rfl rfl rfl ?_
      exact ⟨HL.out.2, .inr ⟨_, _, HM.out, rfl⟩⟩
    · have hcnt : 400 < n16 l 4 + n16 l 6 + n16 l 8 + n16 l 10 := by omega
      have HM : Hid (msgS l = .bad 12) := by rw [Hid, msgS, if_neg hbig, if_neg hsh, if_pos hcnt]
      have hV : dhV l = .tuple #[.agg (hdA (n16 l 0) (n16 l 2)), .agg (ctA l), .int .i64 0] := if_pos (by omega)
      rw [hV] at hdh
      have q4 := n16_lt l 4
      have q6 := n16_lt l 6
      have q8 := n16_lt l 8
      have q10 := n16_lt l 10
      have hcnt' : (400 : Int) < (n16 l 4 : Int) + (n16 l 6 : Int) + (n16 l 8 : Int) + (n16 l 10 : Int) := by omega
      simp only [hdA, ctA, ms0] at hdh be0 hb0
      generalize ((n16 l 2 / 2048 % 16 : Nat) : Int) = op at *
      generalize ((n16 l 2 % 16 : Nat) : Int) = cd at *
      generalize (n16 l 2).testBit 15 = t15 at *
      generalize (n16 l 2).testBit 10 = t10 at *
      generalize (n16 l 2).testBit 9 = t9 at *
      generalize (n16 l 2).testBit 8 = t8 at *
      generalize (n16 l 2).testBit 7 = t7 at *
      generalize (n16 l 2).testBit 6 = t6 at *
      generalize (n16 l 2).testBit 5 = t5 at *
      generalize (n16 l 2).testBit 4 = t4 at *
      go_enter Try.func14, Try.ntmps14
      go_wp2_with (go_at_call 29; refine hdh.mono ?_; rintro e w1 ⟨rfl, hb1⟩; have hm1 := blk_alloc (blk_alloc (blk_below hb0 hb1) (.cells #[.int .i64 (n16 l 0), .bool t15, .int .i64 op, .bool t10, .bool t9, .bool t8, .bool t7, .bool t6, .bool t5, .bool t4, .int .i64 cd] 25)) (.cells #[.int .i64 (n16 l 4), .int .i64 (n16 l 6), .int .i64 (n16 l 8), .int .i64 (n16 l 10)] 59); have be1 := ((Nm.below_two be0 hb1).alloc (Nm.below_two be0 hb1).size (.cells #[.int .i64 (n16 l 0), .bool t15, .int .i64 op, .bool t10, .bool t9, .bool t8, .bool t7, .bool t6, .bool t5, .bool t4, .int .i64 cd] 25)).alloc (by have := (Nm.below_two be0 hb1).size; simp; omega) (.cells #[.int .i64 (n16 l 4), .int .i64 (n16 l 6), .int .i64 (n16 l 8), .int .i64 (n16 l 10)] 59); have r1 := (fun i => blk_cell hm1 i); have f1 := (fun i => blk_frozen hm1 i); have HL := Nm.hide (And.intro (setAll_new ms0.toList hm1 rfl) (setAll_below (Nat.le_refl _) ms0.toList 0 _ be1)); simp only [setAll, ms0, Nat.reduceAdd, Nat.zero_add] at HL)
      refine read_back HL.out.1 ⟨_, _, _, _, _, _, _, _, _, _, _, _, _, _, _, rfl⟩ rfl rfl rfl rfl ?_
      exact ⟨HL.out.2, .inr ⟨_, _, HM.out, rfl⟩⟩
end Go.Proofs.Ytihhchebcojplaa
/- (*reader).records by its contract. -/
namespace Go.Proofs.Ytihhchebcojplaa
open Go.RowKit
set_option linter.unusedVariables false

theorem dtP_next (l : List UInt8) (fin : Nat) : ∀ (ps : List (Option Nat)) (p : Nat) (acc d : List UInt8) (q : Nat), dtP l fin ps p acc = .ok d q → q = fin := by
  intro ps
  induction ps with
  | nil => intro p acc d q h; rw [dtP] at h; split at h <;> simp at h; exact h.2.symm
  | cons x ps ih =>
    intro p acc d q h
    cases x with
    | none =>
      rw [dtP] at h
      split at h
      · simp at h
      · split at h
        · exact ih _ _ _ _ h
        · simp at h
    | some n =>
      rw [dtP] at h
      split at h
      · exact ih _ _ _ _ h
      · simp at h

theorem dataS_next {l : List UInt8} {t p fin q : Nat} {d : List UInt8} (h : dataS l t p fin = .ok d q) : q = fin := by
  rw [dataS] at h
  split at h
  · simp at h; exact h.2.symm
  · split at h
    · exact dtP_next _ _ _ _ _ _ _ h
    · split at h <;> simp at h; exact h.2.symm

theorem rrS_bad {l : List UInt8} {p : Nat} {c : Int} (h : dnF l p p [] none = .bad c) : rrS l p = .bad c := by rw [rrS, h]
theorem rrS_short {l : List UInt8} {p nx : Nat} {s : List UInt8} (h : dnF l p p [] none = .ok s nx) (h4 : l.length < nx + 8) : rrS l p = .bad 8 := by rw [rrS, h]; simp only; rw [if_neg (by omega)]
theorem rrS_dat {l : List UInt8} {p nx : Nat} {s : List UInt8} {c : Int} (h : dnF l p p [] none = .ok s nx) (hd : dtaS l (n16 l nx) (nx + 8) = .bad c) : rrS l p = .bad c := by
  rw [dtaS] at hd
  rw [rrS, h]
  simp only
  have e : nx + 8 + 2 = nx + 10 := by omega
  rw [e] at hd
  by_cases h1 : nx + 10 ≤ l.length
  · rw [if_pos h1] at hd ⊢
    by_cases h2 : nx + 10 + n16 l (nx + 8) ≤ l.length
    · rw [if_pos h2] at hd ⊢
      rw [hd]
    · rw [if_neg h2] at hd ⊢
      cases hd; rfl
  · rw [if_neg h1] at hd ⊢
    cases hd; rfl
theorem rrS_ok {l : List UInt8} {p nx q : Nat} {s d : List UInt8} (h : dnF l p p [] none = .ok s nx) (hd : dtaS l (n16 l nx) (nx + 8) = .ok d q) : rrS l p = .ok ⟨s, n16 l nx, n16 l (nx + 2), n32 l (nx + 4), d⟩ q := by
  rw [dtaS] at hd
  rw [rrS, h]
  simp only
  have e : nx + 8 + 2 = nx + 10 := by omega
  rw [e] at hd
  by_cases h1 : nx + 10 ≤ l.length
  · rw [if_pos h1] at hd ⊢
    by_cases h2 : nx + 10 + n16 l (nx + 8) ≤ l.length
    · rw [if_pos h2] at hd ⊢
      rw [hd, dataS_next hd]
    · rw [if_neg h2] at hd
      cases hd
  · rw [if_neg h1] at hd
    cases hd

theorem ESt.store {w W : World} {g n pos e s m b i : Nat} {V vo v : Value} {cs : List Value} (h : ESt w W g V n e s vo m cs pos) (hb : w.heap.size ≤ b) (hbg : g ≠ b) (hrow : ∀ k, vo.ownBlock = some k → k ≠ b) : ESt w (W.setCell ⟨b, i, none⟩ v) g V n e s vo m cs pos := by
  have hg : W.grownBy (W.setCell ⟨b, i, none⟩ v) (some b) := ⟨rfl, rfl, rfl, by simp, fun k _ hk => heap_setCell_other W ⟨b, i, none⟩ k _ (fun e => hk (by simp [e]))⟩
  refine ⟨h.own.kept hg ?_, blk_far (rd_blk h.rd) hbg, h.le, hgr_set h.grown hb, h.ne⟩
  cases hv : vo.ownBlock with
  | none => exact .inl rfl
  | some k => exact .inr (by simpa using hrow k hv)

theorem cell_newS (w : World) (b i : Nat) (v : Value) (vs : List Value) (e : Nat) : ∀ (j : Nat) (u : Value), vs[j]? = some u → ((w.setCell ⟨b, i, none⟩ v).alloc (.cells vs.toArray e)).cell? ((⟨w.heap.size, 0, none⟩ : Addr).add j) = some u := by
  have h := cell_newL (w.setCell ⟨b, i, none⟩ v) vs e
  have e2 : (w.setCell ⟨b, i, none⟩ v).heap.size = w.heap.size := by simp
  rw [e2] at h
  exact h

set_option maxRecDepth 100000 in
set_option maxHeartbeats 3200000 in
theorem records_any (g : Nat) (a : Option Addr) (l : List UInt8) (cap p count : Nat) (w : World) (h : Rd w g (.slice a l.length cap) p) (hfar : ∀ w', w.grownBy w' (some g) → BySl w' (.slice a l.length cap) l) (hp : p ≤ l.length) (hnn : l.length ≤ 1048576) (hcnt : count ≤ 65535) :
    Calls Try.prog 36 #[.pointer (some ⟨g, 0, none⟩), .int .i64 count] w fun e w' =>
      (∃ xs q v, manyS (rrS l) count p [] = .ok xs q ∧ e = .returned v ∧ ESt w w' g (.slice a l.length cap) l.length 66 5 v xs.length (rrCs xs) q) ∨
      (∃ c, manyS (rrS l) count p [] = .bad c ∧ e = .panicked (fault c) ∧ w.grownBy w' (some g)) := by
  obtain ⟨i0, hi, hz0, hz1, hz2⟩ := info_parts Try.infoRR
  have hglt := rd_lt h
  generalize hR : manyS (rrS l) count p [] = R
  go_enter Try.func36, Try.ntmps36
  go_wp2
  go_loopw [5, 8] (fun vo vk wr => ∃ (k pos : Nat) (xs : List Rm) (q : Value), q = vo ∧ vk = .int .i64 k ∧ k ≤ count ∧ xs.length = k ∧ ESt w wr g (.slice a l.length cap) l.length 66 5 vo k (rrCs xs) pos ∧ manyS (rrS l) (count - k) pos xs = R)
    (fun _ vk _ => count - (intOf vk).toNat)
  case atStart => exact ⟨0, p, [], _, rfl, rfl, Nat.zero_le _, rfl, ⟨⟨rfl, .inl ⟨rfl, rfl⟩⟩, h, hp, World.grownBy.refl _ _, by decide⟩, hR⟩
  case round =>
    obtain ⟨k, pos, xs, vo, rfl, rfl, hk, hxl, hst, hres⟩ := hrel
    clear hR h
    by_cases hlt : k < count
    · have hlt' : (k : Int) < (count : Int) := by omega
      have hck : count - k = (count - (k + 1)) + 1 := by omega
      rw [hck, manyS] at hres
      have hnm := name_any g a l cap pos wr hst.rd (hfar _ hst.grown) (fun W hW => hfar W (gr_step hst.grown hW)) hst.le hnn
      have hnum := fun (q sz : Nat) (hsz : sz ≤ 6) W (hs : ESt w W g (.slice a l.length cap) l.length 66 5 vo k (rrCs xs) q) => number_any g a l cap q sz W hs.rd (hfar _ hs.grown) (fun W2 hW2 => hfar W2 (gr_step hs.grown hW2)) hs.le hnn hsz
      have hdt := fun (q t : Nat) W (hs : ESt w W g (.slice a l.length cap) l.length 66 5 vo k (rrCs xs) q) => data_any g a l cap q t W hs.rd (fun W2 hW2 => hfar W2 (gr_step hs.grown hW2)) hs.le hnn
      have HRD : Hid (∀ W W2 q q2, ESt w W g (.slice a l.length cap) l.length 66 5 vo k (rrCs xs) q → W.grownBy W2 (some g) → Rd W2 g (.slice a l.length cap) q2 → q2 ≤ l.length → ESt w W2 g (.slice a l.length cap) l.length 66 5 vo k (rrCs xs) q2) := by exact fun W W2 q q2 hs hW hr hle => hs.read hW hr hle
      cases hd : dnF l pos pos [] none using Rs.elim with
      | bad c =>
        rw [rrS_bad hd] at hres
        simp only at hres
        subst hres
        have hnm' := hnm.mono (R' := fun e w' => e = .panicked (fault c) ∧ wr.grownBy w' (some g)) (by
          rintro e w2 (⟨_, _, hx, _⟩ | ⟨c2, hx, he, hg2⟩)
          · rw [hd] at hx; cases hx
          · rw [hd] at hx; cases hx; exact ⟨he, hg2⟩)
        have HG : Hid (∀ W, wr.grownBy W (some g) → w.grownBy W (some g)) := by exact fun W hW => gr_step hst.grown hW
        clear hnm hst hfar hnum HRD hdt
        go_wp2_with (go_at_call 56; refine hnm'.mono ?_; rintro e w6 ⟨rfl, hg6⟩)
        refine bp_panic rfl ?_
        exact .inr ⟨_, rfl, rfl, HG.out _ hg6⟩
      | ok s nx =>
        have hnm' := hnm.mono (R' := fun e w' => e = .returned (.string ⟨s.toArray⟩) ∧ Rd w' g (.slice a l.length cap) nx ∧ nx ≤ l.length ∧ wr.grownBy w' (some g)) (by
          rintro e w2 (⟨_, _, hx, he, hr, hn, hg2⟩ | ⟨c2, hx, he, hg2⟩)
          · rw [hd] at hx; cases hx; exact ⟨he, hr, hn, hg2⟩
          · rw [hd] at hx; cases hx)
        by_cases h8 : nx + 8 ≤ l.length
        · have hn1 := fun W hs => (hnum nx 2 (by decide) W hs).mono (R' := fun e w' => e = .returned (.int .i64 ((n16 l nx : Nat) : Int)) ∧ Rd w' g (.slice a l.length cap) (nx + 2) ∧ W.grownBy w' (some g)) (by
            rintro e w' (⟨_, h1, h2, h3⟩ | ⟨h1, _⟩)
            · exact ⟨h1, h2, h3⟩
            · omega)
          have hn2 := fun W hs => (hnum (nx + 2) 2 (by decide) W hs).mono (R' := fun e w' => e = .returned (.int .i64 ((n16 l (nx + 2) : Nat) : Int)) ∧ Rd w' g (.slice a l.length cap) (nx + 4) ∧ W.grownBy w' (some g)) (by
            rintro e w' (⟨_, h1, h2, h3⟩ | ⟨h1, _⟩)
            · exact ⟨h1, h2, h3⟩
            · omega)
          have hn3 := fun W hs => (hnum (nx + 4) 4 (by decide) W hs).mono (R' := fun e w' => e = .returned (.int .i64 ((n32 l (nx + 4) : Nat) : Int)) ∧ Rd w' g (.slice a l.length cap) (nx + 8) ∧ W.grownBy w' (some g)) (by
            rintro e w' (⟨_, h1, h2, h3⟩ | ⟨h1, _⟩)
            · exact ⟨h1, h2, h3⟩
            · omega)
          have hdt8 := fun W hs => hdt (nx + 8) (n16 l nx) W hs
          have HST := Nm.hide hst
          have HDB := Nm.hide (fun c => rrS_dat (c := c) hd)
          have HDO := Nm.hide (fun d q => rrS_ok (d := d) (q := q) hd)
          clear hnm hst hfar hnum hdt
          generalize n16 l nx = ty at *
          generalize n16 l (nx + 2) = cl at *
          generalize n32 l (nx + 4) = tl at *
          go_wp2_with (first | (go_at_call 56; refine hnm'.mono ?_; rintro e w6 ⟨rfl, hr6, hn6, hg6⟩; have hst6 := HRD.out _ _ _ _ HST.out hg6 hr6 hn6) | (go_at_call 55; refine (hn1 _ hst6).mono ?_; rintro e w7 ⟨rfl, hr7, hg7⟩; have hst7 := HRD.out _ _ _ _ hst6 hg7 hr7 (by omega); clear hn1) | (go_at_call 55; refine (hn2 _ hst7).mono ?_; rintro e w8 ⟨rfl, hr8, hg8⟩; have hst8 := HRD.out _ _ _ _ hst7 hg8 hr8 (by omega); clear hn2) | (go_at_call 55; refine (hn3 _ hst8).mono ?_; rintro e w9 ⟨rfl, hr9, hg9⟩; have hst9 := HRD.out _ _ _ _ hst8 hg9 hr9 h8; clear hn3))
          have hst10 := hst9.alloc (.cells #[.string ⟨s.toArray⟩, .int .i64 (ty : Int), .int .i64 (cl : Int), .int .i64 (tl : Int), .string ByteArray.empty] 66)
          have hB := blk_new w9 #[.string ⟨s.toArray⟩, .int .i64 (ty : Int), .int .i64 (cl : Int), .int .i64 (tl : Int), .string ByteArray.empty] 66
          have hrow : ∀ q, vo.ownBlock = some q → q < w9.heap.size := fun q hq => (hst9.own.lt q hq).2
          have hwl := hst9.grown.size
          clear hst6 hst7 hst8 hst9 hr6 hg6 hr7 hg7 hr8 hg8 hr9 hg9
          refine (hdt8 _ hst10).mono ?_
          rintro e w11 (⟨d, q, hdd, rfl, hr11, hq, hg11⟩ | ⟨c, hdd, rfl, hg11⟩)
          · rw [HDO.out d q hdd] at hres
            simp only at hres
            have HRES := Nm.hide hres
            have hst11 := HRD.out _ _ _ _ hst10 hg11 hr11 hq
            have hB11 := blk_grown hB hg11 (by simp; omega)
            have hst12 := hst11.store (b := w9.heap.size) (i := 4) (v := .string ⟨d.toArray⟩) hwl (by omega) (fun q hq => by have := hrow q hq; omega)
            have hB12 := blk_set hB11 4 (.string ⟨d.toArray⟩)
            have c4 := blk_cell hB11 4
            have f4 := blk_frozen hB11 4
            have r := fun i => blk_cell hB12 i
            have hs12 := hst12.grown.size
            clear hres hst10 hst11 hB hB11 hB12 hr11 hg11 hdd
            go_wp2_with (at_builtin; refine wpList_append_own _ rfl (.tmp 24) (.tmp 26) 27 rfl w.heap.size 66 i0 (.agg #[.string ByteArray.empty, .int .i64 0, .int .i64 0, .int .i64 0, .string ByteArray.empty]) 5 56 Try.underlying27 hi hz0 hz1 hz2 rfl (by decide) _ _ _ rfl (hst12.alloc _).own ⟨w11.heap.size, 0, none⟩ 1 1 (rrC ⟨s, ty, cl, tl, d⟩) rfl rfl (cell_newS _ _ _ _ _ _) (by intro u hu; simp [rrC] at hu; rcases hu with rfl | rfl | rfl | rfl | rfl <;> rfl) (by unfold maxLen; omega) (by omega) (by simp at hs12 ⊢; omega) ?_; intro va wa hown13 hgrow13 hnl13; clear hnl13; rw [← rrCs_snoc] at hown13; have HST13 := Nm.hide ((hst12.alloc _).app hgrow13 hown13); clear hgrow13 hown13 hst12)
            go_roundw
            case rel => exact ⟨k + 1, q, xs ++ [⟨s, ty, cl, tl, d⟩], _, rfl, by go_num, by omega, by simp; omega, HST13.out, HRES.out⟩
            case measure => simp [intOf]; omega
          · rw [HDB.out c hdd] at hres
            simp only at hres
            subst hres
            go_wp2
            refine bp_panic rfl ?_
            exact .inr ⟨_, rfl, rfl, gr_step hst10.grown hg11⟩
        · rw [rrS_short hd (by omega)] at hres
          simp only at hres
          subst hres
          have HST := Nm.hide hst
          clear hnm hst hfar hdt
          go_wp2_with (go_at_call 56; refine hnm'.mono ?_; rintro e w6 ⟨rfl, hr6, hn6, hg6⟩; have hst6 := HRD.out _ _ _ _ HST.out hg6 hr6 hn6)
          refine (hnum nx 2 (by decide) _ hst6).mono ?_
          rintro e w7 (⟨hl7, rfl, hr7, hg7⟩ | ⟨_, rfl, hg7⟩)
          rotate_left 1
          · go_wp2
            refine bp_panic rfl ?_
            exact .inr ⟨_, rfl, rfl, gr_step hst6.grown hg7⟩
          have hst7 := HRD.out _ _ _ _ hst6 hg7 hr7 (by omega)
          go_wp2_with fail
          refine (hnum (nx + 2) 2 (by decide) _ hst7).mono ?_
          rintro e w8 (⟨hl8, rfl, hr8, hg8⟩ | ⟨_, rfl, hg8⟩)
          rotate_left 1
          · go_wp2
            refine bp_panic rfl ?_
            exact .inr ⟨_, rfl, rfl, gr_step hst7.grown hg8⟩
          have hst8 := HRD.out _ _ _ _ hst7 hg8 hr8 (by omega)
          go_wp2_with fail
          refine (hnum (nx + 2 + 2) 4 (by decide) _ hst8).mono ?_
          rintro e w9 (⟨hl9, _⟩ | ⟨_, rfl, hg9⟩)
          · omega
          go_wp2
          refine bp_panic rfl ?_
          exact .inr ⟨_, rfl, rfl, gr_step hst8.grown hg9⟩
    · have hge : (count : Int) ≤ (k : Int) := by omega
      have hck : count - k = 0 := by omega
      rw [hck, manyS] at hres
      subst hres
      go_wp2
      go_ret
      exact .inl ⟨_, _, _, rfl, rfl, by rw [hxl]; exact hst⟩
end Go.Proofs.Ytihhchebcojplaa
