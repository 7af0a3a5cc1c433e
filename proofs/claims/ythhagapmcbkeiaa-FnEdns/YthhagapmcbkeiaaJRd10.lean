import Derived.Test.YthhagapmcbkeiaaJRd8
import Derived.Test.YthhagapmcbkeiaaHd1
import Derived.Test.YthhagapmcbkeiaaJLst
import Derived.Deep.RegionHeld3
import Derived.Deep.RegionHeld2
/- (*reader).records by its contract. -/
namespace Go.Proofs.Ythhagapmcbkeiaa
open Go.RowKit
set_option linter.unusedVariables false

theorem dtP_next (l : List UInt8) (fin : Nat) : ∀ (ps : List (Option Nat)) (p : Nat) (acc d : List UInt8) (q : Nat), dtP l fin ps p acc = .ok d q → q = fin := by
  intro ps
  induction ps with
  | nil => intro p acc d q h; rw [dtP] at h; split at h <;> simp at h; exact h.2.symm
  | cons x ps ih =>
    intro p acc d q h
    cases x with
    | none =>
      rw [dtP] at h
      split at h
      · simp at h
      · split at h
        · exact ih _ _ _ _ h
        · simp at h
    | some n =>
      rw [dtP] at h
      split at h
      · exact ih _ _ _ _ h
      · simp at h

theorem dataS_next {l : List UInt8} {t p fin q : Nat} {d : List UInt8} (h : dataS l t p fin = .ok d q) : q = fin := by
  rw [dataS] at h
  split at h
  · simp at h; exact h.2.symm
  · split at h
    · exact dtP_next _ _ _ _ _ _ _ h
    · split at h <;> simp at h; exact h.2.symm

theorem rrS_bad {l : List UInt8} {p : Nat} {c : Int} (h : dnF l p p [] none = .bad c) : rrS l p = .bad c := by rw [rrS, h]
theorem rrS_short {l : List UInt8} {p nx : Nat} {s : List UInt8} (h : dnF l p p [] none = .ok s nx) (h4 : l.length < nx + 8) : rrS l p = .bad 8 := by rw [rrS, h]; simp only; rw [if_neg (by omega)]
theorem rrS_dat {l : List UInt8} {p nx : Nat} {s : List UInt8} {c : Int} (h : dnF l p p [] none = .ok s nx) (hd : dtaS l (n16 l nx) (nx + 8) = .bad c) : rrS l p = .bad c := by
  rw [dtaS] at hd
  rw [rrS, h]
  simp only
  have e : nx + 8 + 2 = nx + 10 := by omega
  rw [e] at hd
  by_cases h1 : nx + 10 ≤ l.length
  · rw [if_pos h1] at hd ⊢
    by_cases h2 : nx + 10 + n16 l (nx + 8) ≤ l.length
    · rw [if_pos h2] at hd ⊢
      rw [hd]
    · rw [if_neg h2] at hd ⊢
      cases hd; rfl
  · rw [if_neg h1] at hd ⊢
    cases hd; rfl
theorem rrS_ok {l : List UInt8} {p nx q : Nat} {s d : List UInt8} (h : dnF l p p [] none = .ok s nx) (hd : dtaS l (n16 l nx) (nx + 8) = .ok d q) : rrS l p = .ok ⟨s, n16 l nx, n16 l (nx + 2), n32 l (nx + 4), d⟩ q := by
  rw [dtaS] at hd
  rw [rrS, h]
  simp only
  have e : nx + 8 + 2 = nx + 10 := by omega
  rw [e] at hd
  by_cases h1 : nx + 10 ≤ l.length
  · rw [if_pos h1] at hd ⊢
    by_cases h2 : nx + 10 + n16 l (nx + 8) ≤ l.length
    · rw [if_pos h2] at hd ⊢
      rw [hd, dataS_next hd]
    · rw [if_neg h2] at hd
      cases hd
  · rw [if_neg h1] at hd
    cases hd

theorem ESt.store {w W : World} {g n pos e s m b i : Nat} {V vo v : Value} {cs : List Value} (h : ESt w W g V n e s vo m cs pos) (hb : w.heap.size ≤ b) (hbg : g ≠ b) (hrow : ∀ k, vo.ownBlock = some k → k ≠ b) : ESt w (W.setCell ⟨b, i, none⟩ v) g V n e s vo m cs pos := by
  have hg : W.grownBy (W.setCell ⟨b, i, none⟩ v) (some b) := ⟨rfl, rfl, rfl, by simp, fun k _ hk => heap_setCell_other W ⟨b, i, none⟩ k _ (fun e => hk (by simp [e]))⟩
  refine ⟨h.own.kept hg ?_, blk_far (rd_blk h.rd) hbg, h.le, hgr_set h.grown hb, h.ne⟩
  cases hv : vo.ownBlock with
  | none => exact .inl rfl
  | some k => exact .inr (by simpa using hrow k hv)

theorem cell_newS (w : World) (b i : Nat) (v : Value) (vs : List Value) (e : Nat) : ∀ (j : Nat) (u : Value), vs[j]? = some u → ((w.setCell ⟨b, i, none⟩ v).alloc (.cells vs.toArray e)).cell? ((⟨w.heap.size, 0, none⟩ : Addr).add j) = some u := by
  have h := cell_newL (w.setCell ⟨b, i, none⟩ v) vs e
  have e2 : (w.setCell ⟨b, i, none⟩ v).heap.size = w.heap.size := by simp
  rw [e2] at h
  exact h

set_option maxRecDepth 100000 in
set_option maxHeartbeats 3200000 in
theorem records_any (g : Nat) (a : Option Addr) (l : List UInt8) (cap p count : Nat) (w : World) (h : Rd w g (.slice a l.length cap) p) (hfar : ∀ w', w.grownBy w' (some g) → BySl w' (.slice a l.length cap) l) (hp : p ≤ l.length) (hnn : l.length ≤ 1048576) (hcnt : count ≤ 65535) :
    Calls Try.prog 40 #[.pointer (some ⟨g, 0, none⟩), .int .i64 count] w fun e w' =>
      (∃ xs q v, manyS (rrS l) count p [] = .ok xs q ∧ e = .returned v ∧ ESt w w' g (.slice a l.length cap) l.length 27 5 v xs.length (rrCs xs) q) ∨
      (∃ c, manyS (rrS l) count p [] = .bad c ∧ e = .panicked (fault c) ∧ w.grownBy w' (some g)) := by
  obtain ⟨i0, hi, hz0, hz1, hz2⟩ := info_parts Try.infoRR
  have hglt := rd_lt h
  generalize hR : manyS (rrS l) count p [] = R
  go_enter Try.func40, Try.ntmps40
  go_wp2
  go_loopw [5, 8] (fun vo vk wr => ∃ (k pos : Nat) (xs : List Rm) (q : Value), q = vo ∧ vk = .int .i64 k ∧ k ≤ count ∧ xs.length = k ∧ ESt w wr g (.slice a l.length cap) l.length 27 5 vo k (rrCs xs) pos ∧ manyS (rrS l) (count - k) pos xs = R)
    (fun _ vk _ => count - (intOf vk).toNat)
  case atStart => exact ⟨0, p, [], _, rfl, rfl, Nat.zero_le _, rfl, ⟨⟨rfl, .inl ⟨rfl, rfl⟩⟩, h, hp, World.grownBy.refl _ _, by decide⟩, hR⟩
  case round =>
    obtain ⟨k, pos, xs, vo, rfl, rfl, hk, hxl, hst, hres⟩ := hrel
    clear hR h
    by_cases hlt : k < count
    · have hlt' : (k : Int) < (count : Int) := by omega
      have hck : count - k = (count - (k + 1)) + 1 := by omega
      rw [hck, manyS] at hres
      have hnm := name_any g a l cap pos wr hst.rd (hfar _ hst.grown) (fun W hW => hfar W (gr_step hst.grown hW)) hst.le hnn
      have hnum := fun (q sz : Nat) (hsz : sz ≤ 6) W (hs : ESt w W g (.slice a l.length cap) l.length 27 5 vo k (rrCs xs) q) => number_any g a l cap q sz W hs.rd (hfar _ hs.grown) (fun W2 hW2 => hfar W2 (gr_step hs.grown hW2)) hs.le hnn hsz
      have hdt := fun (q t : Nat) W (hs : ESt w W g (.slice a l.length cap) l.length 27 5 vo k (rrCs xs) q) => data_any g a l cap q t W hs.rd (fun W2 hW2 => hfar W2 (gr_step hs.grown hW2)) hs.le hnn
      have HRD : Hid (∀ W W2 q q2, ESt w W g (.slice a l.length cap) l.length 27 5 vo k (rrCs xs) q → W.grownBy W2 (some g) → Rd W2 g (.slice a l.length cap) q2 → q2 ≤ l.length → ESt w W2 g (.slice a l.length cap) l.length 27 5 vo k (rrCs xs) q2) := by exact fun W W2 q q2 hs hW hr hle => hs.read hW hr hle
      cases hd : dnF l pos pos [] none using Rs.elim with
      | bad c =>
        rw [rrS_bad hd] at hres
        simp only at hres
        subst hres
        have hnm' := hnm.mono (R' := fun e w' => e = .panicked (fault c) ∧ wr.grownBy w' (some g)) (by
          rintro e w2 (⟨_, _, hx, _⟩ | ⟨c2, hx, he, hg2⟩)
          · rw [hd] at hx; cases hx
          · rw [hd] at hx; cases hx; exact ⟨he, hg2⟩)
        have HG : Hid (∀ W, wr.grownBy W (some g) → w.grownBy W (some g)) := by exact fun W hW => gr_step hst.grown hW
        clear hnm hst hfar hnum HRD hdt
        go_wp2_with (go_at_call 52; refine hnm'.mono ?_; rintro e w6 ⟨rfl, hg6⟩)
        refine bp_panic rfl ?_
        exact .inr ⟨_, rfl, rfl, HG.out _ hg6⟩
      | ok s nx =>
        have hnm' := hnm.mono (R' := fun e w' => e = .returned (.string ⟨s.toArray⟩) ∧ Rd w' g (.slice a l.length cap) nx ∧ nx ≤ l.length ∧ wr.grownBy w' (some g)) (by
          rintro e w2 (⟨_, _, hx, he, hr, hn, hg2⟩ | ⟨c2, hx, he, hg2⟩)
          · rw [hd] at hx; cases hx; exact ⟨he, hr, hn, hg2⟩
          · rw [hd] at hx; cases hx)
        by_cases h8 : nx + 8 ≤ l.length
        · have hn1 := fun W hs => (hnum nx 2 (by decide) W hs).mono (R' := fun e w' => e = .returned (.int .i64 ((n16 l nx : Nat) : Int)) ∧ Rd w' g (.slice a l.length cap) (nx + 2) ∧ W.grownBy w' (some g)) (by
            rintro e w' (⟨_, h1, h2, h3⟩ | ⟨h1, _⟩)
            · exact ⟨h1, h2, h3⟩
            · omega)
          have hn2 := fun W hs => (hnum (nx + 2) 2 (by decide) W hs).mono (R' := fun e w' => e = .returned (.int .i64 ((n16 l (nx + 2) : Nat) : Int)) ∧ Rd w' g (.slice a l.length cap) (nx + 4) ∧ W.grownBy w' (some g)) (by
            rintro e w' (⟨_, h1, h2, h3⟩ | ⟨h1, _⟩)
            · exact ⟨h1, h2, h3⟩
            · omega)
          have hn3 := fun W hs => (hnum (nx + 4) 4 (by decide) W hs).mono (R' := fun e w' => e = .returned (.int .i64 ((n32 l (nx + 4) : Nat) : Int)) ∧ Rd w' g (.slice a l.length cap) (nx + 8) ∧ W.grownBy w' (some g)) (by
            rintro e w' (⟨_, h1, h2, h3⟩ | ⟨h1, _⟩)
            · exact ⟨h1, h2, h3⟩
            · omega)
          have hdt8 := fun W hs => hdt (nx + 8) (n16 l nx) W hs
          have HST := Nm.hide hst
          have HDB := Nm.hide (fun c => rrS_dat (c := c) hd)
          have HDO := Nm.hide (fun d q => rrS_ok (d := d) (q := q) hd)
          clear hnm hst hfar hnum hdt
          generalize n16 l nx = ty at *
          generalize n16 l (nx + 2) = cl at *
          generalize n32 l (nx + 4) = tl at *
          go_wp2_with (first | (go_at_call 52; refine hnm'.mono ?_; rintro e w6 ⟨rfl, hr6, hn6, hg6⟩; have hst6 := HRD.out _ _ _ _ HST.out hg6 hr6 hn6) | (go_at_call 51; refine (hn1 _ hst6).mono ?_; rintro e w7 ⟨rfl, hr7, hg7⟩; have hst7 := HRD.out _ _ _ _ hst6 hg7 hr7 (by omega); clear hn1) | (go_at_call 51; refine (hn2 _ hst7).mono ?_; rintro e w8 ⟨rfl, hr8, hg8⟩; have hst8 := HRD.out _ _ _ _ hst7 hg8 hr8 (by omega); clear hn2) | (go_at_call 51; refine (hn3 _ hst8).mono ?_; rintro e w9 ⟨rfl, hr9, hg9⟩; have hst9 := HRD.out _ _ _ _ hst8 hg9 hr9 h8; clear hn3))
          have hst10 := hst9.alloc (.cells #[.string ⟨s.toArray⟩, .int .i64 (ty : Int), .int .i64 (cl : Int), .int .i64 (tl : Int), .string ByteArray.empty] 27)
          have hB := blk_new w9 #[.string ⟨s.toArray⟩, .int .i64 (ty : Int), .int .i64 (cl : Int), .int .i64 (tl : Int), .string ByteArray.empty] 27
          have hrow : ∀ q, vo.ownBlock = some q → q < w9.heap.size := fun q hq => (hst9.own.lt q hq).2
          have hwl := hst9.grown.size
          clear hst6 hst7 hst8 hst9 hr6 hg6 hr7 hg7 hr8 hg8 hr9 hg9
          refine (hdt8 _ hst10).mono ?_
          rintro e w11 (⟨d, q, hdd, rfl, hr11, hq, hg11⟩ | ⟨c, hdd, rfl, hg11⟩)
          · rw [HDO.out d q hdd] at hres
            simp only at hres
            have HRES := Nm.hide hres
            have hst11 := HRD.out _ _ _ _ hst10 hg11 hr11 hq
            have hB11 := blk_grown hB hg11 (by simp; omega)
            have hst12 := hst11.store (b := w9.heap.size) (i := 4) (v := .string ⟨d.toArray⟩) hwl (by omega) (fun q hq => by have := hrow q hq; omega)
            have hB12 := blk_set hB11 4 (.string ⟨d.toArray⟩)
            have c4 := blk_cell hB11 4
            have f4 := blk_frozen hB11 4
            have r := fun i => blk_cell hB12 i
            have hs12 := hst12.grown.size
            clear hres hst10 hst11 hB hB11 hB12 hr11 hg11 hdd
            go_wp2_with (at_builtin; refine wpList_append_own _ rfl (.tmp 24) (.tmp 26) 32 rfl w.heap.size 27 i0 (.agg #[.string ByteArray.empty, .int .i64 0, .int .i64 0, .int .i64 0, .string ByteArray.empty]) 5 56 Try.underlying32 hi hz0 hz1 hz2 rfl (by decide) _ _ _ rfl (hst12.alloc _).own ⟨w11.heap.size, 0, none⟩ 1 1 (rrC ⟨s, ty, cl, tl, d⟩) rfl rfl (cell_newS _ _ _ _ _ _) (by intro u hu; simp [rrC] at hu; rcases hu with rfl | rfl | rfl | rfl | rfl <;> rfl) (by unfold maxLen; omega) (by omega) (by simp at hs12 ⊢; omega) ?_; intro va wa hown13 hgrow13 hnl13; clear hnl13; rw [← rrCs_snoc] at hown13; have HST13 := Nm.hide ((hst12.alloc _).app hgrow13 hown13); clear hgrow13 hown13 hst12)
            go_roundw
            case rel => exact ⟨k + 1, q, xs ++ [⟨s, ty, cl, tl, d⟩], _, rfl, by go_num, by omega, by simp; omega, HST13.out, HRES.out⟩
            case measure => simp [intOf]; omega
          · rw [HDB.out c hdd] at hres
            simp only at hres
            subst hres
            go_wp2
            refine bp_panic rfl ?_
            exact .inr ⟨_, rfl, rfl, gr_step hst10.grown hg11⟩
        · rw [rrS_short hd (by omega)] at hres
          simp only at hres
          subst hres
          have HST := Nm.hide hst
          clear hnm hst hfar hdt
          go_wp2_with (go_at_call 52; refine hnm'.mono ?_; rintro e w6 ⟨rfl, hr6, hn6, hg6⟩; have hst6 := HRD.out _ _ _ _ HST.out hg6 hr6 hn6)
          refine (hnum nx 2 (by decide) _ hst6).mono ?_
          rintro e w7 (⟨hl7, rfl, hr7, hg7⟩ | ⟨_, rfl, hg7⟩)
          rotate_left 1
          · go_wp2
            refine bp_panic rfl ?_
            exact .inr ⟨_, rfl, rfl, gr_step hst6.grown hg7⟩
          have hst7 := HRD.out _ _ _ _ hst6 hg7 hr7 (by omega)
          go_wp2_with fail
          refine (hnum (nx + 2) 2 (by decide) _ hst7).mono ?_
          rintro e w8 (⟨hl8, rfl, hr8, hg8⟩ | ⟨_, rfl, hg8⟩)
          rotate_left 1
          · go_wp2
            refine bp_panic rfl ?_
            exact .inr ⟨_, rfl, rfl, gr_step hst7.grown hg8⟩
          have hst8 := HRD.out _ _ _ _ hst7 hg8 hr8 (by omega)
          go_wp2_with fail
          refine (hnum (nx + 2 + 2) 4 (by decide) _ hst8).mono ?_
          rintro e w9 (⟨hl9, _⟩ | ⟨_, rfl, hg9⟩)
          · omega
          go_wp2
          refine bp_panic rfl ?_
          exact .inr ⟨_, rfl, rfl, gr_step hst8.grown hg9⟩
    · have hge : (count : Int) ≤ (k : Int) := by omega
      have hck : count - k = 0 := by omega
      rw [hck, manyS] at hres
      subst hres
      go_wp2
      go_ret
      exact .inl ⟨_, _, _, rfl, rfl, by rw [hxl]; exact hst⟩
end Go.Proofs.Ythhagapmcbkeiaa
/- (*reader).message by its contract. -/
namespace Go.Proofs.Ythhagapmcbkeiaa
open Go.RowKit
set_option linter.unusedVariables false

theorem listsS_q {l : List UInt8} {c : Int} (h : manyS (quS l) (n16 l 4) 12 [] = .bad c) : listsS l = .bad c := by rw [listsS, h]
theorem listsS_a {l : List UInt8} {c : Int} {qs p1} (h : manyS (quS l) (n16 l 4) 12 [] = .ok qs p1) (h2 : manyS (rrS l) (n16 l 6) p1 [] = .bad c) : listsS l = .bad c := by rw [listsS, h]; simp only; rw [h2]
theorem listsS_u {l : List UInt8} {c : Int} {qs p1 an p2} (h : manyS (quS l) (n16 l 4) 12 [] = .ok qs p1) (h2 : manyS (rrS l) (n16 l 6) p1 [] = .ok an p2) (h3 : manyS (rrS l) (n16 l 8) p2 [] = .bad c) : listsS l = .bad c := by rw [listsS, h]; simp only; rw [h2]; simp only; rw [h3]
theorem listsS_e {l : List UInt8} {c : Int} {qs p1 an p2 au p3} (h : manyS (quS l) (n16 l 4) 12 [] = .ok qs p1) (h2 : manyS (rrS l) (n16 l 6) p1 [] = .ok an p2) (h3 : manyS (rrS l) (n16 l 8) p2 [] = .ok au p3) (h4 : manyS (rrS l) (n16 l 10) p3 [] = .bad c) : listsS l = .bad c := by rw [listsS, h]; simp only; rw [h2]; simp only; rw [h3]; simp only; rw [h4]
theorem listsS_ok {l : List UInt8} {qs p1 an p2 au p3 ex p4} (h : manyS (quS l) (n16 l 4) 12 [] = .ok qs p1) (h2 : manyS (rrS l) (n16 l 6) p1 [] = .ok an p2) (h3 : manyS (rrS l) (n16 l 8) p2 [] = .ok au p3) (h4 : manyS (rrS l) (n16 l 10) p3 [] = .ok ex p4) : listsS l = if p4 < l.length then .bad 10 else .ok ⟨qs, an, au, ex⟩ p4 := by rw [listsS, h]; simp only; rw [h2]; simp only; rw [h3]; simp only; rw [h4]

/-- The variables of message while the lists are read. -/
structure MSt (w W : World) (g b : Nat) (V : Value) (hd ct : Array Value) (n pos : Nat) : Prop where
  rd : Rd W g V pos
  le : pos ≤ n
  grown : w.grownBy W (some g)
  res : Blk W w.heap.size ms0 37
  hb : Blk W b hd 34
  cb : Blk W (b + 1) ct 97
  lt : w.heap.size < b
  glt : g < w.heap.size

theorem MSt.read {w W W1 : World} {g b n pos pos1 : Nat} {V : Value} {hd ct : Array Value} (h : MSt w W g b V hd ct n pos) (hg : W.grownBy W1 (some g)) (hr : Rd W1 g V pos1) (hle : pos1 ≤ n) : MSt w W1 g b V hd ct n pos1 :=
  have h1 := h.lt
  have h2 := h.glt
  ⟨hr, hle, hgr_step h.grown hg, blk_grown h.res hg (by simp; omega), blk_grown h.hb hg (by simp; omega), blk_grown h.cb hg (by simp; omega), h.lt, h.glt⟩

theorem MSt.below {w W W1 : World} {g b n pos : Nat} {V : Value} {hd ct : Array Value} (h : MSt w W g b V hd ct n pos) (hb : Below W.heap.size W W1) : MSt w W1 g b V hd ct n pos :=
  ⟨rd_below h.rd hb, h.le, hgr_below h.grown hb, blk_below h.res hb, blk_below h.hb hb, blk_below h.cb hb, h.lt, h.glt⟩

theorem MSt.alloc {w W : World} {g b n pos : Nat} {V : Value} {hd ct : Array Value} (h : MSt w W g b V hd ct n pos) (o : Obj) : MSt w (W.alloc o) g b V hd ct n pos := h.below ((Below.refl _ _).alloc (Nat.le_refl _) o)
theorem MSt.drew {w W : World} {g b n pos : Nat} {V : Value} {hd ct : Array Value} (h : MSt w W g b V hd ct n pos) : MSt w W.drew g b V hd ct n pos := h.below (Below.refl _ _).drew

theorem mst_new {w w2 : World} {g d f n : Nat} {V : Value} {l : List UInt8} (hr2 : Rd w2 g V 12) (hle : 12 ≤ n) (hg2 : w.grownBy w2 (some g)) (hb2 : Blk w2 w.heap.size ms0 37) (hglt : g < w.heap.size) :
    MSt w ((w2.alloc (.cells (hdA d f) 34)).alloc (.cells (ctA l) 97)) g w2.heap.size V (hdA d f) (ctA l) n 12 := by
  have hbb : Below w2.heap.size w2 ((w2.alloc (.cells (hdA d f) 34)).alloc (.cells (ctA l) 97)) := ((Below.refl _ _).alloc (Nat.le_refl _) _).alloc (by simp) _
  have e1 : (w2.alloc (.cells (hdA d f) 34)).heap.size = w2.heap.size + 1 := by simp
  have hcb := blk_new (w2.alloc (.cells (hdA d f) 34)) (ctA l) 97
  rw [e1] at hcb
  exact ⟨rd_below hr2 hbb, hle, hgr_below hg2 hbb, blk_below hb2 hbb, blk_alloc (blk_new w2 (hdA d f) _) _, hcb, blk_lt hb2, hglt⟩

theorem gen_world2 {Pr G : World → Prop} {W : World} (h : Pr W) (k : ∀ W, Pr W → G W) : G W := k W h

theorem row_grown {w w1 : World} {B e m g p s : Nat} {v V : Value} {xs : List Value} (h : w.ownsRow B e s v m xs) (hs : Rd w g V p) (hne : e ≠ 64) (hg : w.grownBy w1 (some g)) : w1.ownsRow B e s v m xs := h.kept hg (rowS_rd h hs hne)

/-- A call that panics, met where one way must be left to go on: that way has 'False' ahead of it. -/
theorem calls_panics {P : Program} {f : FuncId} {args : Array Value} {w : World} {R : Ending → World → Prop} {ch : List PanicEntry} (v0 : Value) (h : Calls P f args w (fun e w' => e = .panicked ch ∧ R (.panicked ch) w')) (_ : Hid False → R (.returned v0) w) : Calls P f args w R :=
  h.mono (fun e w' ⟨he, hr⟩ => he ▸ hr)
theorem calls_any {P : Program} {f : FuncId} {args : Array Value} {w : World} {R : Ending → World → Prop} (v0 : Value) (hF : Hid False) (_ : R (.returned v0) w) : Calls P f args w R := hF.out.elim

/-- Entries read in their turn, as message wants them. -/
def Turn (w : World) (g b : Nat) (V : Value) (hd ct : Array Value) (n e s m q : Nat) (cs : List Value) (W : World) (x : Ending) (W' : World) : Prop :=
  ∃ v, x = .returned v ∧ MSt w W' g b V hd ct n q ∧ W'.ownsRow w.heap.size e s v m cs ∧ W.grownBy W' (some g)

theorem blk_ne {W : World} {x y : Nat} {cs ds : Array Value} {T U : TypeId} (h : Blk W x cs T) (h2 : Blk W y ds U) (hne : T ≠ U) : x ≠ y := by
  rintro rfl
  unfold Blk at h h2
  rw [h] at h2
  simp at h2
  exact hne h2.2

theorem MSt.sets {w W : World} {g b n pos b5 : Nat} {V : Value} {hd ct cs : Array Value} (h : MSt w W g b V hd ct n pos) (hB : Blk W b5 cs 37) (hlt : w.heap.size < b5) (vs : List Value) : MSt w (setAll W b5 0 vs) g b V hd ct n pos := by
  have h1 := h.glt
  exact ⟨setAll_far (by omega) _ _ _ (rd_blk h.rd), h.le, setAll_grown (by omega) _ _ _ h.grown, setAll_far (by omega) _ _ _ h.res, setAll_far (blk_ne h.hb hB (by decide)) _ _ _ h.hb, setAll_far (blk_ne h.cb hB (by decide)) _ _ _ h.cb, h.lt, h.glt⟩

/-- The message is handed back out of its variable. -/
theorem msg_back {w W : World} {cs : Array Value} {R : Ending → World → Prop} {a : Act} (h : Blk W w.heap.size cs 37)
    (hc : ∃ x0 x1 x2 x3 x4 x5 x6 x7 x8 x9 x10 x11 x12 x13 x14 : Value, cs = #[x0, x1, x2, x3, x4, x5, x6, x7, x8, x9, x10, x11, x12, x13, x14])
    (h2 : a.tmps[2]? = some (.pointer (some ⟨w.heap.size, 0, none⟩))) (hd : a.defers = []) (hR : R (.returned (.agg cs)) W) : bodyPost Try.prog Try.f21 R .ret a W := by
  obtain ⟨x0, x1, x2, x3, x4, x5, x6, x7, x8, x9, x10, x11, x12, x13, x14, rfl⟩ := hc
  refine bodyPost_ret ?_ hd hR
  have r := fun i => blk_cell h i
  simp [results, Try.results21, go_sem, Result.andThen, r, h2]

theorem row_setAll {b B e s m : Nat} {v : Value} {xs : List Value} (hne : e ≠ 37) : ∀ (vs : List Value) (i : Nat) (W : World) (cs : Array Value), W.ownsRow B e s v m xs → Blk W b cs 37 → (setAll W b i vs).ownsRow B e s v m xs := by
  intro vs
  induction vs with
  | nil => intro i W cs h _; exact h
  | cons x vs ih =>
    intro i W cs h hb
    have hg : W.grownBy (W.setCell ⟨b, i, none⟩ x) (some b) := ⟨rfl, rfl, rfl, by simp, fun k _ hk => heap_setCell_other W ⟨b, i, none⟩ k _ (fun e => hk (by simp [e]))⟩
    refine ih (i + 1) _ _ (h.kept hg ?_) (blk_set hb i x)
    rcases h.2 with ⟨rfl, _⟩ | ⟨g', cap', cur, rfl, _, hh, _⟩
    · exact .inl rfl
    · right
      simp only [Value.ownBlock, ne_eq, Option.some.injEq]
      intro e2
      subst e2
      unfold Blk at hb
      rw [hh] at hb
      simp at hb
      exact hne hb.2

theorem lists_setAll {b B : Nat} {m : Mm} {q x y z : Value} {W : World} {cs : Array Value} (h : Lists W B m q x y z) (hb : Blk W b cs 37) (vs : List Value) (i : Nat) : Lists (setAll W b i vs) B m q x y z :=
  ⟨row_setAll (by decide) vs i W cs h.rq hb, row_setAll (by decide) vs i W cs h.ra hb, row_setAll (by decide) vs i W cs h.ru hb, row_setAll (by decide) vs i W cs h.rx hb, h.au, h.ax, h.ux⟩

/-- Message's variables once the lists are read. -/
structure Fin4 (w W : World) (g b5 : Nat) (V : Value) (p : Nat) (cs : Array Value) (m : Mm) (q x y z : Value) : Prop where
  rd : Rd W g V p
  grown : w.grownBy W (some g)
  res : Blk W w.heap.size ms0 37
  var : Blk W b5 cs 37
  lt : w.heap.size < b5
  glt : g < w.heap.size
  rows : Lists W w.heap.size m q x y z

theorem fin_alloc {w W : World} {g b n pos : Nat} {V : Value} {hd ct : Array Value} {m : Mm} {q x y z : Value} (h : MSt w W g b V hd ct n pos) (hr : Lists W w.heap.size m q x y z) (cs : Array Value) :
    Fin4 w (W.alloc (.cells cs 37)) g W.heap.size V pos cs m q x y z := by
  have hb : Below W.heap.size W (W.alloc (.cells cs 37)) := (Below.refl _ _).alloc (Nat.le_refl _) _
  have h2 := h.alloc (.cells cs 37)
  exact ⟨h2.rd, h2.grown, h2.res, blk_new W cs _, blk_lt h.res, h.glt, lists_below hr hb⟩

theorem fin_set {w W : World} {g b b5 n pos : Nat} {V : Value} {hd ct cs : Array Value} {m : Mm} {q x y z : Value} (h : MSt w W g b V hd ct n pos) (hr : Lists W w.heap.size m q x y z) (hB : Blk W b5 cs 37) (hlt : w.heap.size < b5) (vs : List Value) (hl : cs.size = vs.length) :
    Fin4 w (setAll W b5 0 vs) g b5 V pos vs.toArray m q x y z := by
  have h1 := h.glt
  exact ⟨setAll_far (by omega) _ _ _ (rd_blk h.rd), setAll_grown (by omega) _ _ _ h.grown, setAll_far (by omega) _ _ _ h.res, setAll_new _ hB hl, hlt, h.glt, lists_setAll hr hB vs 0⟩

theorem fin_last {w W : World} {g b5 p : Nat} {V : Value} {cs : Array Value} {m : Mm} {q x y z : Value} (h : Fin4 w W g b5 V p cs m q x y z) (vs : List Value) (hl : ms0.size = vs.length) :
    Blk (setAll W w.heap.size 0 vs).drew w.heap.size vs.toArray 37 ∧ Lists (setAll W w.heap.size 0 vs).drew w.heap.size m q x y z ∧ w.grownBy (setAll W w.heap.size 0 vs).drew (some g) :=
  ⟨blk_drew (setAll_new _ h.res hl), lists_below (lists_setAll h.rows h.res vs 0) (Below.refl _ _).drew, grown_drew (setAll_grown (Nat.le_refl _) _ _ _ h.grown)⟩

end Go.Proofs.Ythhagapmcbkeiaa
