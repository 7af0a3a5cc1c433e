import Derived.Test.YtocadkdfhfiijaaJRd8
import Derived.Test.YtocadkdfhfiijaaJHd1
import Derived.Deep.RegionHeld3
import Derived.Deep.RegionHeld2
import Derived.Test.YtocadkdfhfiijaaJMath
import Derived.Deep.RegionLaw
import Derived.Test.YtocadkdfhfiijaaJNumM
import Derived.Maps.AppendAt
/- (*reader).records by its contract. -/
namespace Go.Proofs.Ytocadkdfhfiijaa
open Go.RowKit
set_option linter.unusedVariables false

theorem dtP_next (l : List UInt8) (fin : Nat) : ∀ (ps : List (Option Nat)) (p : Nat) (acc d : List UInt8) (q : Nat), dtP l fin ps p acc = .ok d q → q = fin := by
  intro ps
  induction ps with
  | nil => intro p acc d q h; rw [dtP] at h; split at h <;> simp at h; exact h.2.symm
  | cons x ps ih =>
    intro p acc d q h
    cases x with
    | none =>
      rw [dtP] at h
      split at h
      · simp at h
      · split at h
        · exact ih _ _ _ _ h
        · simp at h
    | some n =>
      rw [dtP] at h
      split at h
      · exact ih _ _ _ _ h
      · simp at h

theorem dataS_next {l : List UInt8} {t p fin q : Nat} {d : List UInt8} (h : dataS l t p fin = .ok d q) : q = fin := by
  rw [dataS] at h
  split at h
  · simp at h; exact h.2.symm
  · split at h
    · exact dtP_next _ _ _ _ _ _ _ h
    · split at h <;> simp at h; exact h.2.symm

theorem rrS_bad {l : List UInt8} {p : Nat} {c : Int} (h : dnF l p p [] none = .bad c) : rrS l p = .bad c := by rw [rrS, h]
theorem rrS_short {l : List UInt8} {p nx : Nat} {s : List UInt8} (h : dnF l p p [] none = .ok s nx) (h4 : l.length < nx + 8) : rrS l p = .bad 8 := by rw [rrS, h]; simp only; rw [if_neg (by omega)]
theorem rrS_dat {l : List UInt8} {p nx : Nat} {s : List UInt8} {c : Int} (h : dnF l p p [] none = .ok s nx) (hd : dtaS l (n16 l nx) (nx + 8) = .bad c) : rrS l p = .bad c := by
  rw [dtaS] at hd
  rw [rrS, h]
  simp only
  have e : nx + 8 + 2 = nx + 10 := by omega
  rw [e] at hd
  by_cases h1 : nx + 10 ≤ l.length
  · rw [if_pos h1] at hd ⊢
    by_cases h2 : nx + 10 + n16 l (nx + 8) ≤ l.length
    · rw [if_pos h2] at hd ⊢
      rw [hd]
    · rw [if_neg h2] at hd ⊢
      cases hd; rfl
  · rw [if_neg h1] at hd ⊢
    cases hd; rfl
theorem rrS_ok {l : List UInt8} {p nx q : Nat} {s d : List UInt8} (h : dnF l p p [] none = .ok s nx) (hd : dtaS l (n16 l nx) (nx + 8) = .ok d q) : rrS l p = .ok ⟨s, n16 l nx, n16 l (nx + 2), n32 l (nx + 4), d⟩ q := by
  rw [dtaS] at hd
  rw [rrS, h]
  simp only
  have e : nx + 8 + 2 = nx + 10 := by omega
  rw [e] at hd
  by_cases h1 : nx + 10 ≤ l.length
  · rw [if_pos h1] at hd ⊢
    by_cases h2 : nx + 10 + n16 l (nx + 8) ≤ l.length
    · rw [if_pos h2] at hd ⊢
      rw [hd, dataS_next hd]
    · rw [if_neg h2] at hd
      cases hd
  · rw [if_neg h1] at hd
    cases hd

theorem ESt.store {w W : World} {g n pos e s m b i : Nat} {V vo v : Value} {cs : List Value} (h : ESt w W g V n e s vo m cs pos) (hb : w.heap.size ≤ b) (hbg : g ≠ b) (hrow : ∀ k, vo.ownBlock = some k → k ≠ b) : ESt w (W.setCell ⟨b, i, none⟩ v) g V n e s vo m cs pos := by
  have hg : W.grownBy (W.setCell ⟨b, i, none⟩ v) (some b) := ⟨rfl, rfl, rfl, by simp, fun k _ hk => heap_setCell_other W ⟨b, i, none⟩ k _ (fun e => hk (by simp [e]))⟩
  refine ⟨h.own.kept hg ?_, blk_far (rd_blk h.rd) hbg, h.le, hgr_set h.grown hb, h.ne⟩
  cases hv : vo.ownBlock with
  | none => exact .inl rfl
  | some k => exact .inr (by simpa using hrow k hv)

theorem cell_newS (w : World) (b i : Nat) (v : Value) (vs : List Value) (e : Nat) : ∀ (j : Nat) (u : Value), vs[j]? = some u → ((w.setCell ⟨b, i, none⟩ v).alloc (.cells vs.toArray e)).cell? ((⟨w.heap.size, 0, none⟩ : Addr).add j) = some u := by
  have h := cell_newL (w.setCell ⟨b, i, none⟩ v) vs e
  have e2 : (w.setCell ⟨b, i, none⟩ v).heap.size = w.heap.size := by simp
  rw [e2] at h
  exact h

set_option maxRecDepth 100000 in
set_option maxHeartbeats 3200000 in
theorem records_any (g : Nat) (a : Option Addr) (l : List UInt8) (cap p count : Nat) (w : World) (h : Rd w g (.slice a l.length cap) p) (hfar : ∀ w', w.grownBy w' (some g) → BySl w' (.slice a l.length cap) l) (hp : p ≤ l.length) (hnn : l.length ≤ 1048576) (hcnt : count ≤ 65535) :
    Calls Try.prog 36 #[.pointer (some ⟨g, 0, none⟩), .int .i64 count] w fun e w' =>
      (∃ xs q v, manyS (rrS l) count p [] = .ok xs q ∧ e = .returned v ∧ ESt w w' g (.slice a l.length cap) l.length 66 5 v xs.length (rrCs xs) q) ∨
      (∃ c, manyS (rrS l) count p [] = .bad c ∧ e = .panicked (fault c) ∧ w.grownBy w' (some g)) := by
  obtain ⟨i0, hi, hz0, hz1, hz2⟩ := info_parts Try.infoRR
  have hglt := rd_lt h
  generalize hR : manyS (rrS l) count p [] = R
  go_enter Try.func36, Try.ntmps36
  go_wp2
  go_loopw [5, 8] (fun vo vk wr => ∃ (k pos : Nat) (xs : List Rm) (q : Value), q = vo ∧ vk = .int .i64 k ∧ k ≤ count ∧ xs.length = k ∧ ESt w wr g (.slice a l.length cap) l.length 66 5 vo k (rrCs xs) pos ∧ manyS (rrS l) (count - k) pos xs = R)
    (fun _ vk _ => count - (intOf vk).toNat)
  case atStart => exact ⟨0, p, [], _, rfl, rfl, Nat.zero_le _, rfl, ⟨⟨rfl, .inl ⟨rfl, rfl⟩⟩, h, hp, World.grownBy.refl _ _, by decide⟩, hR⟩
  case round =>
    obtain ⟨k, pos, xs, vo, rfl, rfl, hk, hxl, hst, hres⟩ := hrel
    clear hR h
    by_cases hlt : k < count
    · have hlt' : (k : Int) < (count : Int) := by omega
      have hck : count - k = (count - (k + 1)) + 1 := by omega
      rw [hck, manyS] at hres
      have hnm := name_any g a l cap pos wr hst.rd (hfar _ hst.grown) (fun W hW => hfar W (gr_step hst.grown hW)) hst.le hnn
      have hnum := fun (q sz : Nat) (hsz : sz ≤ 6) W (hs : ESt w W g (.slice a l.length cap) l.length 66 5 vo k (rrCs xs) q) => number_any g a l cap q sz W hs.rd (hfar _ hs.grown) (fun W2 hW2 => hfar W2 (gr_step hs.grown hW2)) hs.le hnn hsz
      have hdt := fun (q t : Nat) W (hs : ESt w W g (.slice a l.length cap) l.length 66 5 vo k (rrCs xs) q) => data_any g a l cap q t W hs.rd (fun W2 hW2 => hfar W2 (gr_step hs.grown hW2)) hs.le hnn
      have HRD : Hid (∀ W W2 q q2, ESt w W g (.slice a l.length cap) l.length 66 5 vo k (rrCs xs) q → W.grownBy W2 (some g) → Rd W2 g (.slice a l.length cap) q2 → q2 ≤ l.length → ESt w W2 g (.slice a l.length cap) l.length 66 5 vo k (rrCs xs) q2) := by exact fun W W2 q q2 hs hW hr hle => hs.read hW hr hle
      cases hd : dnF l pos pos [] none using Rs.elim with
      | bad c =>
        rw [rrS_bad hd] at hres
        simp only at hres
        subst hres
        have hnm' := hnm.mono (R' := fun e w' => e = .panicked (fault c) ∧ wr.grownBy w' (some g)) (by
          rintro e w2 (⟨_, _, hx, _⟩ | ⟨c2, hx, he, hg2⟩)
          · rw [hd] at hx; cases hx
          · rw [hd] at hx; cases hx; exact ⟨he, hg2⟩)
        have HG : Hid (∀ W, wr.grownBy W (some g) → w.grownBy W (some g)) := by exact fun W hW => gr_step hst.grown hW
        clear hnm hst hfar hnum HRD hdt
        go_wp2_with (go_at_call 58; refine hnm'.mono ?_; rintro e w6 ⟨rfl, hg6⟩)
        refine bp_panic rfl ?_
        exact .inr ⟨_, rfl, rfl, HG.out _ hg6⟩
      | ok s nx =>
        have hnm' := hnm.mono (R' := fun e w' => e = .returned (.string ⟨s.toArray⟩) ∧ Rd w' g (.slice a l.length cap) nx ∧ nx ≤ l.length ∧ wr.grownBy w' (some g)) (by
          rintro e w2 (⟨_, _, hx, he, hr, hn, hg2⟩ | ⟨c2, hx, he, hg2⟩)
          · rw [hd] at hx; cases hx; exact ⟨he, hr, hn, hg2⟩
          · rw [hd] at hx; cases hx)
        by_cases h8 : nx + 8 ≤ l.length
        · have hn1 := fun W hs => (hnum nx 2 (by decide) W hs).mono (R' := fun e w' => e = .returned (.int .i64 ((n16 l nx : Nat) : Int)) ∧ Rd w' g (.slice a l.length cap) (nx + 2) ∧ W.grownBy w' (some g)) (by
            rintro e w' (⟨_, h1, h2, h3⟩ | ⟨h1, _⟩)
            · exact ⟨h1, h2, h3⟩
            · omega)
          have hn2 := fun W hs => (hnum (nx + 2) 2 (by decide) W hs).mono (R' := fun e w' => e = .returned (.int .i64 ((n16 l (nx + 2) : Nat) : Int)) ∧ Rd w' g (.slice a l.length cap) (nx + 4) ∧ W.grownBy w' (some g)) (by
            rintro e w' (⟨_, h1, h2, h3⟩ | ⟨h1, _⟩)
            · exact ⟨h1, h2, h3⟩
            · omega)
          have hn3 := fun W hs => (hnum (nx + 4) 4 (by decide) W hs).mono (R' := fun e w' => e = .returned (.int .i64 ((n32 l (nx + 4) : Nat) : Int)) ∧ Rd w' g (.slice a l.length cap) (nx + 8) ∧ W.grownBy w' (some g)) (by
            rintro e w' (⟨_, h1, h2, h3⟩ | ⟨h1, _⟩)
            · exact ⟨h1, h2, h3⟩
            · omega)
          have hdt8 := fun W hs => hdt (nx + 8) (n16 l nx) W hs
          have HST := Nm.hide hst
          have HDB := Nm.hide (fun c => rrS_dat (c := c) hd)
          have HDO := Nm.hide (fun d q => rrS_ok (d := d) (q := q) hd)
          clear hnm hst hfar hnum hdt
          generalize n16 l nx = ty at *
          generalize n16 l (nx + 2) = cl at *
          generalize n32 l (nx + 4) = tl at *
          go_wp2_with (first | (go_at_call 58; refine hnm'.mono ?_; rintro e w6 ⟨rfl, hr6, hn6, hg6⟩; have hst6 := HRD.out _ _ _ _ HST.out hg6 hr6 hn6) | (go_at_call 57; refine (hn1 _ hst6).mono ?_; rintro e w7 ⟨rfl, hr7, hg7⟩; have hst7 := HRD.out _ _ _ _ hst6 hg7 hr7 (by omega); clear hn1) | (go_at_call 57; refine (hn2 _ hst7).mono ?_; rintro e w8 ⟨rfl, hr8, hg8⟩; have hst8 := HRD.out _ _ _ _ hst7 hg8 hr8 (by omega); clear hn2) | (go_at_call 57; refine (hn3 _ hst8).mono ?_; rintro e w9 ⟨rfl, hr9, hg9⟩; have hst9 := HRD.out _ _ _ _ hst8 hg9 hr9 h8; clear hn3))
          have hst10 := hst9.alloc (.cells #[.string ⟨s.toArray⟩, .int .i64 (ty : Int), .int .i64 (cl : Int), .int .i64 (tl : Int), .string ByteArray.empty] 66)
          have hB := blk_new w9 #[.string ⟨s.toArray⟩, .int .i64 (ty : Int), .int .i64 (cl : Int), .int .i64 (tl : Int), .string ByteArray.empty] 66
          have hrow : ∀ q, vo.ownBlock = some q → q < w9.heap.size := fun q hq => (hst9.own.lt q hq).2
          have hwl := hst9.grown.size
          clear hst6 hst7 hst8 hst9 hr6 hg6 hr7 hg7 hr8 hg8 hr9 hg9
          refine (hdt8 _ hst10).mono ?_
          rintro e w11 (⟨d, q, hdd, rfl, hr11, hq, hg11⟩ | ⟨c, hdd, rfl, hg11⟩)
          · rw [HDO.out d q hdd] at hres
            simp only at hres
            have HRES := Nm.hide hres
            have hst11 := HRD.out _ _ _ _ hst10 hg11 hr11 hq
            have hB11 := blk_grown hB hg11 (by simp; omega)
            have hst12 := hst11.store (b := w9.heap.size) (i := 4) (v := .string ⟨d.toArray⟩) hwl (by omega) (fun q hq => by have := hrow q hq; omega)
            have hB12 := blk_set hB11 4 (.string ⟨d.toArray⟩)
            have c4 := blk_cell hB11 4
            have f4 := blk_frozen hB11 4
            have r := fun i => blk_cell hB12 i
            have hs12 := hst12.grown.size
            clear hres hst10 hst11 hB hB11 hB12 hr11 hg11 hdd
            go_wp2_with (at_builtin; refine wpList_append_own _ rfl (.tmp 24) (.tmp 26) 27 rfl w.heap.size 66 i0 (.agg #[.string ByteArray.empty, .int .i64 0, .int .i64 0, .int .i64 0, .string ByteArray.empty]) 5 56 Try.underlying27 hi hz0 hz1 hz2 rfl (by decide) _ _ _ rfl (hst12.alloc _).own ⟨w11.heap.size, 0, none⟩ 1 1 (rrC ⟨s, ty, cl, tl, d⟩) rfl rfl (cell_newS _ _ _ _ _ _) (by intro u hu; simp [rrC] at hu; rcases hu with rfl | rfl | rfl | rfl | rfl <;> rfl) (by unfold maxLen; omega) (by omega) (by simp at hs12 ⊢; omega) ?_; intro va wa hown13 hgrow13 hnl13; clear hnl13; rw [← rrCs_snoc] at hown13; have HST13 := Nm.hide ((hst12.alloc _).app hgrow13 hown13); clear hgrow13 hown13 hst12)
            go_roundw
            case rel => exact ⟨k + 1, q, xs ++ [⟨s, ty, cl, tl, d⟩], _, rfl, by go_num, by omega, by simp; omega, HST13.out, HRES.out⟩
            case measure => simp [intOf]; omega
          · rw [HDB.out c hdd] at hres
            simp only at hres
            subst hres
            go_wp2
            refine bp_panic rfl ?_
            exact .inr ⟨_, rfl, rfl, gr_step hst10.grown hg11⟩
        · rw [rrS_short hd (by omega)] at hres
          simp only at hres
          subst hres
          have HST := Nm.hide hst
          clear hnm hst hfar hdt
          go_wp2_with (go_at_call 58; refine hnm'.mono ?_; rintro e w6 ⟨rfl, hr6, hn6, hg6⟩; have hst6 := HRD.out _ _ _ _ HST.out hg6 hr6 hn6)
          refine (hnum nx 2 (by decide) _ hst6).mono ?_
          rintro e w7 (⟨hl7, rfl, hr7, hg7⟩ | ⟨_, rfl, hg7⟩)
          rotate_left 1
          · go_wp2
            refine bp_panic rfl ?_
            exact .inr ⟨_, rfl, rfl, gr_step hst6.grown hg7⟩
          have hst7 := HRD.out _ _ _ _ hst6 hg7 hr7 (by omega)
          go_wp2_with fail
          refine (hnum (nx + 2) 2 (by decide) _ hst7).mono ?_
          rintro e w8 (⟨hl8, rfl, hr8, hg8⟩ | ⟨_, rfl, hg8⟩)
          rotate_left 1
          · go_wp2
            refine bp_panic rfl ?_
            exact .inr ⟨_, rfl, rfl, gr_step hst7.grown hg8⟩
          have hst8 := HRD.out _ _ _ _ hst7 hg8 hr8 (by omega)
          go_wp2_with fail
          refine (hnum (nx + 2 + 2) 4 (by decide) _ hst8).mono ?_
          rintro e w9 (⟨hl9, _⟩ | ⟨_, rfl, hg9⟩)
          · omega
          go_wp2
          refine bp_panic rfl ?_
          exact .inr ⟨_, rfl, rfl, gr_step hst8.grown hg9⟩
    · have hge : (count : Int) ≤ (k : Int) := by omega
      have hck : count - k = 0 := by omega
      rw [hck, manyS] at hres
      subst hres
      go_wp2
      go_ret
      exact .inl ⟨_, _, _, rfl, rfl, by rw [hxl]; exact hst⟩
end Go.Proofs.Ytocadkdfhfiijaa
/- (*reader).message by its contract. -/
namespace Go.Proofs.Ytocadkdfhfiijaa
open Go.RowKit
set_option linter.unusedVariables false

theorem listsS_q {l : List UInt8} {c : Int} (h : manyS (quS l) (n16 l 4) 12 [] = .bad c) : listsS l = .bad c := by rw [listsS, h]
theorem listsS_a {l : List UInt8} {c : Int} {qs p1} (h : manyS (quS l) (n16 l 4) 12 [] = .ok qs p1) (h2 : manyS (rrS l) (n16 l 6) p1 [] = .bad c) : listsS l = .bad c := by rw [listsS, h]; simp only; rw [h2]
theorem listsS_u {l : List UInt8} {c : Int} {qs p1 an p2} (h : manyS (quS l) (n16 l 4) 12 [] = .ok qs p1) (h2 : manyS (rrS l) (n16 l 6) p1 [] = .ok an p2) (h3 : manyS (rrS l) (n16 l 8) p2 [] = .bad c) : listsS l = .bad c := by rw [listsS, h]; simp only; rw [h2]; simp only; rw [h3]
theorem listsS_e {l : List UInt8} {c : Int} {qs p1 an p2 au p3} (h : manyS (quS l) (n16 l 4) 12 [] = .ok qs p1) (h2 : manyS (rrS l) (n16 l 6) p1 [] = .ok an p2) (h3 : manyS (rrS l) (n16 l 8) p2 [] = .ok au p3) (h4 : manyS (rrS l) (n16 l 10) p3 [] = .bad c) : listsS l = .bad c := by rw [listsS, h]; simp only; rw [h2]; simp only; rw [h3]; simp only; rw [h4]
theorem listsS_ok {l : List UInt8} {qs p1 an p2 au p3 ex p4} (h : manyS (quS l) (n16 l 4) 12 [] = .ok qs p1) (h2 : manyS (rrS l) (n16 l 6) p1 [] = .ok an p2) (h3 : manyS (rrS l) (n16 l 8) p2 [] = .ok au p3) (h4 : manyS (rrS l) (n16 l 10) p3 [] = .ok ex p4) : listsS l = if p4 < l.length then .bad 10 else .ok ⟨qs, an, au, ex⟩ p4 := by rw [listsS, h]; simp only; rw [h2]; simp only; rw [h3]; simp only; rw [h4]

/-- The variables of message while the lists are read. -/
structure MSt (w W : World) (g b : Nat) (V : Value) (hd ct : Array Value) (n pos : Nat) : Prop where
  rd : Rd W g V pos
  le : pos ≤ n
  grown : w.grownBy W (some g)
  res : Blk W w.heap.size ms0 29
  hb : Blk W b hd 25
  cb : Blk W (b + 1) ct 59
  lt : w.heap.size < b
  glt : g < w.heap.size

theorem MSt.read {w W W1 : World} {g b n pos pos1 : Nat} {V : Value} {hd ct : Array Value} (h : MSt w W g b V hd ct n pos) (hg : W.grownBy W1 (some g)) (hr : Rd W1 g V pos1) (hle : pos1 ≤ n) : MSt w W1 g b V hd ct n pos1 :=
  have h1 := h.lt
  have h2 := h.glt
  ⟨hr, hle, hgr_step h.grown hg, blk_grown h.res hg (by simp; omega), blk_grown h.hb hg (by simp; omega), blk_grown h.cb hg (by simp; omega), h.lt, h.glt⟩

theorem MSt.below {w W W1 : World} {g b n pos : Nat} {V : Value} {hd ct : Array Value} (h : MSt w W g b V hd ct n pos) (hb : Below W.heap.size W W1) : MSt w W1 g b V hd ct n pos :=
  ⟨rd_below h.rd hb, h.le, hgr_below h.grown hb, blk_below h.res hb, blk_below h.hb hb, blk_below h.cb hb, h.lt, h.glt⟩

theorem MSt.alloc {w W : World} {g b n pos : Nat} {V : Value} {hd ct : Array Value} (h : MSt w W g b V hd ct n pos) (o : Obj) : MSt w (W.alloc o) g b V hd ct n pos := h.below ((Below.refl _ _).alloc (Nat.le_refl _) o)
theorem MSt.drew {w W : World} {g b n pos : Nat} {V : Value} {hd ct : Array Value} (h : MSt w W g b V hd ct n pos) : MSt w W.drew g b V hd ct n pos := h.below (Below.refl _ _).drew

theorem mst_new {w w2 : World} {g d f n : Nat} {V : Value} {l : List UInt8} (hr2 : Rd w2 g V 12) (hle : 12 ≤ n) (hg2 : w.grownBy w2 (some g)) (hb2 : Blk w2 w.heap.size ms0 29) (hglt : g < w.heap.size) :
    MSt w ((w2.alloc (.cells (hdA d f) 25)).alloc (.cells (ctA l) 59)) g w2.heap.size V (hdA d f) (ctA l) n 12 := by
  have hbb : Below w2.heap.size w2 ((w2.alloc (.cells (hdA d f) 25)).alloc (.cells (ctA l) 59)) := ((Below.refl _ _).alloc (Nat.le_refl _) _).alloc (by simp) _
  have e1 : (w2.alloc (.cells (hdA d f) 25)).heap.size = w2.heap.size + 1 := by simp
  have hcb := blk_new (w2.alloc (.cells (hdA d f) 25)) (ctA l) 59
  rw [e1] at hcb
  exact ⟨rd_below hr2 hbb, hle, hgr_below hg2 hbb, blk_below hb2 hbb, blk_alloc (blk_new w2 (hdA d f) _) _, hcb, blk_lt hb2, hglt⟩

theorem gen_world2 {Pr G : World → Prop} {W : World} (h : Pr W) (k : ∀ W, Pr W → G W) : G W := k W h

theorem row_grown {w w1 : World} {B e m g p s : Nat} {v V : Value} {xs : List Value} (h : w.ownsRow B e s v m xs) (hs : Rd w g V p) (hne : e ≠ 50) (hg : w.grownBy w1 (some g)) : w1.ownsRow B e s v m xs := h.kept hg (rowS_rd h hs hne)

/-- A call that panics, met where one way must be left to go on: that way has 'False' ahead of it. -/
theorem calls_panics {P : Program} {f : FuncId} {args : Array Value} {w : World} {R : Ending → World → Prop} {ch : List PanicEntry} (v0 : Value) (h : Calls P f args w (fun e w' => e = .panicked ch ∧ R (.panicked ch) w')) (_ : Hid False → R (.returned v0) w) : Calls P f args w R :=
  h.mono (fun e w' ⟨he, hr⟩ => he ▸ hr)
theorem calls_any {P : Program} {f : FuncId} {args : Array Value} {w : World} {R : Ending → World → Prop} (v0 : Value) (hF : Hid False) (_ : R (.returned v0) w) : Calls P f args w R := hF.out.elim

/-- Entries read in their turn, as message wants them. -/
def Turn (w : World) (g b : Nat) (V : Value) (hd ct : Array Value) (n e s m q : Nat) (cs : List Value) (W : World) (x : Ending) (W' : World) : Prop :=
  ∃ v, x = .returned v ∧ MSt w W' g b V hd ct n q ∧ W'.ownsRow w.heap.size e s v m cs ∧ W.grownBy W' (some g)

theorem blk_ne {W : World} {x y : Nat} {cs ds : Array Value} {T U : TypeId} (h : Blk W x cs T) (h2 : Blk W y ds U) (hne : T ≠ U) : x ≠ y := by
  rintro rfl
  unfold Blk at h h2
  rw [h] at h2
  simp at h2
  exact hne h2.2

theorem MSt.sets {w W : World} {g b n pos b5 : Nat} {V : Value} {hd ct cs : Array Value} (h : MSt w W g b V hd ct n pos) (hB : Blk W b5 cs 29) (hlt : w.heap.size < b5) (vs : List Value) : MSt w (setAll W b5 0 vs) g b V hd ct n pos := by
  have h1 := h.glt
  exact ⟨setAll_far (by omega) _ _ _ (rd_blk h.rd), h.le, setAll_grown (by omega) _ _ _ h.grown, setAll_far (by omega) _ _ _ h.res, setAll_far (blk_ne h.hb hB (by decide)) _ _ _ h.hb, setAll_far (blk_ne h.cb hB (by decide)) _ _ _ h.cb, h.lt, h.glt⟩

/-- The message is handed back out of its variable. -/
theorem msg_back {w W : World} {cs : Array Value} {R : Ending → World → Prop} {a : Act} (h : Blk W w.heap.size cs 29)
    (hc : ∃ x0 x1 x2 x3 x4 x5 x6 x7 x8 x9 x10 x11 x12 x13 x14 : Value, cs = #[x0, x1, x2, x3, x4, x5, x6, x7, x8, x9, x10, x11, x12, x13, x14])
    (h2 : a.tmps[2]? = some (.pointer (some ⟨w.heap.size, 0, none⟩))) (hd : a.defers = []) (hR : R (.returned (.agg cs)) W) : bodyPost Try.prog Try.f17 R .ret a W := by
  obtain ⟨x0, x1, x2, x3, x4, x5, x6, x7, x8, x9, x10, x11, x12, x13, x14, rfl⟩ := hc
  refine bodyPost_ret ?_ hd hR
  have r := fun i => blk_cell h i
  simp [results, Try.results17, go_sem, Result.andThen, r, h2]

theorem row_setAll {b B e s m : Nat} {v : Value} {xs : List Value} (hne : e ≠ 29) : ∀ (vs : List Value) (i : Nat) (W : World) (cs : Array Value), W.ownsRow B e s v m xs → Blk W b cs 29 → (setAll W b i vs).ownsRow B e s v m xs := by
  intro vs
  induction vs with
  | nil => intro i W cs h _; exact h
  | cons x vs ih =>
    intro i W cs h hb
    have hg : W.grownBy (W.setCell ⟨b, i, none⟩ x) (some b) := ⟨rfl, rfl, rfl, by simp, fun k _ hk => heap_setCell_other W ⟨b, i, none⟩ k _ (fun e => hk (by simp [e]))⟩
    refine ih (i + 1) _ _ (h.kept hg ?_) (blk_set hb i x)
    rcases h.2 with ⟨rfl, _⟩ | ⟨g', cap', cur, rfl, _, hh, _⟩
    · exact .inl rfl
    · right
      simp only [Value.ownBlock, ne_eq, Option.some.injEq]
      intro e2
      subst e2
      unfold Blk at hb
      rw [hh] at hb
      simp at hb
      exact hne hb.2

theorem lists_setAll {b B : Nat} {m : Mm} {q x y z : Value} {W : World} {cs : Array Value} (h : Lists W B m q x y z) (hb : Blk W b cs 29) (vs : List Value) (i : Nat) : Lists (setAll W b i vs) B m q x y z :=
  ⟨row_setAll (by decide) vs i W cs h.rq hb, row_setAll (by decide) vs i W cs h.ra hb, row_setAll (by decide) vs i W cs h.ru hb, row_setAll (by decide) vs i W cs h.rx hb, h.au, h.ax, h.ux⟩

/-- Message's variables once the lists are read. -/
structure Fin4 (w W : World) (g b5 : Nat) (V : Value) (p : Nat) (cs : Array Value) (m : Mm) (q x y z : Value) : Prop where
  rd : Rd W g V p
  grown : w.grownBy W (some g)
  res : Blk W w.heap.size ms0 29
  var : Blk W b5 cs 29
  lt : w.heap.size < b5
  glt : g < w.heap.size
  rows : Lists W w.heap.size m q x y z

theorem fin_alloc {w W : World} {g b n pos : Nat} {V : Value} {hd ct : Array Value} {m : Mm} {q x y z : Value} (h : MSt w W g b V hd ct n pos) (hr : Lists W w.heap.size m q x y z) (cs : Array Value) :
    Fin4 w (W.alloc (.cells cs 29)) g W.heap.size V pos cs m q x y z := by
  have hb : Below W.heap.size W (W.alloc (.cells cs 29)) := (Below.refl _ _).alloc (Nat.le_refl _) _
  have h2 := h.alloc (.cells cs 29)
  exact ⟨h2.rd, h2.grown, h2.res, blk_new W cs _, blk_lt h.res, h.glt, lists_below hr hb⟩

theorem fin_set {w W : World} {g b b5 n pos : Nat} {V : Value} {hd ct cs : Array Value} {m : Mm} {q x y z : Value} (h : MSt w W g b V hd ct n pos) (hr : Lists W w.heap.size m q x y z) (hB : Blk W b5 cs 29) (hlt : w.heap.size < b5) (vs : List Value) (hl : cs.size = vs.length) :
    Fin4 w (setAll W b5 0 vs) g b5 V pos vs.toArray m q x y z := by
  have h1 := h.glt
  exact ⟨setAll_far (by omega) _ _ _ (rd_blk h.rd), setAll_grown (by omega) _ _ _ h.grown, setAll_far (by omega) _ _ _ h.res, setAll_new _ hB hl, hlt, h.glt, lists_setAll hr hB vs 0⟩

theorem fin_last {w W : World} {g b5 p : Nat} {V : Value} {cs : Array Value} {m : Mm} {q x y z : Value} (h : Fin4 w W g b5 V p cs m q x y z) (vs : List Value) (hl : ms0.size = vs.length) :
    Blk (setAll W w.heap.size 0 vs).drew w.heap.size vs.toArray 29 ∧ Lists (setAll W w.heap.size 0 vs).drew w.heap.size m q x y z ∧ w.grownBy (setAll W w.heap.size 0 vs).drew (some g) :=
  ⟨blk_drew (setAll_new _ h.res hl), lists_below (lists_setAll h.rows h.res vs 0) (Below.refl _ _).drew, grown_drew (setAll_grown (Nat.le_refl _) _ _ _ h.grown)⟩

end Go.Proofs.Ytocadkdfhfiijaa
/- Steps of a drawn region: append onto a row of one's own, a call that leaves the world; the variables of the model's reading. -/
namespace Go.Proofs.Ytocadkdfhfiijaa
open Go.RowKit
set_option linter.unusedVariables false

theorem sst_new {w w1 : World} (hm : Blk w1 w.heap.size ms0 29) (hbe : Below w.heap.size w w1) (hd ct ms : Array Value) :
    SSt w (((w1.alloc (.cells hd 25)).alloc (.cells ct 59)).alloc (.cells ms 29)) w1.heap.size hd ct ms := by
  have e1 : (w1.alloc (.cells hd 25)).heap.size = w1.heap.size + 1 := by simp
  have e2 : ((w1.alloc (.cells hd 25)).alloc (.cells ct 59)).heap.size = w1.heap.size + 1 + 1 := by simp
  have hC := blk_alloc (blk_new (w1.alloc (.cells hd 25)) ct 59) (.cells ms 29)
  have hM := blk_new ((w1.alloc (.cells hd 25)).alloc (.cells ct 59)) ms 29
  rw [e1] at hC
  rw [e2] at hM
  have hb : Below w1.heap.size w1 (((w1.alloc (.cells hd 25)).alloc (.cells ct 59)).alloc (.cells ms 29)) := (((Below.refl _ _).alloc (Nat.le_refl _) _).alloc (by simp) _).alloc (by simp; omega) _
  exact ⟨blk_below hm hb, blk_alloc (blk_alloc (blk_new w1 hd _) _) _, hC, hM, hbe.trans (hb.mono hbe.size), blk_lt hm⟩

theorem step_call1 {P : Program} {ops : Array Oper} {o : Oper} {a : Act} {w : World} {K : Act → World → Prop} {Q : Exit → Act → World → Prop} {E : Prop} (F : FuncId) (x : Nat) (T : TypeId) (V v : Value) (hgd : o.guard = none)
    (ho : o.op = .call { callee := .value (.func F), args := #[.tmp x], argTypes := #[T] }) (hx : a.tmps.getD x undef = V) (hent : (callFunc F #[V]).run P w = .ok (.enter F #[V]) w)
    (hc : Calls P F #[V] w fun e w' => e = .returned v ∧ w' = w) (hK : K (a.put o.dst v) w) :
    if Region.wanted o (yielded ops a.tmps) = true then Oper.wp P o a w K Q else E := by
  have hw : Region.wanted o (yielded ops a.tmps) = true := by simp [Region.wanted, hgd]
  rw [if_pos hw]
  unfold Oper.wp execOp
  simp only [ho, go_sem, resolve, invoke, Sem.run_bind, Sem.run_pure, Result.andThen_ok, List.map_toArray, List.map_cons, List.map_nil]
  rw [hx]
  have e : (#[] ++ #[V] ++ #[] : Array Value) = #[V] := rfl
  rw [e, hent, Oper.upon_enter]
  refine hc.mono ?_
  rintro e w' ⟨rfl, rfl⟩
  exact hK

theorem num_enters (V : Value) (w : World) : (callFunc 31 #[V]).run Try.prog w = .ok (.enter 31 #[V]) w := by kernel_rfl

theorem cell_newD (w : World) (vs : List Value) (e : Nat) : ∀ (j : Nat) (u : Value), vs[j]? = some u → (w.alloc (.cells vs.toArray e)).drew.cell? ((⟨w.heap.size, 0, none⟩ : Addr).add j) = some u := cell_newL w vs e

theorem cut_num2 (l : List UInt8) (p n i m : Nat) (h : p + n ≤ l.length) (hi : i + m ≤ n) : ((ByteArray.mk (cutL l p n).toArray).extract i (i + m)).data.toList = cutL l (p + i) m := cut_num l p n i m h hi

end Go.Proofs.Ytocadkdfhfiijaa
/- Rows that lie apart. -/
namespace Go.Proofs.Ytocadkdfhfiijaa
open Go.RowKit
set_option linter.unusedVariables false

theorem row_blk {W : World} {B e s m b : Nat} {v : Value} {xs : List Value} {cs : Array Value} {T : TypeId} (h : W.ownsRow B e s v m xs) (hb : Blk W b cs T) (hne : e ≠ T) : v.ownBlock ≠ some b := by
  rcases h.2 with ⟨rfl, _⟩ | ⟨g', cap', cur, rfl, _, hh, _⟩
  · simp [Value.ownBlock]
  · simp only [Value.ownBlock, ne_eq, Option.some.injEq]
    intro e2
    subst e2
    unfold Blk at hb
    rw [hh] at hb
    simp at hb
    exact hne hb.2

theorem row_apart {W W1 : World} {B e s m : Nat} {v u : Value} {xs : List Value} (h : W.ownsRow B e s v m xs) (hg : W.grownBy W1 u.ownBlock) (ha : Apart u v) : W1.ownsRow B e s v m xs := by
  refine h.kept hg ?_
  cases hu : u.ownBlock with
  | none =>
    cases hv : v.ownBlock with
    | none => exact .inl rfl
    | some k => right; simp
  | some k => right; exact ha k hu

end Go.Proofs.Ytocadkdfhfiijaa
/- The lists of a message, one entry behind the other: mathematics. -/
namespace Go.Proofs.Ytocadkdfhfiijaa

/-- How many entries list k has. -/
def cntK (l : List UInt8) (k : Nat) : Nat := if k = 1 then n16 l 6 else if k = 2 then n16 l 8 else if k = 3 then n16 l 10 else 0

def cont4 (l : List UInt8) (pos : Nat) (m : Mm) : Rs Mm := if pos < l.length then .bad 10 else .ok m pos
def cont3 (l : List UInt8) (c pos : Nat) (m : Mm) : Rs Mm :=
  match manyS (rrS l) c pos m.ex with
  | .inl c => .bad c
  | .inr (x, p) => cont4 l p ⟨m.qs, m.an, m.au, x⟩
def cont2 (l : List UInt8) (c pos : Nat) (m : Mm) : Rs Mm :=
  match manyS (rrS l) c pos m.au with
  | .inl c => .bad c
  | .inr (x, p) => cont3 l (n16 l 10) p ⟨m.qs, m.an, x, m.ex⟩
def cont1 (l : List UInt8) (c pos : Nat) (m : Mm) : Rs Mm :=
  match manyS (rrS l) c pos m.an with
  | .inl c => .bad c
  | .inr (x, p) => cont2 l (n16 l 8) p ⟨m.qs, x, m.au, m.ex⟩

/-- What is left to be read: c entries of list k from a place on, and the lists behind it. -/
def contK (l : List UInt8) (k c pos : Nat) (m : Mm) : Rs Mm := if k = 1 then cont1 l c pos m else if k = 2 then cont2 l c pos m else if k = 3 then cont3 l c pos m else cont4 l pos m

/-- An entry more in list k. -/
def addK (m : Mm) (k : Nat) (r : Rm) : Mm := if k = 1 then ⟨m.qs, m.an ++ [r], m.au, m.ex⟩ else if k = 2 then ⟨m.qs, m.an, m.au ++ [r], m.ex⟩ else ⟨m.qs, m.an, m.au, m.ex ++ [r]⟩

theorem listsS_cont {l : List UInt8} {qs : List Qm} {p : Nat} (h : manyS (quS l) (n16 l 4) 12 [] = .ok qs p) : listsS l = contK l 1 (cntK l 1) p ⟨qs, [], [], []⟩ := by
  rw [listsS, h, contK, if_pos rfl, cntK, if_pos rfl, cont1]
  simp only
  cases manyS (rrS l) (n16 l 6) p [] using Rs.elim with
  | bad c => rfl
  | ok an p2 =>
    simp only
    rw [cont2]
    simp only
    cases manyS (rrS l) (n16 l 8) p2 [] using Rs.elim with
    | bad c => rfl
    | ok au p3 =>
      simp only
      rw [cont3]
      simp only
      cases manyS (rrS l) (n16 l 10) p3 [] using Rs.elim with
      | bad c => rfl
      | ok ex p4 => rfl

theorem contK_zero {l : List UInt8} {k pos : Nat} {m : Mm} (h1 : 1 ≤ k) (h3 : k ≤ 3) : contK l k 0 pos m = contK l (k + 1) (cntK l (k + 1)) pos m := by
  have : k = 1 ∨ k = 2 ∨ k = 3 := by omega
  rcases this with rfl | rfl | rfl
  · simp [contK, cont1, manyS, cntK]
  · simp [contK, cont2, manyS, cntK]
  · simp [contK, cont3, manyS]

theorem contK_bad {l : List UInt8} {k c pos : Nat} {m : Mm} {code : Int} (h1 : 1 ≤ k) (h3 : k ≤ 3) (h : rrS l pos = .bad code) : contK l k (c + 1) pos m = .bad code := by
  have : k = 1 ∨ k = 2 ∨ k = 3 := by omega
  rcases this with rfl | rfl | rfl
  · simp [contK, cont1, manyS, h]
  · simp [contK, cont2, manyS, h]
  · simp [contK, cont3, manyS, h]

theorem contK_ok {l : List UInt8} {k c pos q : Nat} {m : Mm} {r : Rm} (h1 : 1 ≤ k) (h3 : k ≤ 3) (h : rrS l pos = .ok r q) : contK l k (c + 1) pos m = contK l k c q (addK m k r) := by
  have : k = 1 ∨ k = 2 ∨ k = 3 := by omega
  rcases this with rfl | rfl | rfl
  · simp [contK, cont1, manyS, h, addK]
  · simp [contK, cont2, manyS, h, addK]
  · simp [contK, cont3, manyS, h, addK]

theorem contK_end {l : List UInt8} {c pos : Nat} {m : Mm} : contK l 4 c pos m = if pos < l.length then .bad 10 else .ok m pos := rfl

theorem rrS_place {l : List UInt8} {p q : Nat} {r : Rm} (h : rrS l p = .ok r q) : q ≤ l.length := by
  rw [rrS] at h
  split at h
  · cases h
  · split at h
    · split at h
      · split at h
        · cases h
        · cases h; assumption
      · cases h
    · cases h
end Go.Proofs.Ytocadkdfhfiijaa
/- A message's lists: one more entry. -/
namespace Go.Proofs.Ytocadkdfhfiijaa
open Go.RowKit
set_option linter.unusedVariables false

theorem row_other {W W1 : World} {B e s m e' s' m' B' : Nat} {v u : Value} {xs ys : List Value} (h : W.ownsRow B e s v m xs) (hu : W.ownsRow B' e' s' u m' ys) (hne : e ≠ e') (hg : W.grownBy W1 u.ownBlock) : W1.ownsRow B e s v m xs := own_apart h hu hne hg

theorem apart_after {W : World} {B e s m : Nat} {v v' u : Value} {ys : List Value} (hat : v'.ownBlock = v.ownBlock ∨ v'.ownBlock = some W.heap.size) (ha : Apart v u) (hu : W.ownsRow B e s u m ys) : Apart v' u := by
  intro k hk hk2
  rcases hat with h | h
  · exact ha k (by rw [← h]; exact hk) hk2
  · rw [h] at hk
    have := (hu.lt k hk2).2
    simp only [Option.some.injEq] at hk
    omega
theorem apart_symm {u v : Value} (h : Apart u v) : Apart v u := fun k h1 h2 => h k h2 h1

theorem Lists.app1 {W W1 : World} {B : Nat} {m : Mm} {q x y z x' : Value} {r : Rm} (h : Lists W B m q x y z) (ho : W1.ownsRow B 66 5 x' (m.an.length + 1) (rrCs (m.an ++ [r]))) (hg : W.grownBy W1 x.ownBlock) (hat : x'.ownBlock = x.ownBlock ∨ x'.ownBlock = some W.heap.size) : Lists W1 B ⟨m.qs, m.an ++ [r], m.au, m.ex⟩ q x' y z :=
  ⟨own_apart h.rq h.ra (by decide) hg, by simpa using ho, row_apart h.ru hg h.au, row_apart h.rx hg h.ax, apart_after hat h.au h.ru, apart_after hat h.ax h.rx, h.ux⟩
theorem Lists.app2 {W W1 : World} {B : Nat} {m : Mm} {q x y z y' : Value} {r : Rm} (h : Lists W B m q x y z) (ho : W1.ownsRow B 66 5 y' (m.au.length + 1) (rrCs (m.au ++ [r]))) (hg : W.grownBy W1 y.ownBlock) (hat : y'.ownBlock = y.ownBlock ∨ y'.ownBlock = some W.heap.size) : Lists W1 B ⟨m.qs, m.an, m.au ++ [r], m.ex⟩ q x y' z :=
  ⟨own_apart h.rq h.ru (by decide) hg, row_apart h.ra hg (apart_symm h.au), by simpa using ho, row_apart h.rx hg h.ux, apart_symm (apart_after hat (apart_symm h.au) h.ra), h.ax, apart_after hat h.ux h.rx⟩
theorem Lists.app3 {W W1 : World} {B : Nat} {m : Mm} {q x y z z' : Value} {r : Rm} (h : Lists W B m q x y z) (ho : W1.ownsRow B 66 5 z' (m.ex.length + 1) (rrCs (m.ex ++ [r]))) (hg : W.grownBy W1 z.ownBlock) (hat : z'.ownBlock = z.ownBlock ∨ z'.ownBlock = some W.heap.size) : Lists W1 B ⟨m.qs, m.an, m.au, m.ex ++ [r]⟩ q x y z' :=
  ⟨own_apart h.rq h.rx (by decide) hg, row_apart h.ra hg (apart_symm h.ax), row_apart h.ru hg (apart_symm h.ux), by simpa using ho, h.au, apart_symm (apart_after hat (apart_symm h.ax) h.ra), apart_symm (apart_after hat (apart_symm h.ux) h.ru)⟩

/-- A field of the message's variable is set: the lists stand. -/
theorem lists_field {b B i : Nat} {m : Mm} {q x y z v : Value} {W : World} {cs : Array Value} (h : Lists W B m q x y z) (hb : Blk W b cs 29) : Lists (W.setCell ⟨b, i, none⟩ v) B m q x y z := lists_setAll h hb [v] i

theorem cell_new5 (w : World) (vs : List Value) (e : Nat) : ∀ (j : Nat) (u : Value), vs[j]? = some u → (w.alloc (.cells vs.toArray e)).cell? ((⟨w.heap.size, 0, none⟩ : Addr).add j) = some u := cell_newL w vs e
end Go.Proofs.Ytocadkdfhfiijaa
