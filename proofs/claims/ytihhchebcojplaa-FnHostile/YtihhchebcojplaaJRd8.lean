import Derived.Test.YtihhchebcojplaaJRd6
import Derived.Test.YtihhchebcojplaaJMpS
/- (*reader).data by its contract. -/
namespace Go.Proofs.Ytihhchebcojplaa
open Go.RowKit
set_option linter.unusedVariables false

/-- A record's data with the number of its bytes ahead of it. -/
def dtaS (l : List UInt8) (t p : Nat) : Rs (List UInt8) :=
  if p + 2 ≤ l.length then if p + 2 + n16 l p ≤ l.length then dataS l t (p + 2) (p + 2 + n16 l p) else .bad 8 else .bad 8

theorem str_cut (l : List UInt8) (p n : Nat) (h : p + n ≤ l.length) : (ByteArray.mk (cutL l p n).toArray).size = n := by
  rw [mk_sz, cutL_length h]

set_option maxRecDepth 100000 in
set_option maxHeartbeats 600000 in
theorem data_any (g : Nat) (a : Option Addr) (l : List UInt8) (cap p t : Nat) (w : World) (h : Rd w g (.slice a l.length cap) p) (hfar : ∀ w', w.grownBy w' (some g) → BySl w' (.slice a l.length cap) l) (hp : p ≤ l.length) (hnn : l.length ≤ 1048576) :
    Calls Try.prog 57 #[.pointer (some ⟨g, 0, none⟩), .int .i64 t] w fun e w' =>
      (∃ d q, dtaS l t p = .ok d q ∧ e = .returned (.string ⟨d.toArray⟩) ∧ Rd w' g (.slice a l.length cap) q ∧ q ≤ l.length ∧ w.grownBy w' (some g)) ∨
      (∃ c, dtaS l t p = .bad c ∧ e = .panicked (fault c) ∧ w.grownBy w' (some g)) := by
  have hcap : l.length ≤ cap := by
    obtain ⟨_, a', cap', e, h1, _⟩ := hfar w (World.grownBy.refl _ _)
    simp only [Value.slice.injEq] at e
    obtain ⟨rfl, _, rfl⟩ := e
    exact h1
  have hnum := number_any g a l cap p 2 w h (hfar w (World.grownBy.refl _ _)) (fun W hW => hfar W hW) hp hnn (by decide)
  by_cases h2 : p + 2 ≤ l.length
  · have h2' : ¬ l.length < p + 2 := by omega
    simp only [h2, h2', true_and, false_and, or_false] at hnum
    have hn := n16_lt l p
    have htk := fun W (hr : Rd W g (.slice a l.length cap) (p + 2)) => take_any g a l.length cap (p + 2) (n16 l p) W hr h2 hcap hnn (by omega)
    have hnum := hnum.mono (R' := fun e w' => e = .returned (.int .i64 ((n16 l p : Nat) : Int)) ∧ Rd w' g (.slice a l.length cap) (p + 2) ∧ w.grownBy w' (some g)) (fun e w' h => h)
    by_cases h3 : p + 2 + n16 l p ≤ l.length
    · have h3' : ¬ l.length < p + 2 + n16 l p := by omega
      simp only [h3, h3', true_and, false_and, or_false] at htk
      have hcv : ∀ W, w.grownBy W (some g) → (convert 22 9 (cutV a cap (p + 2) (n16 l p))).run Try.prog W = .ok (.string ⟨(cutL l (p + 2) (n16 l p)).toArray⟩) W := fun W hW => cut_str (cut_row (hfar W hW) h3)
      have hcs := str_cut l (p + 2) (n16 l p) h3
      have hD : dtaS l t p = dataS l t (p + 2) (p + 2 + n16 l p) := by rw [dtaS, if_pos h2, if_pos h3]
      rw [hD]
      clear hD
      have hmp := fun W => mayPoint_any t W
      generalize hqv : cutV a cap (p + 2) (n16 l p) = qv at *
      by_cases h0 : n16 l p = 0
      · have HD : Hid (dataS l t (p + 2) (p + 2 + n16 l p) = .ok [] (p + 2 + n16 l p)) := by
          rw [Hid, dataS, if_pos (by omega)]
        have e2 := Nm.tl_empty (hcs.trans h0)
        generalize (⟨(cutL l (p + 2) (n16 l p)).toArray⟩ : ByteArray) = ds at *
        generalize n16 l p = n at *
        subst h0
        have hc0 : ((0 : Nat) : Int) = 0 := rfl
        simp only [hc0] at hnum htk
        clear hc0 hcs
        go_enter Try.func57, Try.ntmps57
        go_wp2_with (first | (go_at_call 55; refine hnum.mono ?_; rintro e w1 ⟨rfl, hr1, hg1⟩) | (go_at_call 77; refine (htk _ hr1).mono ?_; rintro e w3 ⟨rfl, hr3, hg3⟩; have hcv3 := hcv w3 (gr_step hg1 hg3)))
        go_ret
        rw [HD.out]
        exact .inl ⟨_, _, rfl, rfl, hr3, h3, gr_step hg1 hg3⟩
      · have e2 := Nm.tl_not_empty (show 0 < (ByteArray.mk (cutL l (p + 2) (n16 l p)).toArray).size by omega)
        by_cases hpt : pointed t
        · have hpd : decide (pointed t) = true := decide_eq_true hpt
          simp only [hpd] at hmp
          have HD : Hid (dataS l t (p + 2) (p + 2 + n16 l p) = dtP l (p + 2 + n16 l p) (piecesOf t) (p + 2) []) := by
            rw [Hid, dataS, if_neg (by omega), if_pos hpt]
          have hwn := fun W (hr : Rd W g (.slice a l.length cap) (p + 2)) (hW : w.grownBy W (some g)) => wholeNames_any g a l cap (p + 2) t (p + 2 + n16 l p) W hr (fun W2 hW2 => hfar W2 (gr_step hW hW2)) (by omega) h3 hnn hpt
          generalize (⟨(cutL l (p + 2) (n16 l p)).toArray⟩ : ByteArray) = ds at *
          generalize n16 l p = n at *
          rw [HD.out]
          clear hpd HD
          go_enter Try.func57, Try.ntmps57
          go_wp2_with (first | (go_at_call 55; refine hnum.mono ?_; rintro e w1 ⟨rfl, hr1, hg1⟩) | (go_at_call 77; refine (htk _ hr1).mono ?_; rintro e w3 ⟨rfl, hr3, hg3⟩; have hcv3 := hcv w3 (gr_step hg1 hg3); have hg13 := gr_step hg1 hg3; have c1 : w3.cell? ⟨g, 1, none⟩ = some (.int .i64 ((p + 2 + n : Nat) : Int)) := (by rw [cell_of_row _ _ _ _ _ _ hr3]; rfl); have f1 := frozen_of_row w3 g 1 _ _ hr3) | (go_at_call 78; refine (hmp _).mono ?_; rintro e w4 ⟨rfl, hw⟩; obtain rfl := hw.symm; clear hw))
          have hS : Rd (w3.setCell ⟨g, 1, none⟩ (.int .i64 ((p : Int) + 2))) g (.slice a l.length cap) (p + 2) ∧ w3.grownBy (w3.setCell ⟨g, 1, none⟩ (.int .i64 ((p : Int) + 2))) (some g) := rd_set (q := p + 2) hr3
          have hwn' : Calls Try.prog 79 #[.pointer (some ⟨g, 0, none⟩), .int .i64 t, .int .i64 ((p : Int) + 2 + (n : Int))] _ _ := hwn _ hS.1 (gr_step hg13 hS.2)
          refine hwn'.mono ?_
          rintro e w5 (⟨d, hd, rfl, hr5, hg5⟩ | ⟨c, hd, rfl, hg5⟩)
          · go_wp2
            go_ret
            exact .inl ⟨d, _, hd, rfl, hr5, h3, gr_step (gr_step hg13 hS.2) hg5⟩
          · refine bp_panic rfl ?_
            exact .inr ⟨c, hd, rfl, gr_step (gr_step hg13 hS.2) hg5⟩
        · have hpd : decide (pointed t) = false := decide_eq_false hpt
          simp only [hpd] at hmp
          have hfs : p + 2 + n16 l p - (p + 2) = n16 l p := by omega
          have HD : Hid (dataS l t (p + 2) (p + 2 + n16 l p) = if cutCode t ⟨(cutL l (p + 2) (n16 l p)).toArray⟩ = 0 then .ok (cutL l (p + 2) (n16 l p)) (p + 2 + n16 l p) else .bad 7) := by
            rw [Hid, dataS, if_neg (by omega), if_neg hpt, hfs]
          have hck := fun W => implCheckData_any t ⟨(cutL l (p + 2) (n16 l p)).toArray⟩ W (by omega)
          generalize cutCode t ⟨(cutL l (p + 2) (n16 l p)).toArray⟩ = cc at *
          have hds : ∀ ds : ByteArray, ds = ⟨(cutL l (p + 2) (n16 l p)).toArray⟩ → Value.string ds = .string ⟨(cutL l (p + 2) (n16 l p)).toArray⟩ := fun ds e => by rw [e]
          generalize hdse : (⟨(cutL l (p + 2) (n16 l p)).toArray⟩ : ByteArray) = ds at *
          generalize hcl : cutL l (p + 2) (n16 l p) = cl at *
          generalize n16 l p = n at *
          rw [HD.out]
          clear hpd HD hds hcs hfs
          by_cases hcc : cc = 0
          · subst hcc
            rw [if_pos rfl]
            go_enter Try.func57, Try.ntmps57
            go_wp2_with (first | (go_at_call 55; refine hnum.mono ?_; rintro e w1 ⟨rfl, hr1, hg1⟩) | (go_at_call 77; refine (htk _ hr1).mono ?_; rintro e w3 ⟨rfl, hr3, hg3⟩; have hcv3 := hcv w3 (gr_step hg1 hg3); have hg13 := gr_step hg1 hg3) | (go_at_call 78; refine (hmp _).mono ?_; rintro e w4 ⟨rfl, hw⟩; obtain rfl := hw.symm; clear hw) | (go_at_call 80; refine (hck _).mono ?_; rintro e w5 ⟨rfl, hb5⟩))
            go_ret
            exact .inl ⟨cl, _, rfl, by subst hdse; rfl, rd_below hr3 hb5, h3, gr_below hg13 hb5⟩
          · rw [if_neg hcc]
            have hne : (cc != 0) = true := by rw [bne_iff_ne]; exact hcc
            go_enter Try.func57, Try.ntmps57
            go_wp2_with (first | (go_at_call 55; refine hnum.mono ?_; rintro e w1 ⟨rfl, hr1, hg1⟩) | (go_at_call 77; refine (htk _ hr1).mono ?_; rintro e w3 ⟨rfl, hr3, hg3⟩; have hcv3 := hcv w3 (gr_step hg1 hg3); have hg13 := gr_step hg1 hg3) | (go_at_call 78; refine (hmp _).mono ?_; rintro e w4 ⟨rfl, hw⟩; obtain rfl := hw.symm; clear hw) | (go_at_call 80; refine (hck _).mono ?_; rintro e w5 ⟨rfl, hb5⟩) | (go_at_call 33; refine (fail_any 7 _).mono ?_; rintro e w9 ⟨rfl, hw⟩; obtain rfl := hw.symm; clear hw))
            refine bp_panic rfl ?_
            exact .inr ⟨_, rfl, rfl, gr_below hg13 hb5⟩
    · have h3' : l.length < p + 2 + n16 l p := by omega
      simp only [h3, h3', true_and, false_and, false_or] at htk
      have hD : dtaS l t p = .bad 8 := by rw [dtaS, if_pos h2, if_neg h3]
      rw [hD]
      generalize n16 l p = n at *
      clear hD
      go_enter Try.func57, Try.ntmps57
      go_wp2_with (first | (go_at_call 55; refine hnum.mono ?_; rintro e w1 ⟨rfl, hr1, hg1⟩) | (go_at_call 77; refine (htk _ hr1).mono ?_; rintro e w3 ⟨rfl, hg3⟩))
      refine bp_panic rfl ?_
      exact .inr ⟨_, rfl, rfl, gr_step hg1 hg3⟩
  · have h2' : l.length < p + 2 := by omega
    simp only [h2, h2', true_and, false_and, false_or] at hnum
    have hD : dtaS l t p = .bad 8 := by rw [dtaS, if_neg h2]
    rw [hD]
    clear hD
    go_enter Try.func57, Try.ntmps57
    go_wp2_with (go_at_call 55; refine hnum.mono ?_; rintro e w1 ⟨rfl, hg1⟩)
    refine bp_panic rfl ?_
    exact .inr ⟨_, rfl, rfl, hg1⟩
end Go.Proofs.Ytihhchebcojplaa
/- (*reader).questions and (*reader).records by their contracts. -/
namespace Go.Proofs.Ytihhchebcojplaa
open Go.RowKit
set_option linter.unusedVariables false

def bstr (s : List UInt8) : Value := .string ⟨s.toArray⟩

/-- A question's cells, a record's cells. -/
def quC (x : Qm) : List Value := [.string ⟨x.name.toArray⟩, .int .i64 (x.ty : Int), .int .i64 (x.cl : Int)]
def rrC (x : Rm) : List Value := [.string ⟨x.owner.toArray⟩, .int .i64 (x.ty : Int), .int .i64 (x.cl : Int), .int .i64 (x.ttl : Int), .string ⟨x.dat.toArray⟩]
def quCs (xs : List Qm) : List Value := xs.flatMap quC
def rrCs (xs : List Rm) : List Value := xs.flatMap rrC

theorem quCs_snoc (xs : List Qm) (x : Qm) : quCs (xs ++ [x]) = quCs xs ++ quC x := by simp [quCs]
theorem rrCs_snoc (xs : List Rm) (x : Rm) : rrCs (xs ++ [x]) = rrCs xs ++ rrC x := by simp [rrCs]

theorem cell_newL (w : World) (vs : List Value) (e : Nat) : ∀ (j : Nat) (u : Value), vs[j]? = some u → (w.alloc (.cells vs.toArray e)).cell? ((⟨w.heap.size, 0, none⟩ : Addr).add j) = some u := by
  intro j u hj
  rw [Nm.addr_add, Nat.zero_add, World.cell?_alloc_new]
  simpa using hj

theorem Try.infoQu : (Try.prog.info? 53).map (fun i => (i.zero, i.size, i.bytes)) = some (some (.agg #[.string ByteArray.empty, .int .i64 0, .int .i64 0]), 3, 32) := by kernel_rfl
theorem Try.infoRR : (Try.prog.info? 66).map (fun i => (i.zero, i.size, i.bytes)) = some (some (.agg #[.string ByteArray.empty, .int .i64 0, .int .i64 0, .int .i64 0, .string ByteArray.empty]), 5, 56) := by kernel_rfl

/-- A row of the call's own (of any width) is not a reader's block. -/
theorem rowS_rd {w : World} {B e m g p s : Nat} {v V : Value} {xs : List Value} (h : w.ownsRow B e s v m xs) (hs : Rd w g V p) (hne : e ≠ 50) : v.ownBlock = none ∨ v.ownBlock ≠ some g := by
  rcases h.2 with ⟨rfl, _⟩ | ⟨g', cap', cur, rfl, _, hh, _⟩
  · exact .inl rfl
  · right
    simp only [Value.ownBlock, ne_eq, Option.some.injEq]
    intro e2
    subst e2
    unfold Rd at hs
    rw [hh] at hs
    simp at hs
    exact hne hs.2

theorem rowS_rd' {w : World} {B e m g p s : Nat} {v V : Value} {xs : List Value} (h : w.ownsRow B e s v m xs) (hs : Rd w g V p) (hne : e ≠ 50) : v.ownBlock ≠ some g := by
  rcases rowS_rd h hs hne with h | h
  · rw [h]; simp
  · exact h

/-- How far entries have been read. -/
structure ESt (w wr : World) (g : Nat) (V : Value) (n e s : Nat) (vo : Value) (m : Nat) (cs : List Value) (pos : Nat) : Prop where
  own : wr.ownsRow w.heap.size e s vo m cs
  rd : Rd wr g V pos
  le : pos ≤ n
  grown : w.grownBy wr (some g)
  ne : e ≠ 50

section
variable {w wr w1 : World} {g n pos pos1 e s m m1 : Nat} {V vo vo1 : Value} {cs cs1 : List Value}

theorem ESt.read (h : ESt w wr g V n e s vo m cs pos) (hg : wr.grownBy w1 (some g)) (hr : Rd w1 g V pos1) (hle : pos1 ≤ n) : ESt w w1 g V n e s vo m cs pos1 :=
  ⟨h.own.kept hg (rowS_rd h.own h.rd h.ne), hr, hle, gr_step h.grown hg, h.ne⟩

theorem ESt.app (h : ESt w wr g V n e s vo m cs pos) (hg : wr.grownBy w1 vo.ownBlock) (ho : w1.ownsRow w.heap.size e s vo1 m1 cs1) : ESt w w1 g V n e s vo1 m1 cs1 pos :=
  ⟨ho, rd_grown h.rd hg (rowS_rd' h.own h.rd h.ne), h.le, gr_own h.grown hg (fun k hk => (h.own.lt k hk).1), h.ne⟩

theorem ESt.below (h : ESt w wr g V n e s vo m cs pos) (hb : Below wr.heap.size wr w1) : ESt w w1 g V n e s vo m cs pos :=
  ⟨own_below h.own hb, rd_below h.rd hb, h.le, gr_below h.grown hb, h.ne⟩

theorem ESt.alloc (h : ESt w wr g V n e s vo m cs pos) (o : Obj) : ESt w (wr.alloc o) g V n e s vo m cs pos := h.below ((Below.refl _ _).alloc (Nat.le_refl _) o)
end

theorem quS_bad {l : List UInt8} {p : Nat} {c : Int} (h : dnF l p p [] none = .bad c) : quS l p = .bad c := by rw [quS, h]
theorem quS_ok {l : List UInt8} {p nx : Nat} {s : List UInt8} (h : dnF l p p [] none = .ok s nx) (h4 : nx + 4 ≤ l.length) : quS l p = .ok ⟨s, n16 l nx, n16 l (nx + 2)⟩ (nx + 4) := by rw [quS, h]; simp only; rw [if_pos h4]
theorem quS_short {l : List UInt8} {p nx : Nat} {s : List UInt8} (h : dnF l p p [] none = .ok s nx) (h4 : l.length < nx + 4) : quS l p = .bad 8 := by rw [quS, h]; simp only; rw [if_neg (by omega)]

set_option maxRecDepth 100000 in
set_option maxHeartbeats 3200000 in
theorem questions_any (g : Nat) (a : Option Addr) (l : List UInt8) (cap p count : Nat) (w : World) (h : Rd w g (.slice a l.length cap) p) (hfar : ∀ w', w.grownBy w' (some g) → BySl w' (.slice a l.length cap) l) (hp : p ≤ l.length) (hnn : l.length ≤ 1048576) (hcnt : count ≤ 65535) :
    Calls Try.prog 35 #[.pointer (some ⟨g, 0, none⟩), .int .i64 count] w fun e w' =>
      (∃ xs q v, manyS (quS l) count p [] = .ok xs q ∧ e = .returned v ∧ ESt w w' g (.slice a l.length cap) l.length 53 3 v xs.length (quCs xs) q) ∨
      (∃ c, manyS (quS l) count p [] = .bad c ∧ e = .panicked (fault c) ∧ w.grownBy w' (some g)) := by
  obtain ⟨i0, hi, hz0, hz1, hz2⟩ := info_parts Try.infoQu
  generalize hR : manyS (quS l) count p [] = R
  go_enter Try.func35, Try.ntmps35
  go_wp2
  go_loopw [5, 7] (fun vo vk wr => ∃ (k pos : Nat) (xs : List Qm) (q : Value), q = vo ∧ vk = .int .i64 k ∧ k ≤ count ∧ xs.length = k ∧ ESt w wr g (.slice a l.length cap) l.length 53 3 vo k (quCs xs) pos ∧ manyS (quS l) (count - k) pos xs = R)
    (fun _ vk _ => count - (intOf vk).toNat)
  case atStart => exact ⟨0, p, [], _, rfl, rfl, Nat.zero_le _, rfl, ⟨⟨rfl, .inl ⟨rfl, rfl⟩⟩, h, hp, World.grownBy.refl _ _, by decide⟩, hR⟩
  case round =>
    obtain ⟨k, pos, xs, vo, rfl, rfl, hk, hxl, hst, hres⟩ := hrel
    clear hR h
    by_cases hlt : k < count
    · have hlt' : (k : Int) < (count : Int) := by omega
      have hck : count - k = (count - (k + 1)) + 1 := by omega
      rw [hck, manyS] at hres
      have hnm := name_any g a l cap pos wr hst.rd (hfar _ hst.grown) (fun W hW => hfar W (gr_step hst.grown hW)) hst.le hnn
      have hnum := fun (q : Nat) W (hs : ESt w W g (.slice a l.length cap) l.length 53 3 vo k (quCs xs) q) => number_any g a l cap q 2 W hs.rd (hfar _ hs.grown) (fun W2 hW2 => hfar W2 (gr_step hs.grown hW2)) hs.le hnn (by decide)
      have HRD : Hid (∀ W W2 q q2, ESt w W g (.slice a l.length cap) l.length 53 3 vo k (quCs xs) q → W.grownBy W2 (some g) → Rd W2 g (.slice a l.length cap) q2 → q2 ≤ l.length → ESt w W2 g (.slice a l.length cap) l.length 53 3 vo k (quCs xs) q2) := by exact fun W W2 q q2 hs hW hr hle => hs.read hW hr hle
      cases hd : dnF l pos pos [] none using Rs.elim with
      | bad c =>
        rw [quS_bad hd] at hres
        simp only at hres
        subst hres
        have hnm' := hnm.mono (R' := fun e w' => e = .panicked (fault c) ∧ wr.grownBy w' (some g)) (by
          rintro e w2 (⟨_, _, hx, _⟩ | ⟨c2, hx, he, hg2⟩)
          · rw [hd] at hx; cases hx
          · rw [hd] at hx; cases hx; exact ⟨he, hg2⟩)
        have HG : Hid (∀ W, wr.grownBy W (some g) → w.grownBy W (some g)) := by exact fun W hW => gr_step hst.grown hW
        clear hnm hst hfar hnum HRD
        go_wp2_with (go_at_call 56; refine hnm'.mono ?_; rintro e w6 ⟨rfl, hg6⟩)
        refine bp_panic rfl ?_
        exact .inr ⟨_, rfl, rfl, HG.out _ hg6⟩
      | ok s nx =>
        have hnm' := hnm.mono (R' := fun e w' => e = .returned (.string ⟨s.toArray⟩) ∧ Rd w' g (.slice a l.length cap) nx ∧ nx ≤ l.length ∧ wr.grownBy w' (some g)) (by
          rintro e w2 (⟨_, _, hx, he, hr, hn, hg2⟩ | ⟨c2, hx, he, hg2⟩)
          · rw [hd] at hx; cases hx; exact ⟨he, hr, hn, hg2⟩
          · rw [hd] at hx; cases hx)
        by_cases h4 : nx + 4 ≤ l.length
        · rw [quS_ok hd h4] at hres
          simp only at hres
          have hn1 := fun W hs => (hnum nx W hs).mono (R' := fun e w' => e = .returned (.int .i64 (n16 l nx)) ∧ Rd w' g (.slice a l.length cap) (nx + 2) ∧ W.grownBy w' (some g)) (by
            rintro e w' (⟨_, h1, h2, h3⟩ | ⟨h1, _⟩)
            · exact ⟨h1, h2, h3⟩
            · omega)
          have hn2 := fun W hs => (hnum (nx + 2) W hs).mono (R' := fun e w' => e = .returned (.int .i64 (n16 l (nx + 2))) ∧ Rd w' g (.slice a l.length cap) (nx + 4) ∧ W.grownBy w' (some g)) (by
            rintro e w' (⟨_, h1, h2, h3⟩ | ⟨h1, _⟩)
            · exact ⟨h1, h2, h3⟩
            · omega)
          have HRES := Nm.hide hres
          have HST := Nm.hide hst
          clear hnm hst hfar hnum hres
          generalize n16 l nx = ty at *
          generalize n16 l (nx + 2) = cl at *
          go_wp2_with (first | (go_at_call 56; refine hnm'.mono ?_; rintro e w6 ⟨rfl, hr6, hn6, hg6⟩; have hst6 := HRD.out _ _ _ _ HST.out hg6 hr6 hn6) | (go_at_call 55; refine (hn1 _ hst6).mono ?_; rintro e w7 ⟨rfl, hr7, hg7⟩; have hst7 := HRD.out _ _ _ _ hst6 hg7 hr7 (by omega); clear hn1) | (go_at_call 55; refine (hn2 _ hst7).mono ?_; rintro e w8 ⟨rfl, hr8, hg8⟩; have hst8 := HRD.out _ _ _ _ hst7 hg8 hr8 (by omega); clear hn2) | (at_builtin; refine wpList_append_own _ rfl (.tmp 9) (.tmp 17) 26 rfl w.heap.size 53 i0 (.agg #[.string ByteArray.empty, .int .i64 0, .int .i64 0]) 3 32 Try.underlying26 hi hz0 hz1 hz2 rfl (by decide) _ _ _ rfl (hst8.alloc _).own ⟨w8.heap.size, 0, none⟩ 1 1 (quC ⟨s, ty, cl⟩) rfl rfl (cell_newL _ _ _) (by intro u hu; simp [quC] at hu; rcases hu with rfl | rfl | rfl <;> rfl) (by unfold maxLen; omega) (by omega) (by have := hst8.grown.size; simp; omega) ?_; intro va wa hown9 hgrow9 hnl9; clear hnl9; rw [← quCs_snoc] at hown9; have HST9 := Nm.hide ((hst8.alloc _).app hgrow9 hown9); clear hgrow9 hown9 hst6 hst7 hst8))
          go_roundw
          case rel => exact ⟨k + 1, nx + 4, xs ++ [⟨s, ty, cl⟩], _, rfl, by go_num, by omega, by simp; omega, HST9.out, HRES.out⟩
          case measure => simp [intOf]; omega
        · rw [quS_short hd (by omega)] at hres
          simp only at hres
          subst hres
          have HST := Nm.hide hst
          clear hnm hst hfar
          go_wp2_with (go_at_call 56; refine hnm'.mono ?_; rintro e w6 ⟨rfl, hr6, hn6, hg6⟩; have hst6 := HRD.out _ _ _ _ HST.out hg6 hr6 hn6)
          refine (hnum nx _ hst6).mono ?_
          rintro e w7 (⟨hl7, rfl, hr7, hg7⟩ | ⟨_, rfl, hg7⟩)
          rotate_left 1
          · go_wp2
            refine bp_panic rfl ?_
            exact .inr ⟨_, rfl, rfl, gr_step hst6.grown hg7⟩
          have hst7 := HRD.out _ _ _ _ hst6 hg7 hr7 (by omega)
          go_wp2_with fail
          refine (hnum (nx + 2) _ hst7).mono ?_
          rintro e w8 (⟨hl8, _⟩ | ⟨_, rfl, hg8⟩)
          · omega
          go_wp2
          refine bp_panic rfl ?_
          exact .inr ⟨_, rfl, rfl, gr_step hst7.grown hg8⟩
    · have hge : (count : Int) ≤ (k : Int) := by omega
      have hck : count - k = 0 := by omega
      rw [hck, manyS] at hres
      subst hres
      have hkk := hxl
      go_wp2
      go_ret
      exact .inl ⟨_, _, _, rfl, rfl, by rw [hxl]; exact hst⟩
end Go.Proofs.Ytihhchebcojplaa
