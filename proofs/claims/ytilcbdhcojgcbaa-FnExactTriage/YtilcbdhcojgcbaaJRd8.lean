import Derived.Test.YtilcbdhcojgcbaaJRd7
import Derived.Test.YtilcbdhcojgcbaaJHd1
import Derived.RegionTactic
import Derived.BigRegion
import Derived.Deep.RegionHeld3
import Derived.Test.YtilcbdhcojgcbaaJCutM
/- (*reader).data by its contract. -/
namespace Go.Proofs.Ytilcbdhcojgcbaa
open Go.RowKit
set_option linter.unusedVariables false

/-- A record's data with the number of its bytes ahead of it. -/
def dtaS (l : List UInt8) (t p : Nat) : Rs (List UInt8) :=
  if p + 2 ≤ l.length then if p + 2 + n16 l p ≤ l.length then dataS l t (p + 2) (p + 2 + n16 l p) else .bad 8 else .bad 8

theorem str_cut (l : List UInt8) (p n : Nat) (h : p + n ≤ l.length) : (ByteArray.mk (cutL l p n).toArray).size = n := by
  rw [mk_sz, cutL_length h]

set_option maxRecDepth 100000 in
set_option maxHeartbeats 600000 in
theorem data_any (g : Nat) (a : Option Addr) (l : List UInt8) (cap p t : Nat) (w : World) (h : Rd w g (.slice a l.length cap) p) (hfar : ∀ w', w.grownBy w' (some g) → BySl w' (.slice a l.length cap) l) (hp : p ≤ l.length) (hnn : l.length ≤ 1048576) :
    Calls Try.prog 68 #[.pointer (some ⟨g, 0, none⟩), .int .i64 t] w fun e w' =>
      (∃ d q, dtaS l t p = .ok d q ∧ e = .returned (.string ⟨d.toArray⟩) ∧ Rd w' g (.slice a l.length cap) q ∧ q ≤ l.length ∧ w.grownBy w' (some g)) ∨
      (∃ c, dtaS l t p = .bad c ∧ e = .panicked (fault c) ∧ w.grownBy w' (some g)) := by
  have hcap : l.length ≤ cap := by
    obtain ⟨_, a', cap', e, h1, _⟩ := hfar w (World.grownBy.refl _ _)
    simp only [Value.slice.injEq] at e
    obtain ⟨rfl, _, rfl⟩ := e
    exact h1
  have hnum := number_any g a l cap p 2 w h (hfar w (World.grownBy.refl _ _)) (fun W hW => hfar W hW) hp hnn (by decide)
  by_cases h2 : p + 2 ≤ l.length
  · have h2' : ¬ l.length < p + 2 := by omega
    simp only [h2, h2', true_and, false_and, or_false] at hnum
    have hn := n16_lt l p
    have htk := fun W (hr : Rd W g (.slice a l.length cap) (p + 2)) => take_any g a l.length cap (p + 2) (n16 l p) W hr h2 hcap hnn (by omega)
    have hnum := hnum.mono (R' := fun e w' => e = .returned (.int .i64 ((n16 l p : Nat) : Int)) ∧ Rd w' g (.slice a l.length cap) (p + 2) ∧ w.grownBy w' (some g)) (fun e w' h => h)
    by_cases h3 : p + 2 + n16 l p ≤ l.length
    · have h3' : ¬ l.length < p + 2 + n16 l p := by omega
      simp only [h3, h3', true_and, false_and, or_false] at htk
      have hcv : ∀ W, w.grownBy W (some g) → (convert 22 9 (cutV a cap (p + 2) (n16 l p))).run Try.prog W = .ok (.string ⟨(cutL l (p + 2) (n16 l p)).toArray⟩) W := fun W hW => cut_str (cut_row (hfar W hW) h3)
      have hcs := str_cut l (p + 2) (n16 l p) h3
      have hD : dtaS l t p = dataS l t (p + 2) (p + 2 + n16 l p) := by rw [dtaS, if_pos h2, if_pos h3]
      rw [hD]
      clear hD
      have hmp := fun W => mayPoint_any t W
      generalize hqv : cutV a cap (p + 2) (n16 l p) = qv at *
      by_cases h0 : n16 l p = 0
      · have HD : Hid (dataS l t (p + 2) (p + 2 + n16 l p) = .ok [] (p + 2 + n16 l p)) := by
          rw [Hid, dataS, if_pos (by omega)]
        have e2 := Nm.tl_empty (hcs.trans h0)
        generalize (⟨(cutL l (p + 2) (n16 l p)).toArray⟩ : ByteArray) = ds at *
        generalize n16 l p = n at *
        subst h0
        have hc0 : ((0 : Nat) : Int) = 0 := rfl
        simp only [hc0] at hnum htk
        clear hc0 hcs
        go_enter Try.func68, Try.ntmps68
        go_wp2_with (first | (go_at_call 53; refine hnum.mono ?_; rintro e w1 ⟨rfl, hr1, hg1⟩) | (go_at_call 66; refine (htk _ hr1).mono ?_; rintro e w3 ⟨rfl, hr3, hg3⟩; have hcv3 := hcv w3 (gr_step hg1 hg3)))
        go_ret
        rw [HD.out]
        exact .inl ⟨_, _, rfl, rfl, hr3, h3, gr_step hg1 hg3⟩
      · have e2 := Nm.tl_not_empty (show 0 < (ByteArray.mk (cutL l (p + 2) (n16 l p)).toArray).size by omega)
        by_cases hpt : pointed t
        · have hpd : decide (pointed t) = true := decide_eq_true hpt
          simp only [hpd] at hmp
          have HD : Hid (dataS l t (p + 2) (p + 2 + n16 l p) = dtP l (p + 2 + n16 l p) (piecesOf t) (p + 2) []) := by
            rw [Hid, dataS, if_neg (by omega), if_pos hpt]
          have hwn := fun W (hr : Rd W g (.slice a l.length cap) (p + 2)) (hW : w.grownBy W (some g)) => wholeNames_any g a l cap (p + 2) t (p + 2 + n16 l p) W hr (fun W2 hW2 => hfar W2 (gr_step hW hW2)) (by omega) h3 hnn hpt
          generalize (⟨(cutL l (p + 2) (n16 l p)).toArray⟩ : ByteArray) = ds at *
          generalize n16 l p = n at *
          rw [HD.out]
          clear hpd HD
          go_enter Try.func68, Try.ntmps68
          go_wp2_with (first | (go_at_call 53; refine hnum.mono ?_; rintro e w1 ⟨rfl, hr1, hg1⟩) | (go_at_call 66; refine (htk _ hr1).mono ?_; rintro e w3 ⟨rfl, hr3, hg3⟩; have hcv3 := hcv w3 (gr_step hg1 hg3); have hg13 := gr_step hg1 hg3; have c1 : w3.cell? ⟨g, 1, none⟩ = some (.int .i64 ((p + 2 + n : Nat) : Int)) := (by rw [cell_of_row _ _ _ _ _ _ hr3]; rfl); have f1 := frozen_of_row w3 g 1 _ _ hr3) | (go_at_call 73; refine (hmp _).mono ?_; rintro e w4 ⟨rfl, hw⟩; obtain rfl := hw.symm; clear hw))
          have hS : Rd (w3.setCell ⟨g, 1, none⟩ (.int .i64 ((p : Int) + 2))) g (.slice a l.length cap) (p + 2) ∧ w3.grownBy (w3.setCell ⟨g, 1, none⟩ (.int .i64 ((p : Int) + 2))) (some g) := rd_set (q := p + 2) hr3
          have hwn' : Calls Try.prog 74 #[.pointer (some ⟨g, 0, none⟩), .int .i64 t, .int .i64 ((p : Int) + 2 + (n : Int))] _ _ := hwn _ hS.1 (gr_step hg13 hS.2)
          refine hwn'.mono ?_
          rintro e w5 (⟨d, hd, rfl, hr5, hg5⟩ | ⟨c, hd, rfl, hg5⟩)
          · go_wp2
            go_ret
            exact .inl ⟨d, _, hd, rfl, hr5, h3, gr_step (gr_step hg13 hS.2) hg5⟩
          · refine bp_panic rfl ?_
            exact .inr ⟨c, hd, rfl, gr_step (gr_step hg13 hS.2) hg5⟩
        · have hpd : decide (pointed t) = false := decide_eq_false hpt
          simp only [hpd] at hmp
          have hfs : p + 2 + n16 l p - (p + 2) = n16 l p := by omega
          have HD : Hid (dataS l t (p + 2) (p + 2 + n16 l p) = if cutCode t ⟨(cutL l (p + 2) (n16 l p)).toArray⟩ = 0 then .ok (cutL l (p + 2) (n16 l p)) (p + 2 + n16 l p) else .bad 7) := by
            rw [Hid, dataS, if_neg (by omega), if_neg hpt, hfs]
          have hck := fun W => implCheckData_any t ⟨(cutL l (p + 2) (n16 l p)).toArray⟩ W (by omega)
          generalize cutCode t ⟨(cutL l (p + 2) (n16 l p)).toArray⟩ = cc at *
          have hds : ∀ ds : ByteArray, ds = ⟨(cutL l (p + 2) (n16 l p)).toArray⟩ → Value.string ds = .string ⟨(cutL l (p + 2) (n16 l p)).toArray⟩ := fun ds e => by rw [e]
          generalize hdse : (⟨(cutL l (p + 2) (n16 l p)).toArray⟩ : ByteArray) = ds at *
          generalize hcl : cutL l (p + 2) (n16 l p) = cl at *
          generalize n16 l p = n at *
          rw [HD.out]
          clear hpd HD hds hcs hfs
          by_cases hcc : cc = 0
          · subst hcc
            rw [if_pos rfl]
            go_enter Try.func68, Try.ntmps68
            go_wp2_with (first | (go_at_call 53; refine hnum.mono ?_; rintro e w1 ⟨rfl, hr1, hg1⟩) | (go_at_call 66; refine (htk _ hr1).mono ?_; rintro e w3 ⟨rfl, hr3, hg3⟩; have hcv3 := hcv w3 (gr_step hg1 hg3); have hg13 := gr_step hg1 hg3) | (go_at_call 73; refine (hmp _).mono ?_; rintro e w4 ⟨rfl, hw⟩; obtain rfl := hw.symm; clear hw) | (go_at_call 75; refine (hck _).mono ?_; rintro e w5 ⟨rfl, hb5⟩))
            go_ret
            exact .inl ⟨cl, _, rfl, by subst hdse; rfl, rd_below hr3 hb5, h3, gr_below hg13 hb5⟩
          · rw [if_neg hcc]
            have hne : (cc != 0) = true := by rw [bne_iff_ne]; exact hcc
            go_enter Try.func68, Try.ntmps68
            go_wp2_with (first | (go_at_call 53; refine hnum.mono ?_; rintro e w1 ⟨rfl, hr1, hg1⟩) | (go_at_call 66; refine (htk _ hr1).mono ?_; rintro e w3 ⟨rfl, hr3, hg3⟩; have hcv3 := hcv w3 (gr_step hg1 hg3); have hg13 := gr_step hg1 hg3) | (go_at_call 73; refine (hmp _).mono ?_; rintro e w4 ⟨rfl, hw⟩; obtain rfl := hw.symm; clear hw) | (go_at_call 75; refine (hck _).mono ?_; rintro e w5 ⟨rfl, hb5⟩) | (go_at_call 54; refine (fail_any 7 _).mono ?_; rintro e w9 ⟨rfl, hw⟩; obtain rfl := hw.symm; clear hw))
            refine bp_panic rfl ?_
            exact .inr ⟨_, rfl, rfl, gr_below hg13 hb5⟩
    · have h3' : l.length < p + 2 + n16 l p := by omega
      simp only [h3, h3', true_and, false_and, false_or] at htk
      have hD : dtaS l t p = .bad 8 := by rw [dtaS, if_pos h2, if_neg h3]
      rw [hD]
      generalize n16 l p = n at *
      clear hD
      go_enter Try.func68, Try.ntmps68
      go_wp2_with (first | (go_at_call 53; refine hnum.mono ?_; rintro e w1 ⟨rfl, hr1, hg1⟩) | (go_at_call 66; refine (htk _ hr1).mono ?_; rintro e w3 ⟨rfl, hg3⟩))
      refine bp_panic rfl ?_
      exact .inr ⟨_, rfl, rfl, gr_step hg1 hg3⟩
  · have h2' : l.length < p + 2 := by omega
    simp only [h2, h2', true_and, false_and, false_or] at hnum
    have hD : dtaS l t p = .bad 8 := by rw [dtaS, if_neg h2]
    rw [hD]
    clear hD
    go_enter Try.func68, Try.ntmps68
    go_wp2_with (go_at_call 53; refine hnum.mono ?_; rintro e w1 ⟨rfl, hg1⟩)
    refine bp_panic rfl ?_
    exact .inr ⟨_, rfl, rfl, hg1⟩
end Go.Proofs.Ytilcbdhcojgcbaa
/- (*reader).questions and (*reader).records by their contracts. -/
namespace Go.Proofs.Ytilcbdhcojgcbaa
open Go.RowKit
set_option linter.unusedVariables false

def bstr (s : List UInt8) : Value := .string ⟨s.toArray⟩

/-- A question's cells, a record's cells. -/
def quC (x : Qm) : List Value := [.string ⟨x.name.toArray⟩, .int .i64 (x.ty : Int), .int .i64 (x.cl : Int)]
def rrC (x : Rm) : List Value := [.string ⟨x.owner.toArray⟩, .int .i64 (x.ty : Int), .int .i64 (x.cl : Int), .int .i64 (x.ttl : Int), .string ⟨x.dat.toArray⟩]
def quCs (xs : List Qm) : List Value := xs.flatMap quC
def rrCs (xs : List Rm) : List Value := xs.flatMap rrC

theorem quCs_snoc (xs : List Qm) (x : Qm) : quCs (xs ++ [x]) = quCs xs ++ quC x := by simp [quCs]
theorem rrCs_snoc (xs : List Rm) (x : Rm) : rrCs (xs ++ [x]) = rrCs xs ++ rrC x := by simp [rrCs]

theorem cell_newL (w : World) (vs : List Value) (e : Nat) : ∀ (j : Nat) (u : Value), vs[j]? = some u → (w.alloc (.cells vs.toArray e)).cell? ((⟨w.heap.size, 0, none⟩ : Addr).add j) = some u := by
  intro j u hj
  rw [Nm.addr_add, Nat.zero_add, World.cell?_alloc_new]
  simpa using hj

theorem Try.infoQu : (Try.prog.info? 79).map (fun i => (i.zero, i.size, i.bytes)) = some (some (.agg #[.string ByteArray.empty, .int .i64 0, .int .i64 0]), 3, 32) := by kernel_rfl
theorem Try.infoRR : (Try.prog.info? 56).map (fun i => (i.zero, i.size, i.bytes)) = some (some (.agg #[.string ByteArray.empty, .int .i64 0, .int .i64 0, .int .i64 0, .string ByteArray.empty]), 5, 56) := by kernel_rfl

/-- A row of the call's own (of any width) is not a reader's block. -/
theorem rowS_rd {w : World} {B e m g p s : Nat} {v V : Value} {xs : List Value} (h : w.ownsRow B e s v m xs) (hs : Rd w g V p) (hne : e ≠ 92) : v.ownBlock = none ∨ v.ownBlock ≠ some g := by
  rcases h.2 with ⟨rfl, _⟩ | ⟨g', cap', cur, rfl, _, hh, _⟩
  · exact .inl rfl
  · right
    simp only [Value.ownBlock, ne_eq, Option.some.injEq]
    intro e2
    subst e2
    unfold Rd at hs
    rw [hh] at hs
    simp at hs
    exact hne hs.2

theorem rowS_rd' {w : World} {B e m g p s : Nat} {v V : Value} {xs : List Value} (h : w.ownsRow B e s v m xs) (hs : Rd w g V p) (hne : e ≠ 92) : v.ownBlock ≠ some g := by
  rcases rowS_rd h hs hne with h | h
  · rw [h]; simp
  · exact h

/-- How far entries have been read. -/
structure ESt (w wr : World) (g : Nat) (V : Value) (n e s : Nat) (vo : Value) (m : Nat) (cs : List Value) (pos : Nat) : Prop where
  own : wr.ownsRow w.heap.size e s vo m cs
  rd : Rd wr g V pos
  le : pos ≤ n
  grown : w.grownBy wr (some g)
  ne : e ≠ 92

section
variable {w wr w1 : World} {g n pos pos1 e s m m1 : Nat} {V vo vo1 : Value} {cs cs1 : List Value}

theorem ESt.read (h : ESt w wr g V n e s vo m cs pos) (hg : wr.grownBy w1 (some g)) (hr : Rd w1 g V pos1) (hle : pos1 ≤ n) : ESt w w1 g V n e s vo m cs pos1 :=
  ⟨h.own.kept hg (rowS_rd h.own h.rd h.ne), hr, hle, gr_step h.grown hg, h.ne⟩

theorem ESt.app (h : ESt w wr g V n e s vo m cs pos) (hg : wr.grownBy w1 vo.ownBlock) (ho : w1.ownsRow w.heap.size e s vo1 m1 cs1) : ESt w w1 g V n e s vo1 m1 cs1 pos :=
  ⟨ho, rd_grown h.rd hg (rowS_rd' h.own h.rd h.ne), h.le, gr_own h.grown hg (fun k hk => (h.own.lt k hk).1), h.ne⟩

theorem ESt.below (h : ESt w wr g V n e s vo m cs pos) (hb : Below wr.heap.size wr w1) : ESt w w1 g V n e s vo m cs pos :=
  ⟨own_below h.own hb, rd_below h.rd hb, h.le, gr_below h.grown hb, h.ne⟩

theorem ESt.alloc (h : ESt w wr g V n e s vo m cs pos) (o : Obj) : ESt w (wr.alloc o) g V n e s vo m cs pos := h.below ((Below.refl _ _).alloc (Nat.le_refl _) o)
end

theorem quS_bad {l : List UInt8} {p : Nat} {c : Int} (h : dnF l p p [] none = .bad c) : quS l p = .bad c := by rw [quS, h]
theorem quS_ok {l : List UInt8} {p nx : Nat} {s : List UInt8} (h : dnF l p p [] none = .ok s nx) (h4 : nx + 4 ≤ l.length) : quS l p = .ok ⟨s, n16 l nx, n16 l (nx + 2)⟩ (nx + 4) := by rw [quS, h]; simp only; rw [if_pos h4]
theorem quS_short {l : List UInt8} {p nx : Nat} {s : List UInt8} (h : dnF l p p [] none = .ok s nx) (h4 : l.length < nx + 4) : quS l p = .bad 8 := by rw [quS, h]; simp only; rw [if_neg (by omega)]

set_option maxRecDepth 100000 in
set_option maxHeartbeats 3200000 in
theorem questions_any (g : Nat) (a : Option Addr) (l : List UInt8) (cap p count : Nat) (w : World) (h : Rd w g (.slice a l.length cap) p) (hfar : ∀ w', w.grownBy w' (some g) → BySl w' (.slice a l.length cap) l) (hp : p ≤ l.length) (hnn : l.length ≤ 1048576) (hcnt : count ≤ 65535) :
    Calls Try.prog 55 #[.pointer (some ⟨g, 0, none⟩), .int .i64 count] w fun e w' =>
      (∃ xs q v, manyS (quS l) count p [] = .ok xs q ∧ e = .returned v ∧ ESt w w' g (.slice a l.length cap) l.length 79 3 v xs.length (quCs xs) q) ∨
      (∃ c, manyS (quS l) count p [] = .bad c ∧ e = .panicked (fault c) ∧ w.grownBy w' (some g)) := by
  obtain ⟨i0, hi, hz0, hz1, hz2⟩ := info_parts Try.infoQu
  generalize hR : manyS (quS l) count p [] = R
  go_enter Try.func55, Try.ntmps55
  go_wp2
  go_loopw [5, 7] (fun vo vk wr => ∃ (k pos : Nat) (xs : List Qm) (q : Value), q = vo ∧ vk = .int .i64 k ∧ k ≤ count ∧ xs.length = k ∧ ESt w wr g (.slice a l.length cap) l.length 79 3 vo k (quCs xs) pos ∧ manyS (quS l) (count - k) pos xs = R)
    (fun _ vk _ => count - (intOf vk).toNat)
  case atStart => exact ⟨0, p, [], _, rfl, rfl, Nat.zero_le _, rfl, ⟨⟨rfl, .inl ⟨rfl, rfl⟩⟩, h, hp, World.grownBy.refl _ _, by decide⟩, hR⟩
  case round =>
    obtain ⟨k, pos, xs, vo, rfl, rfl, hk, hxl, hst, hres⟩ := hrel
    clear hR h
    by_cases hlt : k < count
    · have hlt' : (k : Int) < (count : Int) := by omega
      have hck : count - k = (count - (k + 1)) + 1 := by omega
      rw [hck, manyS] at hres
      have hnm := name_any g a l cap pos wr hst.rd (hfar _ hst.grown) (fun W hW => hfar W (gr_step hst.grown hW)) hst.le hnn
      have hnum := fun (q : Nat) W (hs : ESt w W g (.slice a l.length cap) l.length 79 3 vo k (quCs xs) q) => number_any g a l cap q 2 W hs.rd (hfar _ hs.grown) (fun W2 hW2 => hfar W2 (gr_step hs.grown hW2)) hs.le hnn (by decide)
      have HRD : Hid (∀ W W2 q q2, ESt w W g (.slice a l.length cap) l.length 79 3 vo k (quCs xs) q → W.grownBy W2 (some g) → Rd W2 g (.slice a l.length cap) q2 → q2 ≤ l.length → ESt w W2 g (.slice a l.length cap) l.length 79 3 vo k (quCs xs) q2) := by exact fun W W2 q q2 hs hW hr hle => hs.read hW hr hle
      cases hd : dnF l pos pos [] none using Rs.elim with
      | bad c =>
        rw [quS_bad hd] at hres
        simp only at hres
        subst hres
        have hnm' := hnm.mono (R' := fun e w' => e = .panicked (fault c) ∧ wr.grownBy w' (some g)) (by
          rintro e w2 (⟨_, _, hx, _⟩ | ⟨c2, hx, he, hg2⟩)
          · rw [hd] at hx; cases hx
          · rw [hd] at hx; cases hx; exact ⟨he, hg2⟩)
        have HG : Hid (∀ W, wr.grownBy W (some g) → w.grownBy W (some g)) := by exact fun W hW => gr_step hst.grown hW
        clear hnm hst hfar hnum HRD
        go_wp2_with (go_at_call 67; refine hnm'.mono ?_; rintro e w6 ⟨rfl, hg6⟩)
        refine bp_panic rfl ?_
        exact .inr ⟨_, rfl, rfl, HG.out _ hg6⟩
      | ok s nx =>
        have hnm' := hnm.mono (R' := fun e w' => e = .returned (.string ⟨s.toArray⟩) ∧ Rd w' g (.slice a l.length cap) nx ∧ nx ≤ l.length ∧ wr.grownBy w' (some g)) (by
          rintro e w2 (⟨_, _, hx, he, hr, hn, hg2⟩ | ⟨c2, hx, he, hg2⟩)
          · rw [hd] at hx; cases hx; exact ⟨he, hr, hn, hg2⟩
          · rw [hd] at hx; cases hx)
        by_cases h4 : nx + 4 ≤ l.length
        · rw [quS_ok hd h4] at hres
          simp only at hres
          have hn1 := fun W hs => (hnum nx W hs).mono (R' := fun e w' => e = .returned (.int .i64 (n16 l nx)) ∧ Rd w' g (.slice a l.length cap) (nx + 2) ∧ W.grownBy w' (some g)) (by
            rintro e w' (⟨_, h1, h2, h3⟩ | ⟨h1, _⟩)
            · exact ⟨h1, h2, h3⟩
            · omega)
          have hn2 := fun W hs => (hnum (nx + 2) W hs).mono (R' := fun e w' => e = .returned (.int .i64 (n16 l (nx + 2))) ∧ Rd w' g (.slice a l.length cap) (nx + 4) ∧ W.grownBy w' (some g)) (by
            rintro e w' (⟨_, h1, h2, h3⟩ | ⟨h1, _⟩)
            · exact ⟨h1, h2, h3⟩
            · omega)
          have HRES := Nm.hide hres
          have HST := Nm.hide hst
          clear hnm hst hfar hnum hres
          generalize n16 l nx = ty at *
          generalize n16 l (nx + 2) = cl at *
          go_wp2_with (first | (go_at_call 67; refine hnm'.mono ?_; rintro e w6 ⟨rfl, hr6, hn6, hg6⟩; have hst6 := HRD.out _ _ _ _ HST.out hg6 hr6 hn6) | (go_at_call 53; refine (hn1 _ hst6).mono ?_; rintro e w7 ⟨rfl, hr7, hg7⟩; have hst7 := HRD.out _ _ _ _ hst6 hg7 hr7 (by omega); clear hn1) | (go_at_call 53; refine (hn2 _ hst7).mono ?_; rintro e w8 ⟨rfl, hr8, hg8⟩; have hst8 := HRD.out _ _ _ _ hst7 hg8 hr8 (by omega); clear hn2) | (at_builtin; refine wpList_append_own _ rfl (.tmp 9) (.tmp 17) 32 rfl w.heap.size 79 i0 (.agg #[.string ByteArray.empty, .int .i64 0, .int .i64 0]) 3 32 Try.underlying32 hi hz0 hz1 hz2 rfl (by decide) _ _ _ rfl (hst8.alloc _).own ⟨w8.heap.size, 0, none⟩ 1 1 (quC ⟨s, ty, cl⟩) rfl rfl (cell_newL _ _ _) (by intro u hu; simp [quC] at hu; rcases hu with rfl | rfl | rfl <;> rfl) (by unfold maxLen; omega) (by omega) (by have := hst8.grown.size; simp; omega) ?_; intro va wa hown9 hgrow9 hnl9; clear hnl9; rw [← quCs_snoc] at hown9; have HST9 := Nm.hide ((hst8.alloc _).app hgrow9 hown9); clear hgrow9 hown9 hst6 hst7 hst8))
          go_roundw
          case rel => exact ⟨k + 1, nx + 4, xs ++ [⟨s, ty, cl⟩], _, rfl, by go_num, by omega, by simp; omega, HST9.out, HRES.out⟩
          case measure => simp [intOf]; omega
        · rw [quS_short hd (by omega)] at hres
          simp only at hres
          subst hres
          have HST := Nm.hide hst
          clear hnm hst hfar
          go_wp2_with (go_at_call 67; refine hnm'.mono ?_; rintro e w6 ⟨rfl, hr6, hn6, hg6⟩; have hst6 := HRD.out _ _ _ _ HST.out hg6 hr6 hn6)
          refine (hnum nx _ hst6).mono ?_
          rintro e w7 (⟨hl7, rfl, hr7, hg7⟩ | ⟨_, rfl, hg7⟩)
          rotate_left 1
          · go_wp2
            refine bp_panic rfl ?_
            exact .inr ⟨_, rfl, rfl, gr_step hst6.grown hg7⟩
          have hst7 := HRD.out _ _ _ _ hst6 hg7 hr7 (by omega)
          go_wp2_with fail
          refine (hnum (nx + 2) _ hst7).mono ?_
          rintro e w8 (⟨hl8, _⟩ | ⟨_, rfl, hg8⟩)
          · omega
          go_wp2
          refine bp_panic rfl ?_
          exact .inr ⟨_, rfl, rfl, gr_step hst7.grown hg8⟩
    · have hge : (count : Int) ≤ (k : Int) := by omega
      have hck : count - k = 0 := by omega
      rw [hck, manyS] at hres
      subst hres
      have hkk := hxl
      go_wp2
      go_ret
      exact .inl ⟨_, _, _, rfl, rfl, by rw [hxl]; exact hst⟩
end Go.Proofs.Ytilcbdhcojgcbaa
/- Where the cells of a list of questions or records stand. -/
namespace Go.Proofs.Ytilcbdhcojgcbaa
open Go.RowKit
set_option linter.unusedVariables false

theorem str_ne (s : ByteArray) : (s.toList != s.toList) = false ∧ (s.toList == s.toList) = true := by simp

theorem quCs_at : ∀ (xs : List Qm) (k j : Nat) (x : Qm), xs[k]? = some x → j < 3 → (quCs xs)[k * 3 + j]? = (quC x)[j]? := by
  intro xs
  induction xs with
  | nil => intro k j x h; simp at h
  | cons y xs ih =>
    intro k j x h hj
    have e : quCs (y :: xs) = quC y ++ quCs xs := by simp [quCs]
    have hl : (quC y).length = 3 := rfl
    cases k with
    | zero =>
      simp at h; subst h
      rw [e, Nat.zero_mul, Nat.zero_add, List.getElem?_append_left (by omega)]
    | succ k =>
      simp at h
      rw [e, List.getElem?_append_right (by omega), hl, show (k + 1) * 3 + j - 3 = k * 3 + j by omega]
      exact ih k j x h hj

theorem rrCs_at : ∀ (xs : List Rm) (k j : Nat) (x : Rm), xs[k]? = some x → j < 5 → (rrCs xs)[k * 5 + j]? = (rrC x)[j]? := by
  intro xs
  induction xs with
  | nil => intro k j x h; simp at h
  | cons y xs ih =>
    intro k j x h hj
    have e : rrCs (y :: xs) = rrC y ++ rrCs xs := by simp [rrCs]
    have hl : (rrC y).length = 5 := rfl
    cases k with
    | zero =>
      simp at h; subst h
      rw [e, Nat.zero_mul, Nat.zero_add, List.getElem?_append_left (by omega)]
    | succ k =>
      simp at h
      rw [e, List.getElem?_append_right (by omega), hl, show (k + 1) * 5 + j - 5 = k * 5 + j by omega]
      exact ih k j x h hj
end Go.Proofs.Ytilcbdhcojgcbaa
/- A message's fields and lists. -/
namespace Go.Proofs.Ytilcbdhcojgcbaa
open Go.RowKit
set_option linter.unusedVariables false

/-- A message of nothing; a message's fields. -/
def ms0 : Array Value := #[.int .i64 0, .bool false, .int .i64 0, .bool false, .bool false, .bool false, .bool false, .bool false, .bool false, .bool false, .int .i64 0, .slice none 0 0, .slice none 0 0, .slice none 0 0, .slice none 0 0]
def msA (d f : Nat) (q a u x : Value) : Array Value := #[.int .i64 d, .bool (f.testBit 15), .int .i64 ((f / 2048 % 16 : Nat) : Int), .bool (f.testBit 10), .bool (f.testBit 9), .bool (f.testBit 8), .bool (f.testBit 7), .bool (f.testBit 6), .bool (f.testBit 5), .bool (f.testBit 4), .int .i64 ((f % 16 : Nat) : Int), q, a, u, x]

/-- Two rows lie in blocks of their own. -/
def Apart (u v : Value) : Prop := ∀ k, u.ownBlock = some k → v.ownBlock ≠ some k

/-- A message's lists lie where its slices lead, in rows of the call's own. -/
structure Lists (w : World) (B : Nat) (m : Mm) (q a u x : Value) : Prop where
  rq : w.ownsRow B 79 3 q m.qs.length (quCs m.qs)
  ra : w.ownsRow B 56 5 a m.an.length (rrCs m.an)
  ru : w.ownsRow B 56 5 u m.au.length (rrCs m.au)
  rx : w.ownsRow B 56 5 x m.ex.length (rrCs m.ex)
  au : Apart a u
  ax : Apart a x
  ux : Apart u x

theorem apart_of {w : World} {B e s m : Nat} {v u : Value} {xs : List Value} (h : w.ownsRow B e s v m xs) (hu : ∀ k, u.ownBlock = some k → w.heap.size ≤ k) : Apart v u := by
  intro k hk hk2
  have h1 := (h.lt k hk).2
  have h2 := hu k hk2
  omega

theorem row_val {w : World} {B e s m : Nat} {v : Value} {xs : List Value} (h : w.ownsRow B e s v m xs) : ∃ a cap, v = .slice a m cap := by
  rcases h.2 with ⟨rfl, rfl⟩ | ⟨g', cap', cur, rfl, _⟩
  · exact ⟨_, _, rfl⟩
  · exact ⟨_, _, rfl⟩

theorem lists_below {B : Nat} {m : Mm} {q x y z : Value} {W W1 : World} (h : Lists W B m q x y z) (hb : Below W.heap.size W W1) : Lists W1 B m q x y z :=
  ⟨own_below h.rq hb, own_below h.ra hb, own_below h.ru hb, own_below h.rx hb, h.au, h.ax, h.ux⟩

end Go.Proofs.Ytilcbdhcojgcbaa
/- laws.lwRecords and laws.lwMessage by their contracts: of the same records they say so. -/
namespace Go.Proofs.Ytilcbdhcojgcbaa
open Go.RowKit
set_option linter.unusedVariables false

end Go.Proofs.Ytilcbdhcojgcbaa
/- laws.lwMessage by its contract. -/
namespace Go.Proofs.Ytilcbdhcojgcbaa
open Go.RowKit
set_option linter.unusedVariables false

/-- A message's lists, to be read. -/
structure LRd (w : World) (m : Mm) (q a u x : Value) : Prop where
  rq : CRow w q m.qs.length 3 (quCs m.qs)
  ra : CRow w a m.an.length 5 (rrCs m.an)
  ru : CRow w u m.au.length 5 (rrCs m.au)
  rx : CRow w x m.ex.length 5 (rrCs m.ex)
theorem LRd.below {w W : World} {m : Mm} {q a u x : Value} (h : LRd w m q a u x) (hb : Below w.heap.size w W) : LRd W m q a u x := ⟨h.rq.below hb, h.ra.below hb, h.ru.below hb, h.rx.below hb⟩
theorem Lists.rd {w : World} {B : Nat} {m : Mm} {q a u x : Value} (h : Lists w B m q a u x) : LRd w m q a u x := ⟨CRow.of_owns h.rq, CRow.of_owns h.ra, CRow.of_owns h.ru, CRow.of_owns h.rx⟩

end Go.Proofs.Ytilcbdhcojgcbaa
/- spec.l09Stray by its contract. -/
namespace Go.Proofs.Ytilcbdhcojgcbaa
open Go.RowKit
set_option linter.unusedVariables false

set_option maxRecDepth 100000 in
set_option maxHeartbeats 3200000 in
theorem l09Stray_any (d f : Nat) (m : Mm) (q a u x : Value) (w : World) (h : LRd w m q a u x) (hs : m.an.length ≤ 400 ∧ m.au.length ≤ 400 ∧ m.ex.length ≤ 400) :
    Calls Try.prog 19 #[.agg (msA d f q a u x)] w fun e w' => e = .returned (.bool (strayB m)) ∧ Below w.heap.size w w' := by
  obtain ⟨s2, s3, s4⟩ := hs
  obtain ⟨_, qa, qc, rfl, _⟩ := h.rq
  obtain ⟨_, aa, ac, rfl, ha1, ha2, hac⟩ := h.ra
  obtain ⟨_, ua, uc, rfl, hu1, hu2, huc⟩ := h.ru
  obtain ⟨_, xa, xc, rfl, hx1, hx2, hxc⟩ := h.rx
  have hB1 := (Below.refl w.heap.size w).alloc (Nat.le_refl _) (.cells (msA d f (.slice qa m.qs.length qc) (.slice aa m.an.length ac) (.slice ua m.au.length uc) (.slice xa m.ex.length xc)) 35)
  have k1 := blk_new w (msA d f (.slice qa m.qs.length qc) (.slice aa m.an.length ac) (.slice ua m.au.length uc) (.slice xa m.ex.length xc)) 35
  obtain ⟨RES, HRES⟩ : ∃ R, Hid (R = strayB m) := ⟨_, rfl⟩
  rw [← HRES.out]
  simp only [msA] at *
  generalize ((f / 2048 % 16 : Nat) : Int) = i2 at *
  generalize ((f % 16 : Nat) : Int) = i10 at *
  generalize f.testBit 15 = t15 at *
  generalize f.testBit 10 = t10 at *
  generalize f.testBit 9 = t9 at *
  generalize f.testBit 8 = t8 at *
  generalize f.testBit 7 = t7 at *
  generalize f.testBit 6 = t6 at *
  generalize f.testBit 5 = t5 at *
  generalize f.testBit 4 = t4 at *
  generalize (d : Int) = i0 at *
  clear h
  go_enter Try.func19, Try.ntmps19
  go_wp2
  go_loopw [3] (fun i wr => ∃ k : Nat, k ≤ m.an.length ∧ i = .int .i64 k ∧ Hid ((m.an.take k).any vTs = false) ∧ Blk wr w.heap.size #[.int .i64 i0, .bool t15, .int .i64 i2, .bool t10, .bool t9, .bool t8, .bool t7, .bool t6, .bool t5, .bool t4, .int .i64 i10, .slice qa m.qs.length qc, .slice aa m.an.length ac, .slice ua m.au.length uc, .slice xa m.ex.length xc] 35 ∧ Below w.heap.size w wr) (fun i _ => m.an.length - (intOf i).toNat)
  case atStart => exact ⟨0, Nat.zero_le _, rfl, by show _ = _; simp, k1, hB1⟩
  case round =>
    obtain ⟨k, hk, rfl, HA, z1, hbel⟩ := hrel
    clear k1 hB1
    have rr := fun i => blk_cell z1 i
    by_cases hlt : k < m.an.length
    · obtain ⟨x, hx⟩ : ∃ x, (m.an)[k]? = some x := ⟨_, List.getElem?_eq_getElem (by omega)⟩
      obtain ⟨b, off, rfl, hcell⟩ := hac (by omega)
      have at1 := rrCs_at m.an k 1 x hx (by decide)
      have c1 : wr.cell? ⟨b, off + k * 5 + 1, none⟩ = some (.int .i64 (x.ty : Int)) := (hbel.cell (World.block_lt_of_cell? w _ (hcell _ _ at1))).trans (hcell _ _ at1)
      have i1 : (0 : Int) ≤ (k : Int) := by omega
      clear hcell at1
      have i2' : (k : Int) < (m.an.length : Int) := by omega
      cases ht : vTs x with
      | true =>
        obtain rfl : RES = true := by rw [HRES.out, strayB, any_at hx ht]; rfl
        have ht' : ((x.ty : Int) == 250) = true := by simp only [vTs, decide_eq_true_eq] at ht; rw [ht]; rfl
        have Z := Nm.hide hbel
        clear HRES hx ht hac huc hxc z1 hbel
        go_wp2
        go_ret
        exact ⟨rfl, Z.out⟩
      | false =>
        have ht' : ((x.ty : Int) == 250) = false := by simp only [vTs, decide_eq_false_iff_not] at ht; rw [beq_eq_false_iff_ne]; omega
        have HA2 : Hid ((m.an.take (k + 1)).any vTs = false) := by show _ = _; rw [any_step hx, HA.out, ht]; rfl
        have Z := Nm.hide (And.intro z1 hbel)
        clear HA HRES hx ht hac huc hxc z1 hbel
        go_wp2
        go_roundw
        case rel => exact ⟨k + 1, by omega, by go_num, HA2, Z.out.1, Z.out.2⟩
        case measure => simp [intOf]; omega
    · have hkl : k = m.an.length := by omega
      subst hkl
      have HA1 : Hid (m.an.any vTs = false) := by have := HA.out; rw [List.take_length] at this; exact this
      have i2' : ¬ (m.an.length : Int) < (m.an.length : Int) := by omega
      have Z := Nm.hide (And.intro z1 hbel)
      clear HA hac z1 hbel
      go_wp2_with fail
      go_loopw [4] (fun i wr => ∃ k : Nat, k ≤ m.au.length ∧ i = .int .i64 k ∧ Hid ((m.au.take k).any vTs = false) ∧ Blk wr w.heap.size #[.int .i64 i0, .bool t15, .int .i64 i2, .bool t10, .bool t9, .bool t8, .bool t7, .bool t6, .bool t5, .bool t4, .int .i64 i10, .slice qa m.qs.length qc, .slice aa m.an.length ac, .slice ua m.au.length uc, .slice xa m.ex.length xc] 35 ∧ Below w.heap.size w wr) (fun i _ => m.au.length - (intOf i).toNat)
      case atStart => exact ⟨0, Nat.zero_le _, rfl, by show _ = _; simp, Z.out.1, Z.out.2⟩
      case round =>
        obtain ⟨k, hk, rfl, HA, z1, hbel⟩ := hrel
        clear Z rr
        have rr := fun i => blk_cell z1 i
        by_cases hlt : k < m.au.length
        · obtain ⟨x, hx⟩ : ∃ x, (m.au)[k]? = some x := ⟨_, List.getElem?_eq_getElem (by omega)⟩
          obtain ⟨b, off, rfl, hcell⟩ := huc (by omega)
          have at1 := rrCs_at m.au k 1 x hx (by decide)
          have c1 : wr.cell? ⟨b, off + k * 5 + 1, none⟩ = some (.int .i64 (x.ty : Int)) := (hbel.cell (World.block_lt_of_cell? w _ (hcell _ _ at1))).trans (hcell _ _ at1)
          have i1 : (0 : Int) ≤ (k : Int) := by omega
          clear hcell at1
          have i2' : (k : Int) < (m.au.length : Int) := by omega
          cases ht : vTs x with
          | true =>
            obtain rfl : RES = true := by rw [HRES.out, strayB, HA1.out, any_at hx ht]; rfl
            have ht' : ((x.ty : Int) == 250) = true := by simp only [vTs, decide_eq_true_eq] at ht; rw [ht]; rfl
            have Z := Nm.hide hbel
            clear HRES hx ht huc hxc z1 hbel
            go_wp2
            go_ret
            exact ⟨rfl, Z.out⟩
          | false =>
            have ht' : ((x.ty : Int) == 250) = false := by simp only [vTs, decide_eq_false_iff_not] at ht; rw [beq_eq_false_iff_ne]; omega
            have HA2 : Hid ((m.au.take (k + 1)).any vTs = false) := by show _ = _; rw [any_step hx, HA.out, ht]; rfl
            have Z := Nm.hide (And.intro z1 hbel)
            clear HA HRES hx ht huc hxc z1 hbel
            go_wp2
            go_roundw
            case rel => exact ⟨k + 1, by omega, by go_num, HA2, Z.out.1, Z.out.2⟩
            case measure => simp [intOf]; omega
        · have hkl : k = m.au.length := by omega
          subst hkl
          have HU1 : Hid (m.au.any vTs = false) := by have := HA.out; rw [List.take_length] at this; exact this
          have i2' : ¬ (m.au.length : Int) < (m.au.length : Int) := by omega
          have Z := Nm.hide (And.intro z1 hbel)
          clear HA huc z1 hbel
          go_wp2_with fail
          go_loopw [5] (fun i wr => ∃ k : Nat, k ≤ m.ex.length - 1 ∧ i = .int .i64 k ∧ Hid ((m.ex.take k).any vTs = false) ∧ Blk wr w.heap.size #[.int .i64 i0, .bool t15, .int .i64 i2, .bool t10, .bool t9, .bool t8, .bool t7, .bool t6, .bool t5, .bool t4, .int .i64 i10, .slice qa m.qs.length qc, .slice aa m.an.length ac, .slice ua m.au.length uc, .slice xa m.ex.length xc] 35 ∧ Below w.heap.size w wr) (fun i _ => m.ex.length - (intOf i).toNat)
          case atStart => exact ⟨0, Nat.zero_le _, rfl, by show _ = _; simp, Z.out.1, Z.out.2⟩
          case round =>
            obtain ⟨k, hk, rfl, HA, z1, hbel⟩ := hrel
            clear Z rr
            have rr := fun i => blk_cell z1 i
            by_cases hlt : k < m.ex.length - 1
            · obtain ⟨x, hx⟩ : ∃ x, (m.ex)[k]? = some x := ⟨_, List.getElem?_eq_getElem (by omega)⟩
              obtain ⟨b, off, rfl, hcell⟩ := hxc (by omega)
              have at1 := rrCs_at m.ex k 1 x hx (by decide)
              have c1 : wr.cell? ⟨b, off + k * 5 + 1, none⟩ = some (.int .i64 (x.ty : Int)) := (hbel.cell (World.block_lt_of_cell? w _ (hcell _ _ at1))).trans (hcell _ _ at1)
              have i1 : (0 : Int) ≤ (k : Int) := by omega
              clear hcell at1
              have i2' : (k : Int) < (m.ex.length : Int) := by omega
              have i3' : (k : Int) < (m.ex.length : Int) - 1 := by omega
              cases ht : vTs x with
              | true =>
                obtain rfl : RES = true := by
                  rw [HRES.out, strayB, HA1.out, HU1.out]
                  have : m.ex.dropLast[k]? = some x := by rw [List.dropLast_eq_take, List.getElem?_take_of_lt hlt]; exact hx
                  rw [any_at this ht]; rfl
                have ht' : ((x.ty : Int) == 250) = true := by simp only [vTs, decide_eq_true_eq] at ht; rw [ht]; rfl
                have Z := Nm.hide hbel
                clear HRES hx ht hxc z1 hbel
                go_wp2
                go_ret
                exact ⟨rfl, Z.out⟩
              | false =>
                have ht' : ((x.ty : Int) == 250) = false := by simp only [vTs, decide_eq_false_iff_not] at ht; rw [beq_eq_false_iff_ne]; omega
                have HA2 : Hid ((m.ex.take (k + 1)).any vTs = false) := by show _ = _; rw [any_step hx, HA.out, ht]; rfl
                have Z := Nm.hide (And.intro z1 hbel)
                clear HA HRES hx ht hxc z1 hbel
                go_wp2
                go_roundw
                case rel => exact ⟨k + 1, by omega, by go_num, HA2, Z.out.1, Z.out.2⟩
                case measure => simp [intOf]; omega
            · have hkl : k = m.ex.length - 1 := by omega
              have HX1 : m.ex.dropLast.any vTs = false := by rw [List.dropLast_eq_take, ← hkl]; exact HA.out
              obtain rfl : RES = false := by rw [HRES.out, strayB, HA1.out, HU1.out, HX1]; rfl
              have i2' : ¬ (k : Int) < (m.ex.length : Int) - 1 := by omega
              have Z := Nm.hide hbel
              clear HA hxc z1 hbel HX1 HRES hkl
              go_wp2
              go_ret
              exact ⟨rfl, Z.out⟩
end Go.Proofs.Ytilcbdhcojgcbaa
/- (*reader).records by its contract. -/
namespace Go.Proofs.Ytilcbdhcojgcbaa
open Go.RowKit
set_option linter.unusedVariables false

theorem dtP_next (l : List UInt8) (fin : Nat) : ∀ (ps : List (Option Nat)) (p : Nat) (acc d : List UInt8) (q : Nat), dtP l fin ps p acc = .ok d q → q = fin := by
  intro ps
  induction ps with
  | nil => intro p acc d q h; rw [dtP] at h; split at h <;> simp at h; exact h.2.symm
  | cons x ps ih =>
    intro p acc d q h
    cases x with
    | none =>
      rw [dtP] at h
      split at h
      · simp at h
      · split at h
        · exact ih _ _ _ _ h
        · simp at h
    | some n =>
      rw [dtP] at h
      split at h
      · exact ih _ _ _ _ h
      · simp at h

theorem dataS_next {l : List UInt8} {t p fin q : Nat} {d : List UInt8} (h : dataS l t p fin = .ok d q) : q = fin := by
  rw [dataS] at h
  split at h
  · simp at h; exact h.2.symm
  · split at h
    · exact dtP_next _ _ _ _ _ _ _ h
    · split at h <;> simp at h; exact h.2.symm

theorem rrS_bad {l : List UInt8} {p : Nat} {c : Int} (h : dnF l p p [] none = .bad c) : rrS l p = .bad c := by rw [rrS, h]
theorem rrS_short {l : List UInt8} {p nx : Nat} {s : List UInt8} (h : dnF l p p [] none = .ok s nx) (h4 : l.length < nx + 8) : rrS l p = .bad 8 := by rw [rrS, h]; simp only; rw [if_neg (by omega)]
theorem rrS_dat {l : List UInt8} {p nx : Nat} {s : List UInt8} {c : Int} (h : dnF l p p [] none = .ok s nx) (hd : dtaS l (n16 l nx) (nx + 8) = .bad c) : rrS l p = .bad c := by
  rw [dtaS] at hd
  rw [rrS, h]
  simp only
  have e : nx + 8 + 2 = nx + 10 := by omega
  rw [e] at hd
  by_cases h1 : nx + 10 ≤ l.length
  · rw [if_pos h1] at hd ⊢
    by_cases h2 : nx + 10 + n16 l (nx + 8) ≤ l.length
    · rw [if_pos h2] at hd ⊢
      rw [hd]
    · rw [if_neg h2] at hd ⊢
      cases hd; rfl
  · rw [if_neg h1] at hd ⊢
    cases hd; rfl
theorem rrS_ok {l : List UInt8} {p nx q : Nat} {s d : List UInt8} (h : dnF l p p [] none = .ok s nx) (hd : dtaS l (n16 l nx) (nx + 8) = .ok d q) : rrS l p = .ok ⟨s, n16 l nx, n16 l (nx + 2), n32 l (nx + 4), d⟩ q := by
  rw [dtaS] at hd
  rw [rrS, h]
  simp only
  have e : nx + 8 + 2 = nx + 10 := by omega
  rw [e] at hd
  by_cases h1 : nx + 10 ≤ l.length
  · rw [if_pos h1] at hd ⊢
    by_cases h2 : nx + 10 + n16 l (nx + 8) ≤ l.length
    · rw [if_pos h2] at hd ⊢
      rw [hd, dataS_next hd]
    · rw [if_neg h2] at hd
      cases hd
  · rw [if_neg h1] at hd
    cases hd

theorem ESt.store {w W : World} {g n pos e s m b i : Nat} {V vo v : Value} {cs : List Value} (h : ESt w W g V n e s vo m cs pos) (hb : w.heap.size ≤ b) (hbg : g ≠ b) (hrow : ∀ k, vo.ownBlock = some k → k ≠ b) : ESt w (W.setCell ⟨b, i, none⟩ v) g V n e s vo m cs pos := by
  have hg : W.grownBy (W.setCell ⟨b, i, none⟩ v) (some b) := ⟨rfl, rfl, rfl, by simp, fun k _ hk => heap_setCell_other W ⟨b, i, none⟩ k _ (fun e => hk (by simp [e]))⟩
  refine ⟨h.own.kept hg ?_, blk_far (rd_blk h.rd) hbg, h.le, hgr_set h.grown hb, h.ne⟩
  cases hv : vo.ownBlock with
  | none => exact .inl rfl
  | some k => exact .inr (by simpa using hrow k hv)

theorem cell_newS (w : World) (b i : Nat) (v : Value) (vs : List Value) (e : Nat) : ∀ (j : Nat) (u : Value), vs[j]? = some u → ((w.setCell ⟨b, i, none⟩ v).alloc (.cells vs.toArray e)).cell? ((⟨w.heap.size, 0, none⟩ : Addr).add j) = some u := by
  have h := cell_newL (w.setCell ⟨b, i, none⟩ v) vs e
  have e2 : (w.setCell ⟨b, i, none⟩ v).heap.size = w.heap.size := by simp
  rw [e2] at h
  exact h

set_option maxRecDepth 100000 in
set_option maxHeartbeats 3200000 in
theorem records_any (g : Nat) (a : Option Addr) (l : List UInt8) (cap p count : Nat) (w : World) (h : Rd w g (.slice a l.length cap) p) (hfar : ∀ w', w.grownBy w' (some g) → BySl w' (.slice a l.length cap) l) (hp : p ≤ l.length) (hnn : l.length ≤ 1048576) (hcnt : count ≤ 65535) :
    Calls Try.prog 56 #[.pointer (some ⟨g, 0, none⟩), .int .i64 count] w fun e w' =>
      (∃ xs q v, manyS (rrS l) count p [] = .ok xs q ∧ e = .returned v ∧ ESt w w' g (.slice a l.length cap) l.length 56 5 v xs.length (rrCs xs) q) ∨
      (∃ c, manyS (rrS l) count p [] = .bad c ∧ e = .panicked (fault c) ∧ w.grownBy w' (some g)) := by
  obtain ⟨i0, hi, hz0, hz1, hz2⟩ := info_parts Try.infoRR
  have hglt := rd_lt h
  generalize hR : manyS (rrS l) count p [] = R
  go_enter Try.func56, Try.ntmps56
  go_wp2
  go_loopw [5, 8] (fun vo vk wr => ∃ (k pos : Nat) (xs : List Rm) (q : Value), q = vo ∧ vk = .int .i64 k ∧ k ≤ count ∧ xs.length = k ∧ ESt w wr g (.slice a l.length cap) l.length 56 5 vo k (rrCs xs) pos ∧ manyS (rrS l) (count - k) pos xs = R)
    (fun _ vk _ => count - (intOf vk).toNat)
  case atStart => exact ⟨0, p, [], _, rfl, rfl, Nat.zero_le _, rfl, ⟨⟨rfl, .inl ⟨rfl, rfl⟩⟩, h, hp, World.grownBy.refl _ _, by decide⟩, hR⟩
  case round =>
    obtain ⟨k, pos, xs, vo, rfl, rfl, hk, hxl, hst, hres⟩ := hrel
    clear hR h
    by_cases hlt : k < count
    · have hlt' : (k : Int) < (count : Int) := by omega
      have hck : count - k = (count - (k + 1)) + 1 := by omega
      rw [hck, manyS] at hres
      have hnm := name_any g a l cap pos wr hst.rd (hfar _ hst.grown) (fun W hW => hfar W (gr_step hst.grown hW)) hst.le hnn
      have hnum := fun (q sz : Nat) (hsz : sz ≤ 6) W (hs : ESt w W g (.slice a l.length cap) l.length 56 5 vo k (rrCs xs) q) => number_any g a l cap q sz W hs.rd (hfar _ hs.grown) (fun W2 hW2 => hfar W2 (gr_step hs.grown hW2)) hs.le hnn hsz
      have hdt := fun (q t : Nat) W (hs : ESt w W g (.slice a l.length cap) l.length 56 5 vo k (rrCs xs) q) => data_any g a l cap q t W hs.rd (fun W2 hW2 => hfar W2 (gr_step hs.grown hW2)) hs.le hnn
      have HRD : Hid (∀ W W2 q q2, ESt w W g (.slice a l.length cap) l.length 56 5 vo k (rrCs xs) q → W.grownBy W2 (some g) → Rd W2 g (.slice a l.length cap) q2 → q2 ≤ l.length → ESt w W2 g (.slice a l.length cap) l.length 56 5 vo k (rrCs xs) q2) := by exact fun W W2 q q2 hs hW hr hle => hs.read hW hr hle
      cases hd : dnF l pos pos [] none using Rs.elim with
      | bad c =>
        rw [rrS_bad hd] at hres
        simp only at hres
        subst hres
        have hnm' := hnm.mono (R' := fun e w' => e = .panicked (fault c) ∧ wr.grownBy w' (some g)) (by
          rintro e w2 (⟨_, _, hx, _⟩ | ⟨c2, hx, he, hg2⟩)
          · rw [hd] at hx; cases hx
          · rw [hd] at hx; cases hx; exact ⟨he, hg2⟩)
        have HG : Hid (∀ W, wr.grownBy W (some g) → w.grownBy W (some g)) := by exact fun W hW => gr_step hst.grown hW
        clear hnm hst hfar hnum HRD hdt
        go_wp2_with (go_at_call 67; refine hnm'.mono ?_; rintro e w6 ⟨rfl, hg6⟩)
        refine bp_panic rfl ?_
        exact .inr ⟨_, rfl, rfl, HG.out _ hg6⟩
      | ok s nx =>
        have hnm' := hnm.mono (R' := fun e w' => e = .returned (.string ⟨s.toArray⟩) ∧ Rd w' g (.slice a l.length cap) nx ∧ nx ≤ l.length ∧ wr.grownBy w' (some g)) (by
          rintro e w2 (⟨_, _, hx, he, hr, hn, hg2⟩ | ⟨c2, hx, he, hg2⟩)
          · rw [hd] at hx; cases hx; exact ⟨he, hr, hn, hg2⟩
          · rw [hd] at hx; cases hx)
        by_cases h8 : nx + 8 ≤ l.length
        · have hn1 := fun W hs => (hnum nx 2 (by decide) W hs).mono (R' := fun e w' => e = .returned (.int .i64 ((n16 l nx : Nat) : Int)) ∧ Rd w' g (.slice a l.length cap) (nx + 2) ∧ W.grownBy w' (some g)) (by
            rintro e w' (⟨_, h1, h2, h3⟩ | ⟨h1, _⟩)
            · exact ⟨h1, h2, h3⟩
            · omega)
          have hn2 := fun W hs => (hnum (nx + 2) 2 (by decide) W hs).mono (R' := fun e w' => e = .returned (.int .i64 ((n16 l (nx + 2) : Nat) : Int)) ∧ Rd w' g (.slice a l.length cap) (nx + 4) ∧ W.grownBy w' (some g)) (by
            rintro e w' (⟨_, h1, h2, h3⟩ | ⟨h1, _⟩)
            · exact ⟨h1, h2, h3⟩
            · omega)
          have hn3 := fun W hs => (hnum (nx + 4) 4 (by decide) W hs).mono (R' := fun e w' => e = .returned (.int .i64 ((n32 l (nx + 4) : Nat) : Int)) ∧ Rd w' g (.slice a l.length cap) (nx + 8) ∧ W.grownBy w' (some g)) (by
            rintro e w' (⟨_, h1, h2, h3⟩ | ⟨h1, _⟩)
            · exact ⟨h1, h2, h3⟩
            · omega)
          have hdt8 := fun W hs => hdt (nx + 8) (n16 l nx) W hs
          have HST := Nm.hide hst
          have HDB := Nm.hide (fun c => rrS_dat (c := c) hd)
          have HDO := Nm.hide (fun d q => rrS_ok (d := d) (q := q) hd)
          clear hnm hst hfar hnum hdt
          generalize n16 l nx = ty at *
          generalize n16 l (nx + 2) = cl at *
          generalize n32 l (nx + 4) = tl at *
          go_wp2_with (first | (go_at_call 67; refine hnm'.mono ?_; rintro e w6 ⟨rfl, hr6, hn6, hg6⟩; have hst6 := HRD.out _ _ _ _ HST.out hg6 hr6 hn6) | (go_at_call 53; refine (hn1 _ hst6).mono ?_; rintro e w7 ⟨rfl, hr7, hg7⟩; have hst7 := HRD.out _ _ _ _ hst6 hg7 hr7 (by omega); clear hn1) | (go_at_call 53; refine (hn2 _ hst7).mono ?_; rintro e w8 ⟨rfl, hr8, hg8⟩; have hst8 := HRD.out _ _ _ _ hst7 hg8 hr8 (by omega); clear hn2) | (go_at_call 53; refine (hn3 _ hst8).mono ?_; rintro e w9 ⟨rfl, hr9, hg9⟩; have hst9 := HRD.out _ _ _ _ hst8 hg9 hr9 h8; clear hn3))
          have hst10 := hst9.alloc (.cells #[.string ⟨s.toArray⟩, .int .i64 (ty : Int), .int .i64 (cl : Int), .int .i64 (tl : Int), .string ByteArray.empty] 56)
          have hB := blk_new w9 #[.string ⟨s.toArray⟩, .int .i64 (ty : Int), .int .i64 (cl : Int), .int .i64 (tl : Int), .string ByteArray.empty] 56
          have hrow : ∀ q, vo.ownBlock = some q → q < w9.heap.size := fun q hq => (hst9.own.lt q hq).2
          have hwl := hst9.grown.size
          clear hst6 hst7 hst8 hst9 hr6 hg6 hr7 hg7 hr8 hg8 hr9 hg9
          refine (hdt8 _ hst10).mono ?_
          rintro e w11 (⟨d, q, hdd, rfl, hr11, hq, hg11⟩ | ⟨c, hdd, rfl, hg11⟩)
          · rw [HDO.out d q hdd] at hres
            simp only at hres
            have HRES := Nm.hide hres
            have hst11 := HRD.out _ _ _ _ hst10 hg11 hr11 hq
            have hB11 := blk_grown hB hg11 (by simp; omega)
            have hst12 := hst11.store (b := w9.heap.size) (i := 4) (v := .string ⟨d.toArray⟩) hwl (by omega) (fun q hq => by have := hrow q hq; omega)
            have hB12 := blk_set hB11 4 (.string ⟨d.toArray⟩)
            have c4 := blk_cell hB11 4
            have f4 := blk_frozen hB11 4
            have r := fun i => blk_cell hB12 i
            have hs12 := hst12.grown.size
            clear hres hst10 hst11 hB hB11 hB12 hr11 hg11 hdd
            go_wp2_with (at_builtin; refine wpList_append_own _ rfl (.tmp 24) (.tmp 26) 33 rfl w.heap.size 56 i0 (.agg #[.string ByteArray.empty, .int .i64 0, .int .i64 0, .int .i64 0, .string ByteArray.empty]) 5 56 Try.underlying33 hi hz0 hz1 hz2 rfl (by decide) _ _ _ rfl (hst12.alloc _).own ⟨w11.heap.size, 0, none⟩ 1 1 (rrC ⟨s, ty, cl, tl, d⟩) rfl rfl (cell_newS _ _ _ _ _ _) (by intro u hu; simp [rrC] at hu; rcases hu with rfl | rfl | rfl | rfl | rfl <;> rfl) (by unfold maxLen; omega) (by omega) (by simp at hs12 ⊢; omega) ?_; intro va wa hown13 hgrow13 hnl13; clear hnl13; rw [← rrCs_snoc] at hown13; have HST13 := Nm.hide ((hst12.alloc _).app hgrow13 hown13); clear hgrow13 hown13 hst12)
            go_roundw
            case rel => exact ⟨k + 1, q, xs ++ [⟨s, ty, cl, tl, d⟩], _, rfl, by go_num, by omega, by simp; omega, HST13.out, HRES.out⟩
            case measure => simp [intOf]; omega
          · rw [HDB.out c hdd] at hres
            simp only at hres
            subst hres
            go_wp2
            refine bp_panic rfl ?_
            exact .inr ⟨_, rfl, rfl, gr_step hst10.grown hg11⟩
        · rw [rrS_short hd (by omega)] at hres
          simp only at hres
          subst hres
          have HST := Nm.hide hst
          clear hnm hst hfar hdt
          go_wp2_with (go_at_call 67; refine hnm'.mono ?_; rintro e w6 ⟨rfl, hr6, hn6, hg6⟩; have hst6 := HRD.out _ _ _ _ HST.out hg6 hr6 hn6)
          refine (hnum nx 2 (by decide) _ hst6).mono ?_
          rintro e w7 (⟨hl7, rfl, hr7, hg7⟩ | ⟨_, rfl, hg7⟩)
          rotate_left 1
          · go_wp2
            refine bp_panic rfl ?_
            exact .inr ⟨_, rfl, rfl, gr_step hst6.grown hg7⟩
          have hst7 := HRD.out _ _ _ _ hst6 hg7 hr7 (by omega)
          go_wp2_with fail
          refine (hnum (nx + 2) 2 (by decide) _ hst7).mono ?_
          rintro e w8 (⟨hl8, rfl, hr8, hg8⟩ | ⟨_, rfl, hg8⟩)
          rotate_left 1
          · go_wp2
            refine bp_panic rfl ?_
            exact .inr ⟨_, rfl, rfl, gr_step hst7.grown hg8⟩
          have hst8 := HRD.out _ _ _ _ hst7 hg8 hr8 (by omega)
          go_wp2_with fail
          refine (hnum (nx + 2 + 2) 4 (by decide) _ hst8).mono ?_
          rintro e w9 (⟨hl9, _⟩ | ⟨_, rfl, hg9⟩)
          · omega
          go_wp2
          refine bp_panic rfl ?_
          exact .inr ⟨_, rfl, rfl, gr_step hst8.grown hg9⟩
    · have hge : (count : Int) ≤ (k : Int) := by omega
      have hck : count - k = 0 := by omega
      rw [hck, manyS] at hres
      subst hres
      go_wp2
      go_ret
      exact .inl ⟨_, _, _, rfl, rfl, by rw [hxl]; exact hst⟩
end Go.Proofs.Ytilcbdhcojgcbaa
