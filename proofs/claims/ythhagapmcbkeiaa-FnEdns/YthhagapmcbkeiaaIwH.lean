import Derived.Test.YthhagapmcbkeiaaJMvM
import Derived.Test.YthhagapmcbkeiaaIwR
import Derived.Test.YthhagapmcbkeiaaMvI
/- (*writer).head by its contract. -/
namespace Go.Proofs.Ythhagapmcbkeiaa
open Go.RowKit
set_option linter.unusedVariables false

def flV (l : List (Bool × Nat)) : List Value := l.flatMap fun p => [.bool p.1, .int .i64 ((2 ^ p.2 : Nat) : Int)]
theorem flV_at {l : List (Bool × Nat)} {k : Nat} {x : Bool × Nat} (h : l[k]? = some x) : (flV l)[k * 2]? = some (.bool x.1) ∧ (flV l)[k * 2 + 1]? = some (.int .i64 ((2 ^ x.2 : Nat) : Int)) := by
  induction l generalizing k with
  | nil => simp at h
  | cons y l ih =>
    cases k with
    | zero => simp at h; subst h; simp [flV]
    | succ k =>
      simp at h
      have := ih h
      have e : flV (y :: l) = [.bool y.1, .int .i64 ((2 ^ y.2 : Nat) : Int)] ++ flV l := by simp [flV]
      rw [e, show (k + 1) * 2 = k * 2 + 2 by omega, show k * 2 + 2 + 1 = (k * 2 + 1) + 2 by omega]
      simpa using this

theorem three_new (w : World) (c1 c2 c3 : Array Value) (T1 T2 T3 : TypeId) : Blk (((w.alloc (.cells c1 T1)).alloc (.cells c2 T2)).alloc (.cells c3 T3)) w.heap.size c1 T1 ∧ Blk (((w.alloc (.cells c1 T1)).alloc (.cells c2 T2)).alloc (.cells c3 T3)) (w.heap.size + 1) c2 T2 ∧ Blk (((w.alloc (.cells c1 T1)).alloc (.cells c2 T2)).alloc (.cells c3 T3)) (w.heap.size + 1 + 1) c3 T3 ∧ Below w.heap.size w (((w.alloc (.cells c1 T1)).alloc (.cells c2 T2)).alloc (.cells c3 T3)) := by
  have h1 := blk_new w c1 T1
  have h2 := blk_new (w.alloc (.cells c1 T1)) c2 T2
  have h3 := blk_new ((w.alloc (.cells c1 T1)).alloc (.cells c2 T2)) c3 T3
  have e1 : (w.alloc (.cells c1 T1)).heap.size = w.heap.size + 1 := by simp
  have e2 : ((w.alloc (.cells c1 T1)).alloc (.cells c2 T2)).heap.size = w.heap.size + 1 + 1 := by simp
  rw [e1] at h2
  rw [e2] at h3
  exact ⟨blk_alloc (blk_alloc h1 _) _, blk_alloc h2 _, h3, (((Below.refl _ _).alloc (Nat.le_refl _) _).alloc (by simp) _).alloc (by simp; omega) _⟩
theorem headL_app (id fl c : Nat) (cs : List Nat) : headL id fl cs ++ put2 c = headL id fl (cs ++ [c]) := by simp [headL]
theorem headL_two (id fl : Nat) : ([] ++ put2 id) ++ put2 fl = headL id fl [] := by simp [headL]

set_option maxRecDepth 100000 in
set_option maxHeartbeats 3200000 in
theorem head_w_any (m : Mg) (q a u x : Value) (w : World) (hrow : MRow w m q a u x) (hm : MSmall m) (hhd : hdOK m.hd = true) (hsm : m.qs.length + m.an.length + m.au.length + m.ex.length ≤ 400) (g B r : Nat) (vb : Value) (h : PM w g B r [] [] vb) (hB : B ≤ w.heap.size) :
    Calls Try.prog 47 #[.pointer (some ⟨g, 0, none⟩), .agg (mgV m.hd q a u x)] w fun e w' => e = .returned (.tuple #[]) ∧ ∃ vb', PM w' g B r (hdW m) [] vb' ∧ Bp B w w' := by
  have hla := fun j hj => list_at hrow hm j hj
  have hli := fun W => lists_any (n1 := m.qs.length) (n2 := m.an.length) (n3 := m.au.length) (n4 := m.ex.length) m.hd q a u x W (by obtain ⟨_, b, c, e, _⟩ := hrow.rq; exact ⟨b, c, e⟩) (by obtain ⟨_, b, c, e, _⟩ := hrow.ra; exact ⟨b, c, e⟩) (by obtain ⟨_, b, c, e, _⟩ := hrow.ru; exact ⟨b, c, e⟩) (by obtain ⟨_, b, c, e, _⟩ := hrow.rx; exact ⟨b, c, e⟩)
  have hlsz : ∀ j, j < 3 → (lsOf m j).length ≤ 400 := by
    intro j hj
    rcases j with _ | _ | _ | j <;> simp only [lsOf] <;> omega
  obtain ⟨⟨id, hid, hidl⟩, ⟨op, hop, hopl⟩, ⟨code, hco, hcol⟩⟩ := hd_parts hhd
  have HW : Hid (hdW m = headL id (flN op code (flP m.hd)) ([m.qs.length] ++ [(lsOf m 0).length, (lsOf m 1).length, (lsOf m 2).length])) := by
    show _ = _
    rw [flN_all, hdW, hid, hop, hco]
    rfl
  have hst := flN_step m.hd op code hopl hcol
  have hsk := flN_skip m.hd op code
  have hfi := flN_first op code hopl hcol
  have hFL : flN op code (flP m.hd) < 65536 := by rw [flN_all]; exact flagsS_lt _ _ _ _ _ _ _ _ _ _ hopl hcol
  obtain ⟨RES, HRES⟩ : ∃ R, Hid (hdW m = R) := ⟨_, rfl⟩
  rw [HRES.out]
  rw [HRES.out] at HW
  have hPl : (flP m.hd).length = 8 := rfl
  have hPv : (flV (flP m.hd)).toArray = #[.bool m.hd.qr, .int .i64 32768, .bool m.hd.aa, .int .i64 1024, .bool m.hd.tc, .int .i64 512, .bool m.hd.rd, .int .i64 256, .bool m.hd.ra, .int .i64 128, .bool m.hd.z, .int .i64 64, .bool m.hd.ad, .int .i64 32, .bool m.hd.cd, .int .i64 16] := rfl
  have hql : m.qs.length ≤ 400 := by omega
  obtain ⟨_, qa, qc, rfl, _⟩ := hrow.rq
  obtain ⟨_, aa', ac, rfl, _⟩ := hrow.ra
  obtain ⟨_, ua, uc, rfl, _⟩ := hrow.ru
  obtain ⟨_, xa, xc, rfl, _⟩ := hrow.rx
  clear hrow hhd hm HRES
  generalize flP m.hd = FP at *
  generalize lsOf m = LS at *
  obtain ⟨⟨i0, b1, i2, b3, b4, b5, b6, b7, b8, b9, i10⟩, qs, an, au, ex⟩ := m
  simp only [mgV] at *
  subst hid hop hco
  go_enter Try.func47, Try.ntmps47
  go_wp2
  have hthree := three_new w #[.int .i64 (id : Int), .bool b1, .int .i64 (op : Int), .bool b3, .bool b4, .bool b5, .bool b6, .bool b7, .bool b8, .bool b9, .int .i64 (code : Int), .slice qa qs.length qc, .slice aa' an.length ac, .slice ua au.length uc, .slice xa ex.length xc] #[.int .i64 (id : Int), .bool b1, .int .i64 (op : Int), .bool b3, .bool b4, .bool b5, .bool b6, .bool b7, .bool b8, .bool b9, .int .i64 (code : Int)] #[.bool b1, .int .i64 32768, .bool b3, .int .i64 1024, .bool b4, .int .i64 512, .bool b5, .int .i64 256, .bool b6, .int .i64 128, .bool b7, .int .i64 64, .bool b8, .int .i64 32, .bool b9, .int .i64 16] 37 34 117
  generalize ((w.alloc (.cells #[.int .i64 (id : Int), .bool b1, .int .i64 (op : Int), .bool b3, .bool b4, .bool b5, .bool b6, .bool b7, .bool b8, .bool b9, .int .i64 (code : Int), .slice qa qs.length qc, .slice aa' an.length ac, .slice ua au.length uc, .slice xa ex.length xc] 37)).alloc (.cells #[.int .i64 (id : Int), .bool b1, .int .i64 (op : Int), .bool b3, .bool b4, .bool b5, .bool b6, .bool b7, .bool b8, .bool b9, .int .i64 (code : Int)] 34)).alloc (.cells #[.bool b1, .int .i64 32768, .bool b3, .int .i64 1024, .bool b4, .int .i64 512, .bool b5, .int .i64 256, .bool b6, .int .i64 128, .bool b7, .int .i64 64, .bool b8, .int .i64 32, .bool b9, .int .i64 16] 117) = W0 at *
  obtain ⟨kM0, kH0, kF0, bW0⟩ := hthree
  rw [← hPv] at kF0
  clear hPv hfi
  have i00 : flN op code [] = flN op code (FP.take 0) := by simp
  rw [i00]
  clear i00
  go_loopw [44, 5] (fun i fv wr => ∃ j : Nat, j ≤ 8 ∧ i = .int .i64 j ∧ fv = .int .i64 (flN op code (FP.take j) : Int) ∧ Blk wr w.heap.size #[.int .i64 (id : Int), .bool b1, .int .i64 (op : Int), .bool b3, .bool b4, .bool b5, .bool b6, .bool b7, .bool b8, .bool b9, .int .i64 (code : Int), .slice qa qs.length qc, .slice aa' an.length ac, .slice ua au.length uc, .slice xa ex.length xc] 37 ∧ Blk wr (w.heap.size + 1) #[.int .i64 (id : Int), .bool b1, .int .i64 (op : Int), .bool b3, .bool b4, .bool b5, .bool b6, .bool b7, .bool b8, .bool b9, .int .i64 (code : Int)] 34 ∧ Blk wr (w.heap.size + 1 + 1) (flV FP).toArray 117 ∧ Below w.heap.size w wr) (fun i _ _ => 8 - (intOf i).toNat)
  case atStart => exact ⟨0, by omega, rfl, rfl, kM0, kH0, kF0, bW0⟩
  case round =>
    obtain ⟨j, hj, rfl, rfl, kM, kH, kF, bW⟩ := hrel
    clear kM0 kH0 kF0 bW0
    by_cases hlt : j < 8
    · obtain ⟨⟨on, i⟩, hx⟩ : ∃ x, FP[j]? = some x := ⟨_, List.getElem?_eq_getElem (by omega)⟩
      obtain ⟨v0, v1⟩ := flV_at hx
      have c0 := (blk_cell kF (j * 2)).trans ((List.getElem?_toArray ..).trans v0)
      have c1 := (blk_cell kF (j * 2 + 1)).trans ((List.getElem?_toArray ..).trans v1)
      simp only at c0 c1
      have hsti : on = true → bits .or .i64 (flN op code (FP.take j) : Int) ((2 ^ i : Nat) : Int) = (flN op code (FP.take (j + 1)) : Int) := fun e => hst j i (by rw [hx, e])
      have hski : on = false → flN op code (FP.take (j + 1)) = flN op code (FP.take j) := fun e => hsk j i (by rw [hx, e])
      have i1 : (j : Int) < 8 := by omega
      have i2 : (0 : Int) ≤ (j : Int) := by omega
      clear v0 v1 hx hst hsk
      generalize (2 ^ i : Nat) = P at *
      have bA := bW.alloc bW.size (.cells #[.bool on, .int .i64 (P : Int)] 117)
      have kM1 := blk_alloc kM (.cells #[.bool on, .int .i64 (P : Int)] 117)
      have kH1 := blk_alloc kH (.cells #[.bool on, .int .i64 (P : Int)] 117)
      have kF1 := blk_alloc kF (.cells #[.bool on, .int .i64 (P : Int)] 117)
      cases on with
      | false =>
        have hF := hski rfl
        clear hsti hski
        go_wp2
        go_roundw
        case rel => exact ⟨j + 1, by omega, by go_num, by rw [hF], kM1, kH1, kF1, bA⟩
        case measure => simp [intOf]; omega
      | true =>
        have hF := hsti rfl
        clear hsti hski
        go_wp2
        go_roundw
        case rel => exact ⟨j + 1, by omega, by go_num, by rw [← hF], kM1, kH1, kF1, bA⟩
        case measure => simp [intOf]; omega
    · obtain rfl : j = 8 := by omega
      have hT : FP.take 8 = FP := List.take_of_length_le (by omega)
      rw [hT]
      clear hT
      have hM := h.below bW
      have hBr : B ≤ wr.heap.size := Nat.le_trans hB bW.size
      have kW : Bp B w wr := Bp.of bW hB
      clear hst hsk kF bW h
      have hn1 := number2_pm id hidl g B r [] [] vb wr hM hBr (by simp)
      have hn2 := fun vb W (h : PM W g B r ([] ++ put2 id) [] vb) (hB : B ≤ W.heap.size) => number2_pm (flN op code FP) hFL g B r _ _ vb W h hB (by simp [put2])
      rw [headL_two] at hn2
      have hn3 := fun vb W (h : PM W g B r (headL id (flN op code FP) []) [] vb) (hB : B ≤ W.heap.size) => number2_pm qs.length (by omega) g B r _ _ vb W h hB (by rw [headL_len]; simp)
      rw [headL_app, List.nil_append] at hn3
      generalize flN op code FP = FL at *
      have x0 := (blk_cell kH 0).trans rfl
      go_wp2_with first
        | (
          go_at_call 49
          with_reducible refine hn1.mono ?_
          rintro e w1 ⟨rfl, vb1, hM1, k1⟩
          have hB1 := Nat.le_trans hBr k1.be.size
          have kM1 := k1.kp _ _ _ kM (by decide) (by decide))
        | (
          go_at_call 49
          with_reducible refine (hn2 _ _ hM1 hB1).mono ?_
          rintro e w2 ⟨rfl, vb2, hM2, k2⟩
          have hB2 := Nat.le_trans hB1 k2.be.size
          have kM2 := k2.kp _ _ _ kM1 (by decide) (by decide)
          have x2 := (blk_cell kM2 11).trans rfl)
        | (
          go_at_call 49
          with_reducible refine (hn3 _ _ hM2 hB2).mono ?_
          rintro e w3 ⟨rfl, vb3, hM3, k3⟩
          have hB3 := Nat.le_trans hB2 k3.be.size
          have kM3 := k3.kp _ _ _ kM2 (by decide) (by decide)
          have z0 := (blk_cell kM3 0).trans rfl
          have z1 := (blk_cell kM3 1).trans rfl
          have z2 := (blk_cell kM3 2).trans rfl
          have z3 := (blk_cell kM3 3).trans rfl
          have z4 := (blk_cell kM3 4).trans rfl
          have z5 := (blk_cell kM3 5).trans rfl
          have z6 := (blk_cell kM3 6).trans rfl
          have z7 := (blk_cell kM3 7).trans rfl
          have z8 := (blk_cell kM3 8).trans rfl
          have z9 := (blk_cell kM3 9).trans rfl
          have z10 := (blk_cell kM3 10).trans rfl
          have z11 := (blk_cell kM3 11).trans rfl
          have z12 := (blk_cell kM3 12).trans rfl
          have z13 := (blk_cell kM3 13).trans rfl
          have z14 := (blk_cell kM3 14).trans rfl)
        | (
          go_at_call 33
          refine (hli _).mono ?_
          rintro e w4 ⟨rfl, hb4⟩)
      have hM4 := hM3.below hb4
      have hB4 : B ≤ w4.heap.size := Nat.le_trans hB3 hb4.size
      have k4 : Bp B w w4 := kW.trans (k1.trans (k2.trans (k3.trans (Bp.of hb4 hB3))))
      have hM5 : PM w4 g B r (headL id FL ([qs.length] ++ [(LS 0).length, (LS 1).length, (LS 2).length].take 0)) [] vb3 := hM4
      clear hn1 hn2 hn3 hM1 hM2 hM3 hM4 kM kM1 kM2 kM3 kH k1 k2 k3 kW hb4 z0 z1 z2 z3 z4 z5 z6 z7 z8 z9 z10 z11 z12 z13 z14 x0 x2 hM hli
      have hlen : ∀ j, j < 3 → [qs.length] ++ [(LS 0).length, (LS 1).length, (LS 2).length].take (j + 1) = ([qs.length] ++ [(LS 0).length, (LS 1).length, (LS 2).length].take j) ++ [(LS j).length] := by
        intro j hj
        rcases j with _ | _ | _ | j
        · rfl
        · rfl
        · rfl
        · omega
      go_loopw [69] (fun i wr => ∃ (j : Nat) (vb' : Value), j ≤ 3 ∧ i = .int .i64 j ∧ PM wr g B r (headL id FL ([qs.length] ++ [(LS 0).length, (LS 1).length, (LS 2).length].take j)) [] vb' ∧ B ≤ wr.heap.size ∧ Bp B w wr) (fun i _ => 3 - (intOf i).toNat)
      case atStart => exact ⟨0, vb3, by omega, rfl, hM5, hB4, k4⟩
      case round =>
        obtain ⟨j, vb', hj, rfl, hM, hBr2, hbel⟩ := hrel
        clear hM5 hB4 k4
        by_cases hlt : j < 3
        · obtain ⟨la, lc, hrw, _, _, hidx⟩ := hla j hlt
          have hll := hlsz j hlt
          have hnn := number2_pm (LS j).length (by omega) g B r _ [] vb' wr hM hBr2 (by rw [headL_len]; simp; omega)
          rw [headL_app, ← hlen j hlt] at hnn
          have i1 : (j : Int) < 3 := by omega
          clear hla hlsz hrw hlen
          generalize (LS j).length = LJ at *
          go_wp2_with (
            go_at_call 49
            refine hnn.mono ?_
            rintro e w5 ⟨rfl, vb5, hM5, k5⟩)
          go_roundw
          case rel => exact ⟨j + 1, vb5, by omega, by go_num, hM5, Nat.le_trans hBr2 k5.be.size, hbel.trans k5⟩
          case measure => simp [intOf]; omega
        · obtain rfl : j = 3 := by omega
          rw [show [(LS 0).length, (LS 1).length, (LS 2).length].take 3 = [(LS 0).length, (LS 1).length, (LS 2).length] from rfl, ← HW.out] at hM
          clear hla hlsz hlen
          go_wp2
          refine bodyPost_end (v := .tuple #[]) ?_ rfl ⟨rfl, _, hM, hbel⟩
          simp [results, go_sem]
end Go.Proofs.Ythhagapmcbkeiaa
