import Derived.Test.YtihhchebcojplaaJMpS
import Derived.Test.YtihhchebcojplaaJDrE
import Derived.Laws.IdiomCopy
import Derived.Test.YtihhchebcojplaaJWrR
import Derived.Test.YtihhchebcojplaaJWtG
import Derived.Test.YtihhchebcojplaaJICheck
/- Two bytes of a string are copied into a row of the writer's. -/
namespace Go.Proofs.Ytihhchebcojplaa
open Go.RowKit
set_option linter.unusedVariables false

theorem run_copy_str2 {P : Program} (w : World) (dT sT ty elem : TypeId) (b o dLen dCap : Nat) (S : ByteArray) (x y : UInt8) (hS : S.data.toList = [x, y])
    (hu : P.underlying dT = some (.slice elem)) (hs : (P.info? elem).map (·.size) = some 1) (h2 : 2 ≤ dLen)
    (hc0 : (w.cell? ⟨b, o, none⟩).isSome = true) (hc1 : (w.cell? ⟨b, o + 1, none⟩).isSome = true) (hf0 : w.frozen? ⟨b, o, none⟩ = false) (hf1 : w.frozen? ⟨b, o + 1, none⟩ = false) :
    (Builtin.copy_ #[dT, sT] ty #[.slice (some ⟨b, o, none⟩) dLen dCap, .string S]).run P w = .ok (goInt 2) ((w.setCell ⟨b, o, none⟩ (.int .u8 (x.toNat : Int))).setCell ⟨b, o + 1, none⟩ (.int .u8 (y.toNat : Int))) := by
  have hst := run_storeCells_cells (P := P) b o [.int .u8 (x.toNat : Int), .int .u8 (y.toNat : Int)] 0 w
    (by intro j hj; simp at hj; rcases (show j = 0 ∨ j = 1 by omega) with rfl | rfl; exact hc0; exact hc1)
    (by intro j hj; simp at hj; rcases (show j = 0 ∨ j = 1 by omega) with rfl | rfl; exact hf0; exact hf1)
    (by intro v hv; simp at hv; rcases hv with rfl | rfl <;> rfl)
  have hsz : S.size = 2 := by
    have := congrArg List.length hS
    simpa using this
  have hmin : Nat.min S.size dLen = 2 := by rw [hsz]; exact Nat.min_eq_left h2
  have hcells : ((S.extract 0 2).data.map fun b => (Value.int .u8 (b.toNat : Int))).toList = [.int .u8 (x.toNat : Int), .int .u8 (y.toNat : Int)] := by
    have e : S.extract 0 2 = S := by rw [← hsz]; exact Dt.ext_all S
    rw [e, Array.toList_map, hS]
    rfl
  cases hq : P.info? elem with
  | none => simp [hq] at hs
  | some i =>
    have hi : i.size = 1 := by simpa [hq] using hs
    have hst2 : (storeCells ⟨b, o, none⟩ [.int .u8 (x.toNat : Int), .int .u8 (y.toNat : Int)]).run P w = .ok () ((w.setCell ⟨b, o, none⟩ (.int .u8 (x.toNat : Int))).setCell ⟨b, o + 1, none⟩ (.int .u8 (y.toNat : Int))) := hst
    have hsz2 : ∀ W : World, (Builtin.firstCells 1 2 (.string S)).run P W = .ok ((S.extract 0 2).data.map fun b => (Value.int .u8 (b.toNat : Int))) W := fun W => rfl
    have hlen : ∀ W : World, (Builtin.lenOf (.string S)).run P W = .ok 2 W := fun W => by
      have : (Builtin.lenOf (.string S)).run P W = .ok S.size W := rfl
      rw [this, hsz]
    have hmin2 : Nat.min 2 dLen = 2 := Nat.min_eq_left h2
    have hcl : (Array.map (fun b => Value.int IntKind.u8 (b.toNat : Int)) (S.extract 0 2).data) = #[.int .u8 (x.toNat : Int), .int .u8 (y.toNat : Int)] := Array.toList_inj.1 hcells
    rw [hcl] at hsz2
    simp [Builtin.copy_, run_underlying hu, hlen, hmin2, sizeOf, typeInfo, hq, hi, hsz2, hst2]
    done

theorem step_copy_str2 {P : Program} {ops : Array Oper} {o : Oper} {a : Act} {w : World} {K : Act → World → Prop} {Q : Exit → Act → World → Prop} {E : Prop} (hgd : o.guard = none) (d s : Operand) (dT sT : TypeId)
    (ho : o.op = .call { callee := .builtin .copy, args := #[d, s], argTypes := #[dT, sT] }) (elem : TypeId) (hu : P.underlying dT = some (.slice elem)) (hsz : (P.info? elem).map (·.size) = some 1)
    (b off dLen dCap : Nat) (hd : a.eval d = .slice (some ⟨b, off, none⟩) dLen dCap) (S : ByteArray) (hs : a.eval s = .string S) (x y : UInt8) (hS : S.data.toList = [x, y]) (h2 : 2 ≤ dLen)
    (hc0 : (w.cell? ⟨b, off, none⟩).isSome = true) (hc1 : (w.cell? ⟨b, off + 1, none⟩).isSome = true) (hf0 : w.frozen? ⟨b, off, none⟩ = false) (hf1 : w.frozen? ⟨b, off + 1, none⟩ = false)
    (h : K (a.put o.dst (goInt 2)) ((w.setCell ⟨b, off, none⟩ (.int .u8 (x.toNat : Int))).setCell ⟨b, off + 1, none⟩ (.int .u8 (y.toNat : Int)))) :
    if Region.wanted o (yielded ops a.tmps) = true then Oper.wp P o a w K Q else E := by
  have hw : Region.wanted o (yielded ops a.tmps) = true := by simp [Region.wanted, hgd]
  rw [if_pos hw]
  have hrun := run_copy_str2 (P := P) w dT sT o.type elem b off dLen dCap S x y hS hu hsz h2 hc0 hc1 hf0 hf1
  unfold Oper.wp
  simp [execOp, ho, resolve, invoke, builtin, hd, hs, hrun, Result.andThen]
  exact h

theorem PW.store {w : World} {g B b cap n : Nat} {bs : List UInt8} {vm : Value} (h : PW w g B bs (.slice (some ⟨b, 0, none⟩) n cap) vm) (hn : n = bs.length) (j : Nat) (x : UInt8) :
    PW (w.setCell ⟨b, j, none⟩ (.int .u8 (x.toNat : Int))) g B (bs.set j x) (.slice (some ⟨b, 0, none⟩) n cap) vm := by
  subst hn
  have hb := h.rb
  have hne : (Value.slice (some ⟨b, 0, none⟩) bs.length cap).ownBlock ≠ some g := own_blk hb h.blk (by decide)
  have hgb : g ≠ b := by intro e; subst e; exact hne rfl
  refine ⟨blk_far h.blk hgb, ?_, h.bg⟩
  rw [← bys_set, List.length_set]
  exact (hb.stored j _).1
theorem PW.storeBw {w0 w : World} {g B b cap n : Nat} {bs : List UInt8} {vm : Value} (h : PW w g B bs (.slice (some ⟨b, 0, none⟩) n cap) vm) (hk : Bw B w0 w) (j : Nat) (x : Value) :
    Bw B w0 (w.setCell ⟨b, j, none⟩ x) := by
  have hb := h.rb
  have hBb : B ≤ b := (hb.lt b rfl).1
  refine ⟨hk.be.setCell hBb _, fun k o hk' h1 h2 => ?_⟩
  have hk2 := hk.kp k o hk' h1 h2
  have hne : k ≠ b := by
    intro e
    subst e
    rcases hb.2 with ⟨h3, _⟩ | ⟨g', cap', cur, h3, _, hh, _⟩
    · cases h3
    · cases h3
      rw [hh] at hk2
      cases hk2
      exact h1 rfl
  rw [heap_setCell_other w ⟨b, j, none⟩ k _ (by simpa using hne)]
  exact hk2
theorem PW.some {w : World} {g B : Nat} {bs : List UInt8} {vb vm : Value} (h : PW w g B bs vb vm) (hn : 0 < bs.length) : ∃ b cap, vb = .slice (some ⟨b, 0, none⟩) bs.length cap := by
  rcases h.rb.2 with ⟨rfl, h2⟩ | ⟨g', cap', cur, rfl, _⟩
  · simp at h2; simp [h2] at hn
  · exact ⟨g', cap', rfl⟩
end Go.Proofs.Ytihhchebcojplaa
/- (*writer).record by its contract. -/
namespace Go.Proofs.Ytihhchebcojplaa
open Go.RowKit
set_option linter.unusedVariables false

theorem number_pm (n k : Int) (PB : ByteArray) (hput : ∀ W, Calls Try.prog 67 #[.int .i64 n, .int .i64 k] W fun e w' => e = .returned (.string PB) ∧ Below W.heap.size W w') (g B r : Nat) (bs : List UInt8) (pls : List (ByteArray × Nat)) (vb : Value) (w : World) (h : PM w g B r bs pls vb) (hB : B ≤ w.heap.size) (hl : bs.length + PB.size ≤ 100000000) :
    Calls Try.prog 65 #[.pointer (some ⟨g, 0, none⟩), .int .i64 n, .int .i64 k] w fun e w' => e = .returned (.tuple #[]) ∧ ∃ vb', PM w' g B r (bs ++ PB.data.toList) pls vb' ∧ Bp B w w' := by
  refine (number_w_any n k PB hput g B bs vb _ w h.pw hB hl).mono ?_
  rintro e w' ⟨rfl, vb', h1, h2⟩
  exact ⟨rfl, vb', h.after h1 h2, Bp.ofw h2⟩
theorem number2_pm (n : Nat) (hn : n < 65536) (g B r : Nat) (bs : List UInt8) (pls : List (ByteArray × Nat)) (vb : Value) (w : World) (h : PM w g B r bs pls vb) (hB : B ≤ w.heap.size) (hl : bs.length + 2 ≤ 100000000) :
    Calls Try.prog 65 #[.pointer (some ⟨g, 0, none⟩), .int .i64 (n : Int), .int .i64 2] w fun e w' => e = .returned (.tuple #[]) ∧ ∃ vb', PM w' g B r (bs ++ put2 n) pls vb' ∧ Bp B w w' := by
  have := number_pm (n : Int) 2 ⟨(put2 n).toArray⟩ (fun W => bigBytes2_any n W hn) g B r bs pls vb w h hB (by show bs.length + (put2 n).toArray.size ≤ _; simp [put2]; omega)
  simpa using this
theorem number4_pm (n : Int) (h0 : 0 ≤ n) (h1 : n ≤ 4294967295) (g B r : Nat) (bs : List UInt8) (pls : List (ByteArray × Nat)) (vb : Value) (w : World) (h : PM w g B r bs pls vb) (hB : B ≤ w.heap.size) (hl : bs.length + 4 ≤ 100000000) :
    Calls Try.prog 65 #[.pointer (some ⟨g, 0, none⟩), .int .i64 n, .int .i64 4] w fun e w' => e = .returned (.tuple #[]) ∧ ∃ vb', PM w' g B r (bs ++ put4 n) pls vb' ∧ Bp B w w' := by
  have := number_pm n 4 ⟨(put4 n).toArray⟩ (fun W => bigBytes4_any n W h0 h1) g B r bs pls vb w h hB (by show bs.length + (put4 n).toArray.size ≤ _; simp [put4]; omega)
  simpa using this

set_option maxRecDepth 100000 in
set_option maxHeartbeats 3200000 in
theorem record_w_any (o : ByteArray) (t c : Nat) (tt : Int) (d : ByteArray) (hr : rcOK ⟨o, t, c, tt, d⟩ = true) (g B r : Nat) (bs : List UInt8) (pls : List (ByteArray × Nat)) (vb : Value) (w : World) (h : PM w g B r bs pls vb) (hB : B ≤ w.heap.size) (hl : bs.length + 70000 ≤ 50000000) (hok : PlOK pls bs.length) :
    Calls Try.prog 42 #[.pointer (some ⟨g, 0, none⟩), .agg #[.string o, .int .i64 t, .int .i64 c, .int .i64 tt, .string d]] w fun e w' => e = .returned (.tuple #[]) ∧ ∃ vb', PM w' g B r (rrW ⟨o, t, c, tt, d⟩ (bs, pls)).1 (rrW ⟨o, t, c, tt, d⟩ (bs, pls)).2 vb' ∧ Bp B w w' := by
  obtain ⟨h1, ⟨t', ht, htl⟩, ⟨c', hc, hcl⟩, ht0, ht1, h6, h7⟩ := rc_parts hr
  have ht : (t : Int) = t' := ht
  have hc : (c : Int) = c' := hc
  obtain rfl : t = t' := by omega
  obtain rfl : c = c' := by omega
  simp only at h1 ht0 ht1 h6 h7
  clear ht hc hr
  obtain ⟨ls, hs⟩ := Option.isSome_iff_exists.1 h1
  have hos := name_short h1
  have hal := rrA_len h1 t c tt (bs, pls)
  simp only at hal
  have hao := rrA_ok o t c tt (bs, pls) hok
  have hdl := daW_len h6 (rrA o t c tt (bs, pls))
  rw [show rrW ⟨o, t, c, tt, d⟩ (bs, pls) = rrFin (rrA o t c tt (bs, pls)).1.length (daW t d (rrA o t c tt (bs, pls))) from rfl]
  have hnl := nmW_len ls bs pls (fun x hx => ((Nm.split_join hs).2 x hx).1)
  have hnz := Nm.split_size hs
  have HA1 : Hid ((((((nmW ls bs pls).1 ++ put2 t) ++ put2 c) ++ put4 tt) ++ put2 0) = (rrA o t c tt (bs, pls)).1) := by
    show _ = _
    simp [rrA, nmX_of hs, put2]
  have HA2 : Hid ((nmW ls bs pls).2 = (rrA o t c tt (bs, pls)).2) := by
    show _ = _
    simp [rrA, nmX_of hs]
  generalize rrA o t c tt (bs, pls) = A at *
  have bA := (Below.refl w.heap.size w).alloc (Nat.le_refl _) (.cells #[.string o, .int .i64 t, .int .i64 c, .int .i64 tt, .string d] 66)
  have hblk := blk_new w #[.string o, .int .i64 t, .int .i64 c, .int .i64 tt, .string d] 66
  have hgl : w.heap.size < (w.alloc (.cells #[.string o, .int .i64 t, .int .i64 c, .int .i64 tt, .string d] 66)).heap.size := by simp
  have hnm := name_w_any o ls hs g B r bs pls vb _ (h.below bA) (Nat.le_trans hB bA.size) (by omega) hok
  have hn1 := fun vb W (h : PM W g B r (nmW ls bs pls).1 (nmW ls bs pls).2 vb) (hB : B ≤ W.heap.size) => number2_pm t htl g B r _ _ vb W h hB (by omega)
  have hn2 := fun vb W (h : PM W g B r ((nmW ls bs pls).1 ++ put2 t) (nmW ls bs pls).2 vb) (hB : B ≤ W.heap.size) => number2_pm c hcl g B r _ _ vb W h hB (by simp [put2]; omega)
  have hn3 := fun vb W (h : PM W g B r (((nmW ls bs pls).1 ++ put2 t) ++ put2 c) (nmW ls bs pls).2 vb) (hB : B ≤ W.heap.size) => number4_pm tt ht0 ht1 g B r _ _ vb W h hB (by simp [put2]; omega)
  have hn4 := fun vb W (h : PM W g B r ((((nmW ls bs pls).1 ++ put2 t) ++ put2 c) ++ put4 tt) (nmW ls bs pls).2 vb) (hB : B ≤ W.heap.size) => number2_pm 0 (by decide) g B r _ _ vb W h hB (by simp [put2, put4]; omega)
  rw [HA1.out, show ((0 : Nat) : Int) = 0 from rfl] at hn4
  have hda := fun vb W (h : PM W g B r A.1 A.2 vb) (hB : B ≤ W.heap.size) => data_w_any t d h6 h7 g B r A.1 A.2 vb W h hB (by omega) hao
  rw [show daW t d (A.1, A.2) = daW t d A from rfl] at hda
  generalize daW t d A = D at *
  obtain ⟨RES, HR⟩ : ∃ R, Hid (rrFin A.1.length D = R) := ⟨_, rfl⟩
  rw [HR.out]
  obtain ⟨k, hk⟩ : ∃ k, A.1.length = k + 2 := ⟨A.1.length - 2, by omega⟩
  obtain ⟨n, hn⟩ : ∃ n, D.1.length = k + 2 + n := ⟨D.1.length - (k + 2), by omega⟩
  have hn2' : (n : Int) ≤ 65535 := by omega
  have hkI : (k : Int) ≤ 60000000 := by omega
  have hwk : IntKind.i64.wrap (k : Int) = (k : Int) := wrap_pos k (by omega)
  have hwn : IntKind.i64.wrap (n : Int) = (n : Int) := wrap_pos n (by omega)
  have q1 : (k : Int) + 2 + n - (k + 2) = n := by omega
  have hbb := fun W => bigBytes2_any n W (by omega)
  generalize nmW ls bs pls = N at *
  clear HA1 hs hnl hnz
  go_enter Try.func42, Try.ntmps42
  go_wp2_with first
    | (
      go_at_call 64
      refine hnm.mono ?_
      rintro e w1 ⟨rfl, vb1, hM1, k1⟩
      have hB1 := Nat.le_trans hB (Nat.le_trans bA.size k1.be.size)
      have kb1 := k1.kp _ _ _ hblk (by decide) (by decide)
      have x1 := (blk_cell kb1 1).trans rfl)
    | (
      go_at_call 65
      with_reducible refine (hn1 _ _ hM1 hB1).mono ?_
      rintro e w2 ⟨rfl, vb2, hM2, k2⟩
      have hB2 := Nat.le_trans hB1 k2.be.size
      have kb2 := k2.kp _ _ _ kb1 (by decide) (by decide)
      have x2 := (blk_cell kb2 2).trans rfl)
    | (
      go_at_call 65
      with_reducible refine (hn2 _ _ hM2 hB2).mono ?_
      rintro e w3 ⟨rfl, vb3, hM3, k3⟩
      have hB3 := Nat.le_trans hB2 k3.be.size
      have kb3 := k3.kp _ _ _ kb2 (by decide) (by decide)
      have x3 := (blk_cell kb3 3).trans rfl)
    | (
      go_at_call 65
      with_reducible refine (hn3 _ _ hM3 hB3).mono ?_
      rintro e w4 ⟨rfl, vb4, hM4, k4⟩
      have hB4 := Nat.le_trans hB3 k4.be.size
      have kb4 := k4.kp _ _ _ kb3 (by decide) (by decide))
    | (
      go_at_call 65
      with_reducible refine (hn4 _ _ hM4 hB4).mono ?_
      rintro e w5 ⟨rfl, vb5, hM5, k5⟩
      rw [HA2.out] at hM5
      have hB5 := Nat.le_trans hB4 k5.be.size
      have kb5 := k5.kp _ _ _ kb4 (by decide) (by decide)
      have x51 := (blk_cell kb5 1).trans rfl
      have x54 := (blk_cell kb5 4).trans rfl
      obtain ⟨b5, cap5, hv5⟩ := hM5.pw.some (by omega)
      subst hv5
      have y50 := (blk_cell hM5.pw.blk 0).trans rfl)
    | (
      go_at_call 66
      refine (hda _ _ hM5 hB5).mono ?_
      rintro e w6 ⟨rfl, vb6, hM6, k6⟩
      have hB6 := Nat.le_trans hB5 k6.be.size)
  obtain ⟨b, cap, hv6⟩ := hM6.pw.some (by omega)
  subst hv6
  have hM6p := hM6
  rw [hn] at hM6
  have hrb6 := hM6.pw.rb
  rw [hn] at hrb6
  have c6 : w6.cell? ⟨g, 0, none⟩ = some (.slice (some ⟨b, 0, none⟩) (k + 2 + n) cap) := (blk_cell hM6.pw.blk 0).trans rfl
  have hk6 : Bp B w w6 := (Bp.of bA hB).trans (k1.trans (k2.trans (k3.trans (k4.trans (k5.trans k6)))))
  clear hnm hn1 hn2 hn3 hn4 hda hM1 hM2 hM3 hM4 hM5 kb1 kb2 kb3 kb4 kb5 k1 k2 k3 k4 k5 k6 x1 x2 x3 x51 x54 y50 hblk bA hgl h hB1 hB2 hB3 hB4 hB5
  obtain ⟨hcap, hmx⟩ : k + 2 + n ≤ cap ∧ cap ≤ maxLen := by
    obtain ⟨_, a', cap', e, h1, h2, _⟩ := CRow.of_owns hrb6
    cases e
    exact ⟨h1, h2⟩
  unfold maxLen at hmx
  refine wp_region_held_drew (S := fun W => W.cell? ⟨g, 0, none⟩ = some (.slice (some ⟨b, 0, none⟩) (k + 2 + n) cap)) (by kernel_rfl) c6 (fun hHeld => ?_)
  refine wpAnyH_take (i := 0) (v := ?_) rfl (by kernel_rfl) (by kernel_rfl) (by kernel_rfl) (fun _ _ _ h => h) (Or.inl ⟨by rfl, ?_⟩) (by assumption) ?_
  rotate_left 1
  · (intro w hSw1; go_simp; try (with_reducible rfl))
  refine wpAnyH_take (i := 1) (v := ?_) rfl (by kernel_rfl) (by kernel_rfl) (by kernel_rfl) (fun _ _ _ h => h) (Or.inl ⟨by rfl, ?_⟩) (by assumption) ?_
  rotate_left 1
  · (intro w hSw1; go_simp; try (with_reducible rfl))
  refine wpAnyH_take (i := 2) (v := ?_) rfl (by kernel_rfl) (by kernel_rfl) (by kernel_rfl) (fun _ _ _ h => h) (Or.inl ⟨by rfl, ?_⟩) (by assumption) ?_
  rotate_left 1
  · (intro w hSw1; go_simp; try (with_reducible rfl))
  refine wpAnyH_take (i := 3) (v := ?_) rfl (by kernel_rfl) (by kernel_rfl) (by kernel_rfl) (fun _ _ _ h => h) (Or.inl ⟨by rfl, ?_⟩) (by assumption) ?_
  rotate_left 1
  · (intro w hSw1; go_simp; try (with_reducible rfl))
  refine wpAnyH_take (i := 4) (v := ?_) rfl (by kernel_rfl) (by kernel_rfl) (by kernel_rfl) (fun _ _ _ h => h) (Or.inl ⟨by rfl, ?_⟩) (by assumption) ?_
  rotate_left 1
  · (intro w hSw1; go_simp; try (with_reducible rfl))
  refine wpAnyH_take (i := 5) (v := .int .i64 (k : Int)) rfl (by kernel_rfl) (by kernel_rfl) (by kernel_rfl) (fun _ _ _ h => h) (Or.inl ⟨by rfl, ?_⟩) (by assumption) ?_
  · intro w hSw1
    go_simp
    try rw [hwk]
  have hck : ¬ cap = k := by omega
  refine wpAnyH_take (i := 6) (v := .slice (some ⟨b, k, none⟩) (k + 2 + n - k) (cap - k)) rfl (by kernel_rfl) (by kernel_rfl) (by kernel_rfl) (fun _ _ _ h => h) (Or.inl ⟨by rfl, ?_⟩) (by assumption) ?_
  · intro w hSw1
    go_simp
    try rw [if_neg hck]
    try (intro hx; exfalso; omega)
  refine wpAnyH_take (i := 7) (v := ?_) rfl (by kernel_rfl) (by kernel_rfl) (by kernel_rfl) (fun _ _ _ h => h) (Or.inl ⟨by rfl, ?_⟩) (by assumption) ?_
  rotate_left 1
  · (intro w hSw1; go_simp; try (with_reducible rfl))
  refine wpAnyH_take (i := 8) (v := ?_) rfl (by kernel_rfl) (by kernel_rfl) (by kernel_rfl) (fun _ _ _ h => h) (Or.inl ⟨by rfl, ?_⟩) (by assumption) ?_
  rotate_left 1
  · (intro w hSw1; go_simp; try (with_reducible rfl))
  refine wpAnyH_take (i := 9) (v := ?_) rfl (by kernel_rfl) (by kernel_rfl) (by kernel_rfl) (fun _ _ _ h => h) (Or.inl ⟨by rfl, ?_⟩) (by assumption) ?_
  rotate_left 1
  · (intro w hSw1; go_simp; try (with_reducible rfl))
  refine wpAnyH_take (i := 10) (v := ?_) rfl (by kernel_rfl) (by kernel_rfl) (by kernel_rfl) (fun _ _ _ h => h) (Or.inl ⟨by rfl, ?_⟩) (by assumption) ?_
  rotate_left 1
  · (intro w hSw1; go_simp; try (with_reducible rfl))
  refine wpAnyH_take (i := 11) (v := ?_) rfl (by kernel_rfl) (by kernel_rfl) (by kernel_rfl) (fun _ _ _ h => h) (Or.inl ⟨by rfl, ?_⟩) (by assumption) ?_
  rotate_left 1
  · (intro w hSw1; go_simp; try (with_reducible rfl))
  refine wpAnyH_take (i := 12) (v := ?_) rfl (by kernel_rfl) (by kernel_rfl) (by kernel_rfl) (fun _ _ _ h => h) (Or.inl ⟨by rfl, ?_⟩) (by assumption) ?_
  rotate_left 1
  · (intro w hSw1; go_simp; try (with_reducible rfl))
  refine wpAnyH_take (i := 13) (v := .int .i64 (n : Int)) rfl (by kernel_rfl) (by kernel_rfl) (by kernel_rfl) (fun _ _ _ h => h) (Or.inl ⟨by rfl, ?_⟩) (by assumption) ?_
  · intro w hSw1
    go_simp
    try rw [q1]
    try rw [hwn]
  have hMd := hM6p.below (Below.refl _ _).drew
  refine wpAnyH_ready (rs := [14]) (by kernel_rfl) (by simp) ?_
  refine AllReadyH.cons rfl (fun K hK => ?_) AllReadyH.nil
  go_simp
  refine (hbb _).mono ?_
  rintro e w7 ⟨rfl, hb7⟩
  go_wp2_with fail
  have hM7 := hMd.below hb7
  have hB7 : B ≤ w7.heap.size := Nat.le_trans hB6 hb7.size
  have k7 : Bp B w w7 := hk6.trans ((Bp.of (Below.refl _ _).drew hB6).trans (Bp.of hb7 hB6))
  have hP7 := hM7.pw
  rw [hn] at hP7
  have c7 : w7.cell? ⟨g, 0, none⟩ = some (.slice (some ⟨b, 0, none⟩) (k + 2 + n) cap) := (blk_cell hP7.blk 0).trans rfl
  refine hK.out _ _ c7 (fun _ => ?_)
  clear hK K
  have hS8 := hP7.store hn.symm k (UInt8.ofNat (n / 256))
  have hn8 : (D.1.set k (UInt8.ofNat (n / 256))).length = k + 2 + n := by rw [List.length_set, hn]
  have hS9 := hS8.store hn8.symm (k + 1) (UInt8.ofNat (n % 256))
  have b8 := hP7.storeBw (Bw.refl B w7) k (.int .u8 ((UInt8.ofNat (n / 256)).toNat : Int))
  have b9 := hS8.storeBw b8 (k + 1) (.int .u8 ((UInt8.ofNat (n % 256)).toNat : Int))
  have hM9 := hM7.after hS9 b9
  have c9 := (blk_cell hM9.pw.blk 0).trans rfl
  have hrb7 := hP7.rb
  rw [hn] at hrb7
  obtain ⟨vk, hvk⟩ : ∃ v, (Nm.bys D.1)[k]? = some v := ⟨_, List.getElem?_eq_getElem (by simp [Nm.bys]; omega)⟩
  obtain ⟨vk1, hvk1⟩ : ∃ v, (Nm.bys D.1)[k + 1]? = some v := ⟨_, List.getElem?_eq_getElem (by simp [Nm.bys]; omega)⟩
  have d7 := (hrb7.cellAt k (by omega)).trans hvk
  have d71 := (hrb7.cellAt (k + 1) (by omega)).trans hvk1
  have f7 := hrb7.frozenAt k
  have f71 := hrb7.frozenAt (k + 1)
  refine wpAnyH_ready (rs := [15]) (by kernel_rfl) (by simp) ?_
  refine AllReadyH.cons rfl (fun K hK => ?_) AllReadyH.nil
  refine step_copy_str2 rfl (.tmp 40) (.tmp 48) 22 9 rfl 5 Try.underlying22 (by kernel_rfl) b k (k + 2 + n - k) (cap - k) (by go_simp) ⟨(put2 n).toArray⟩ (by go_simp) (UInt8.ofNat (n / 256)) (UInt8.ofNat (n % 256)) (by simp [put2]) (by omega) (by rw [d7]; rfl) (by rw [d71]; rfl) f7 f71 ?_
  refine hK.out _ _ c9 (fun _ => ?_)
  clear hK K
  refine wpAnyH_done (by kernel_rfl) ?_ _
  have HM : PM ((w7.setCell ⟨b, k, none⟩ (.int .u8 ((UInt8.ofNat (n / 256)).toNat : Int))).setCell ⟨b, k + 1, none⟩ (.int .u8 ((UInt8.ofNat (n % 256)).toNat : Int))) g B r RES.1 RES.2 (.slice (some ⟨b, 0, none⟩) (k + 2 + n) cap) := by
    rw [← HR.out, rrFin, hn, hk, show k + 2 + n - (k + 2) = n by omega, show k + 2 - 2 = k by omega, show k + 2 - 1 = k + 1 by omega]
    exact hM9
  refine bodyPost_end (v := .tuple #[]) ?_ rfl ⟨rfl, _, HM, k7.trans (Bp.ofw b9)⟩
  simp [results, go_sem]
end Go.Proofs.Ytihhchebcojplaa
/- (*writer).head by its contract. -/
namespace Go.Proofs.Ytihhchebcojplaa
open Go.RowKit
set_option linter.unusedVariables false

def flV (l : List (Bool × Nat)) : List Value := l.flatMap fun p => [.bool p.1, .int .i64 ((2 ^ p.2 : Nat) : Int)]
theorem flV_at {l : List (Bool × Nat)} {k : Nat} {x : Bool × Nat} (h : l[k]? = some x) : (flV l)[k * 2]? = some (.bool x.1) ∧ (flV l)[k * 2 + 1]? = some (.int .i64 ((2 ^ x.2 : Nat) : Int)) := by
  induction l generalizing k with
  | nil => simp at h
  | cons y l ih =>
    cases k with
    | zero => simp at h; subst h; simp [flV]
    | succ k =>
      simp at h
      have := ih h
      have e : flV (y :: l) = [.bool y.1, .int .i64 ((2 ^ y.2 : Nat) : Int)] ++ flV l := by simp [flV]
      rw [e, show (k + 1) * 2 = k * 2 + 2 by omega, show k * 2 + 2 + 1 = (k * 2 + 1) + 2 by omega]
      simpa using this

theorem three_new (w : World) (c1 c2 c3 : Array Value) (T1 T2 T3 : TypeId) : Blk (((w.alloc (.cells c1 T1)).alloc (.cells c2 T2)).alloc (.cells c3 T3)) w.heap.size c1 T1 ∧ Blk (((w.alloc (.cells c1 T1)).alloc (.cells c2 T2)).alloc (.cells c3 T3)) (w.heap.size + 1) c2 T2 ∧ Blk (((w.alloc (.cells c1 T1)).alloc (.cells c2 T2)).alloc (.cells c3 T3)) (w.heap.size + 1 + 1) c3 T3 ∧ Below w.heap.size w (((w.alloc (.cells c1 T1)).alloc (.cells c2 T2)).alloc (.cells c3 T3)) := by
  have h1 := blk_new w c1 T1
  have h2 := blk_new (w.alloc (.cells c1 T1)) c2 T2
  have h3 := blk_new ((w.alloc (.cells c1 T1)).alloc (.cells c2 T2)) c3 T3
  have e1 : (w.alloc (.cells c1 T1)).heap.size = w.heap.size + 1 := by simp
  have e2 : ((w.alloc (.cells c1 T1)).alloc (.cells c2 T2)).heap.size = w.heap.size + 1 + 1 := by simp
  rw [e1] at h2
  rw [e2] at h3
  exact ⟨blk_alloc (blk_alloc h1 _) _, blk_alloc h2 _, h3, (((Below.refl _ _).alloc (Nat.le_refl _) _).alloc (by simp) _).alloc (by simp; omega) _⟩
theorem headL_app (id fl c : Nat) (cs : List Nat) : headL id fl cs ++ put2 c = headL id fl (cs ++ [c]) := by simp [headL]
theorem headL_two (id fl : Nat) : ([] ++ put2 id) ++ put2 fl = headL id fl [] := by simp [headL]

set_option maxRecDepth 100000 in
set_option maxHeartbeats 3200000 in
theorem head_w_any (m : Mg) (q a u x : Value) (w : World) (hrow : MRow w m q a u x) (hm : MSmall m) (hhd : hdOK m.hd = true) (hsm : m.qs.length + m.an.length + m.au.length + m.ex.length ≤ 400) (g B r : Nat) (vb : Value) (h : PM w g B r [] [] vb) (hB : B ≤ w.heap.size) :
    Calls Try.prog 63 #[.pointer (some ⟨g, 0, none⟩), .agg (mgV m.hd q a u x)] w fun e w' => e = .returned (.tuple #[]) ∧ ∃ vb', PM w' g B r (hdW m) [] vb' ∧ Bp B w w' := by
  have hla := fun j hj => list_at hrow hm j hj
  have hli := fun W => lists_any (n1 := m.qs.length) (n2 := m.an.length) (n3 := m.au.length) (n4 := m.ex.length) m.hd q a u x W (by obtain ⟨_, b, c, e, _⟩ := hrow.rq; exact ⟨b, c, e⟩) (by obtain ⟨_, b, c, e, _⟩ := hrow.ra; exact ⟨b, c, e⟩) (by obtain ⟨_, b, c, e, _⟩ := hrow.ru; exact ⟨b, c, e⟩) (by obtain ⟨_, b, c, e, _⟩ := hrow.rx; exact ⟨b, c, e⟩)
  have hlsz : ∀ j, j < 3 → (lsOf m j).length ≤ 400 := by
    intro j hj
    rcases j with _ | _ | _ | j <;> simp only [lsOf] <;> omega
  obtain ⟨⟨id, hid, hidl⟩, ⟨op, hop, hopl⟩, ⟨code, hco, hcol⟩⟩ := hd_parts hhd
  have HW : Hid (hdW m = headL id (flN op code (flP m.hd)) ([m.qs.length] ++ [(lsOf m 0).length, (lsOf m 1).length, (lsOf m 2).length])) := by
    show _ = _
    rw [flN_all, hdW, hid, hop, hco]
    rfl
  have hst := flN_step m.hd op code hopl hcol
  have hsk := flN_skip m.hd op code
  have hfi := flN_first op code hopl hcol
  have hFL : flN op code (flP m.hd) < 65536 := by rw [flN_all]; exact flagsS_lt _ _ _ _ _ _ _ _ _ _ hopl hcol
  obtain ⟨RES, HRES⟩ : ∃ R, Hid (hdW m = R) := ⟨_, rfl⟩
  rw [HRES.out]
  rw [HRES.out] at HW
  have hPl : (flP m.hd).length = 8 := rfl
  have hPv : (flV (flP m.hd)).toArray = #[.bool m.hd.qr, .int .i64 32768, .bool m.hd.aa, .int .i64 1024, .bool m.hd.tc, .int .i64 512, .bool m.hd.rd, .int .i64 256, .bool m.hd.ra, .int .i64 128, .bool m.hd.z, .int .i64 64, .bool m.hd.ad, .int .i64 32, .bool m.hd.cd, .int .i64 16] := rfl
  have hql : m.qs.length ≤ 400 := by omega
  obtain ⟨_, qa, qc, rfl, _⟩ := hrow.rq
  obtain ⟨_, aa', ac, rfl, _⟩ := hrow.ra
  obtain ⟨_, ua, uc, rfl, _⟩ := hrow.ru
  obtain ⟨_, xa, xc, rfl, _⟩ := hrow.rx
  clear hrow hhd hm HRES
  generalize flP m.hd = FP at *
  generalize lsOf m = LS at *
  obtain ⟨⟨i0, b1, i2, b3, b4, b5, b6, b7, b8, b9, i10⟩, qs, an, au, ex⟩ := m
  simp only [mgV] at *
  subst hid hop hco
  go_enter Try.func63, Try.ntmps63
  go_wp2
  have hthree := three_new w #[.int .i64 (id : Int), .bool b1, .int .i64 (op : Int), .bool b3, .bool b4, .bool b5, .bool b6, .bool b7, .bool b8, .bool b9, .int .i64 (code : Int), .slice qa qs.length qc, .slice aa' an.length ac, .slice ua au.length uc, .slice xa ex.length xc] #[.int .i64 (id : Int), .bool b1, .int .i64 (op : Int), .bool b3, .bool b4, .bool b5, .bool b6, .bool b7, .bool b8, .bool b9, .int .i64 (code : Int)] #[.bool b1, .int .i64 32768, .bool b3, .int .i64 1024, .bool b4, .int .i64 512, .bool b5, .int .i64 256, .bool b6, .int .i64 128, .bool b7, .int .i64 64, .bool b8, .int .i64 32, .bool b9, .int .i64 16] 29 25 130
  generalize ((w.alloc (.cells #[.int .i64 (id : Int), .bool b1, .int .i64 (op : Int), .bool b3, .bool b4, .bool b5, .bool b6, .bool b7, .bool b8, .bool b9, .int .i64 (code : Int), .slice qa qs.length qc, .slice aa' an.length ac, .slice ua au.length uc, .slice xa ex.length xc] 29)).alloc (.cells #[.int .i64 (id : Int), .bool b1, .int .i64 (op : Int), .bool b3, .bool b4, .bool b5, .bool b6, .bool b7, .bool b8, .bool b9, .int .i64 (code : Int)] 25)).alloc (.cells #[.bool b1, .int .i64 32768, .bool b3, .int .i64 1024, .bool b4, .int .i64 512, .bool b5, .int .i64 256, .bool b6, .int .i64 128, .bool b7, .int .i64 64, .bool b8, .int .i64 32, .bool b9, .int .i64 16] 130) = W0 at *
  obtain ⟨kM0, kH0, kF0, bW0⟩ := hthree
  rw [← hPv] at kF0
  clear hPv hfi
  have i00 : flN op code [] = flN op code (FP.take 0) := by simp
  rw [i00]
  clear i00
  go_loopw [44, 5] (fun i fv wr => ∃ j : Nat, j ≤ 8 ∧ i = .int .i64 j ∧ fv = .int .i64 (flN op code (FP.take j) : Int) ∧ Blk wr w.heap.size #[.int .i64 (id : Int), .bool b1, .int .i64 (op : Int), .bool b3, .bool b4, .bool b5, .bool b6, .bool b7, .bool b8, .bool b9, .int .i64 (code : Int), .slice qa qs.length qc, .slice aa' an.length ac, .slice ua au.length uc, .slice xa ex.length xc] 29 ∧ Blk wr (w.heap.size + 1) #[.int .i64 (id : Int), .bool b1, .int .i64 (op : Int), .bool b3, .bool b4, .bool b5, .bool b6, .bool b7, .bool b8, .bool b9, .int .i64 (code : Int)] 25 ∧ Blk wr (w.heap.size + 1 + 1) (flV FP).toArray 130 ∧ Below w.heap.size w wr) (fun i _ _ => 8 - (intOf i).toNat)
  case atStart => exact ⟨0, by omega, rfl, rfl, kM0, kH0, kF0, bW0⟩
  case round =>
    obtain ⟨j, hj, rfl, rfl, kM, kH, kF, bW⟩ := hrel
    clear kM0 kH0 kF0 bW0
    by_cases hlt : j < 8
    · obtain ⟨⟨on, i⟩, hx⟩ : ∃ x, FP[j]? = some x := ⟨_, List.getElem?_eq_getElem (by omega)⟩
      obtain ⟨v0, v1⟩ := flV_at hx
      have c0 := (blk_cell kF (j * 2)).trans ((List.getElem?_toArray ..).trans v0)
      have c1 := (blk_cell kF (j * 2 + 1)).trans ((List.getElem?_toArray ..).trans v1)
      simp only at c0 c1
      have hsti : on = true → bits .or .i64 (flN op code (FP.take j) : Int) ((2 ^ i : Nat) : Int) = (flN op code (FP.take (j + 1)) : Int) := fun e => hst j i (by rw [hx, e])
      have hski : on = false → flN op code (FP.take (j + 1)) = flN op code (FP.take j) := fun e => hsk j i (by rw [hx, e])
      have i1 : (j : Int) < 8 := by omega
      have i2 : (0 : Int) ≤ (j : Int) := by omega
      clear v0 v1 hx hst hsk
      generalize (2 ^ i : Nat) = P at *
      have bA := bW.alloc bW.size (.cells #[.bool on, .int .i64 (P : Int)] 130)
      have kM1 := blk_alloc kM (.cells #[.bool on, .int .i64 (P : Int)] 130)
      have kH1 := blk_alloc kH (.cells #[.bool on, .int .i64 (P : Int)] 130)
      have kF1 := blk_alloc kF (.cells #[.bool on, .int .i64 (P : Int)] 130)
      cases on with
      | false =>
        have hF := hski rfl
        clear hsti hski
        go_wp2
        go_roundw
        case rel => exact ⟨j + 1, by omega, by go_num, by rw [hF], kM1, kH1, kF1, bA⟩
        case measure => simp [intOf]; omega
      | true =>
        have hF := hsti rfl
        clear hsti hski
        go_wp2
        go_roundw
        case rel => exact ⟨j + 1, by omega, by go_num, by rw [← hF], kM1, kH1, kF1, bA⟩
        case measure => simp [intOf]; omega
    · obtain rfl : j = 8 := by omega
      have hT : FP.take 8 = FP := List.take_of_length_le (by omega)
      rw [hT]
      clear hT
      have hM := h.below bW
      have hBr : B ≤ wr.heap.size := Nat.le_trans hB bW.size
      have kW : Bp B w wr := Bp.of bW hB
      clear hst hsk kF bW h
      have hn1 := number2_pm id hidl g B r [] [] vb wr hM hBr (by simp)
      have hn2 := fun vb W (h : PM W g B r ([] ++ put2 id) [] vb) (hB : B ≤ W.heap.size) => number2_pm (flN op code FP) hFL g B r _ _ vb W h hB (by simp [put2])
      rw [headL_two] at hn2
      have hn3 := fun vb W (h : PM W g B r (headL id (flN op code FP) []) [] vb) (hB : B ≤ W.heap.size) => number2_pm qs.length (by omega) g B r _ _ vb W h hB (by rw [headL_len]; simp)
      rw [headL_app, List.nil_append] at hn3
      generalize flN op code FP = FL at *
      have x0 := (blk_cell kH 0).trans rfl
      go_wp2_with first
        | (
          go_at_call 65
          with_reducible refine hn1.mono ?_
          rintro e w1 ⟨rfl, vb1, hM1, k1⟩
          have hB1 := Nat.le_trans hBr k1.be.size
          have kM1 := k1.kp _ _ _ kM (by decide) (by decide))
        | (
          go_at_call 65
          with_reducible refine (hn2 _ _ hM1 hB1).mono ?_
          rintro e w2 ⟨rfl, vb2, hM2, k2⟩
          have hB2 := Nat.le_trans hB1 k2.be.size
          have kM2 := k2.kp _ _ _ kM1 (by decide) (by decide)
          have x2 := (blk_cell kM2 11).trans rfl)
        | (
          go_at_call 65
          with_reducible refine (hn3 _ _ hM2 hB2).mono ?_
          rintro e w3 ⟨rfl, vb3, hM3, k3⟩
          have hB3 := Nat.le_trans hB2 k3.be.size
          have kM3 := k3.kp _ _ _ kM2 (by decide) (by decide)
          have z0 := (blk_cell kM3 0).trans rfl
          have z1 := (blk_cell kM3 1).trans rfl
          have z2 := (blk_cell kM3 2).trans rfl
          have z3 := (blk_cell kM3 3).trans rfl
          have z4 := (blk_cell kM3 4).trans rfl
          have z5 := (blk_cell kM3 5).trans rfl
          have z6 := (blk_cell kM3 6).trans rfl
          have z7 := (blk_cell kM3 7).trans rfl
          have z8 := (blk_cell kM3 8).trans rfl
          have z9 := (blk_cell kM3 9).trans rfl
          have z10 := (blk_cell kM3 10).trans rfl
          have z11 := (blk_cell kM3 11).trans rfl
          have z12 := (blk_cell kM3 12).trans rfl
          have z13 := (blk_cell kM3 13).trans rfl
          have z14 := (blk_cell kM3 14).trans rfl)
        | (
          go_at_call 39
          refine (hli _).mono ?_
          rintro e w4 ⟨rfl, hb4⟩)
      have hM4 := hM3.below hb4
      have hB4 : B ≤ w4.heap.size := Nat.le_trans hB3 hb4.size
      have k4 : Bp B w w4 := kW.trans (k1.trans (k2.trans (k3.trans (Bp.of hb4 hB3))))
      have hM5 : PM w4 g B r (headL id FL ([qs.length] ++ [(LS 0).length, (LS 1).length, (LS 2).length].take 0)) [] vb3 := hM4
      clear hn1 hn2 hn3 hM1 hM2 hM3 hM4 kM kM1 kM2 kM3 kH k1 k2 k3 kW hb4 z0 z1 z2 z3 z4 z5 z6 z7 z8 z9 z10 z11 z12 z13 z14 x0 x2 hM hli
      have hlen : ∀ j, j < 3 → [qs.length] ++ [(LS 0).length, (LS 1).length, (LS 2).length].take (j + 1) = ([qs.length] ++ [(LS 0).length, (LS 1).length, (LS 2).length].take j) ++ [(LS j).length] := by
        intro j hj
        rcases j with _ | _ | _ | j
        · rfl
        · rfl
        · rfl
        · omega
      go_loopw [69] (fun i wr => ∃ (j : Nat) (vb' : Value), j ≤ 3 ∧ i = .int .i64 j ∧ PM wr g B r (headL id FL ([qs.length] ++ [(LS 0).length, (LS 1).length, (LS 2).length].take j)) [] vb' ∧ B ≤ wr.heap.size ∧ Bp B w wr) (fun i _ => 3 - (intOf i).toNat)
      case atStart => exact ⟨0, vb3, by omega, rfl, hM5, hB4, k4⟩
      case round =>
        obtain ⟨j, vb', hj, rfl, hM, hBr2, hbel⟩ := hrel
        clear hM5 hB4 k4
        by_cases hlt : j < 3
        · obtain ⟨la, lc, hrw, _, _, hidx⟩ := hla j hlt
          have hll := hlsz j hlt
          have hnn := number2_pm (LS j).length (by omega) g B r _ [] vb' wr hM hBr2 (by rw [headL_len]; simp; omega)
          rw [headL_app, ← hlen j hlt] at hnn
          have i1 : (j : Int) < 3 := by omega
          clear hla hlsz hrw hlen
          generalize (LS j).length = LJ at *
          go_wp2_with (
            go_at_call 65
            refine hnn.mono ?_
            rintro e w5 ⟨rfl, vb5, hM5, k5⟩)
          go_roundw
          case rel => exact ⟨j + 1, vb5, by omega, by go_num, hM5, Nat.le_trans hBr2 k5.be.size, hbel.trans k5⟩
          case measure => simp [intOf]; omega
        · obtain rfl : j = 3 := by omega
          rw [show [(LS 0).length, (LS 1).length, (LS 2).length].take 3 = [(LS 0).length, (LS 1).length, (LS 2).length] from rfl, ← HW.out] at hM
          clear hla hlsz hlen
          go_wp2
          refine bodyPost_end (v := .tuple #[]) ?_ rfl ⟨rfl, _, hM, hbel⟩
          simp [results, go_sem]
end Go.Proofs.Ytihhchebcojplaa
