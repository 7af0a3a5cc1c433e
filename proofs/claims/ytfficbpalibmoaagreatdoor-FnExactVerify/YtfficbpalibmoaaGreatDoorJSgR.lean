import Derived.Test.YtfficbpalibmoaaGreatDoorJOwnT
import Derived.Test.YtfficbpalibmoaaGreatDoorJJoin
/- (impl.signature).record by its contract. -/
namespace Go.Proofs.YtfficbpalibmoaaGreatDoor
open Go.RowKit
set_option linter.unusedVariables false

/-- a signature's cells -/
def sgC (nm : ByteArray) (t f : Nat) (sum : List UInt8) (id : Nat) : List Value := .string nm :: .int .i64 (t : Int) :: .int .i64 (f : Int) :: (Nm.bys sum ++ [.int .i64 (id : Int)])
def sgA (nm : ByteArray) (t f : Nat) (sum : List UInt8) (id : Nat) : Array Value := (sgC nm t f sum id).toArray
theorem sgA_size {nm : ByteArray} {t f id : Nat} {sum : List UInt8} (h : sum.length = 32) : (sgA nm t f sum id).size = 36 := by simp [sgA, sgC, Nm.bys_length, h]
theorem sgA_0 {nm : ByteArray} {t f id : Nat} {sum : List UInt8} : (sgA nm t f sum id)[0]? = some (.string nm) := by simp [sgA, sgC]
theorem sgA_1 {nm : ByteArray} {t f id : Nat} {sum : List UInt8} : (sgA nm t f sum id)[1]? = some (.int .i64 (t : Int)) := by simp [sgA, sgC]
theorem sgA_2 {nm : ByteArray} {t f id : Nat} {sum : List UInt8} : (sgA nm t f sum id)[2]? = some (.int .i64 (f : Int)) := by simp [sgA, sgC]
theorem sgA_35 {nm : ByteArray} {t f id : Nat} {sum : List UInt8} (h : sum.length = 32) : (sgA nm t f sum id)[35]? = some (.int .i64 (id : Int)) := by
  simp only [sgA, sgC, List.getElem?_toArray]
  show (Nm.bys sum ++ [.int .i64 (id : Int)])[32]? = _
  rw [List.getElem?_append_right (by rw [Nm.bys_length]; omega), Nm.bys_length, h]
  rfl
theorem sgA_sum {nm : ByteArray} {t f id i : Nat} {sum : List UInt8} {x : Value} (h : (Nm.bys sum)[i]? = some x) : (sgA nm t f sum id)[3 + i]? = some x := by
  simp only [sgA, sgC, List.getElem?_toArray]
  rw [show 3 + i = i + 1 + 1 + 1 by omega, List.getElem?_cons_succ, List.getElem?_cons_succ, List.getElem?_cons_succ, List.getElem?_append_left (List.getElem?_eq_some_iff.1 h).1]
  exact h

/-- the sum within a signature is read as text -/
theorem sum_str {w : World} {g : Nat} {nm : ByteArray} {t f id : Nat} {sum : List UInt8} {T : TypeId} (h : Blk w g (sgA nm t f sum id) T) (hs : sum.length = 32) : (convert 22 9 (.slice (some ⟨g, 3, none⟩) 32 32)).run Tryz.prog w = .ok (.string ⟨sum.toArray⟩) w := by
  refine row_strB (n := 32) ⟨by rw [Nm.bys_length, hs], _, _, rfl, Nat.le_refl _, by unfold maxLen; omega, fun _ => ⟨g, 3, rfl, fun i x hx => ?_⟩⟩
  rw [blk_cell h]
  exact sgA_sum hx

theorem cat_ex (x y : List UInt8) (X Y : ByteArray) (hX : X = ⟨x.toArray⟩) (hY : Y = ⟨y.toArray⟩) (hb : x.length + y.length ≤ 100000000) : ∃ C, (∀ W, (Go.Op.stringOp .add X Y).run Tryz.prog W = .ok (.string C) W) ∧ C = ⟨(x ++ y).toArray⟩ := by
  subst hX
  subst hY
  refine ⟨_, fun W => run_string_add_sum W _ _ (by rw [ba_size, ba_size]; omega), ba_cat x y⟩

/-- A struct or an array handed back. -/
theorem run_results_row {P : Program} {fn : Func} {tmps : Array Value} {w : World} {r : Nat} {t : TypeId} {p : Nat} {cs : Array Value} {d : TypeDesc} (hf : fn.results = #[.cell r t]) (ht : tmps[r]?.getD undef = .pointer (some ⟨p, 0, none⟩)) (hk : Blk w p cs t)
    (hu : P.underlying t = some d) (hd : (match d with | .struct _ | .array _ _ => true | _ => false) = true) (hi : (P.info? t).map (·.size) = some cs.size) : (results fn tmps).run P w = .ok (.agg cs) w := by
  have hl := run_loadVar_row w p t t cs (0, 0) d hk hu hd hi
  simp [results, hf, ht, asAddr, hl]

set_option maxRecDepth 100000 in
set_option maxHeartbeats 3200000 in
theorem record_any (nm : ByteArray) (t f id : Nat) (sum : List UInt8) (hs : sum.length = 32) (ht : t ≤ 281474976710655) (hf : f ≤ 65535) (hi : id ≤ 65535) (w : World) :
    Calls Tryz.prog 71 #[.agg (sgA nm t f sum id)] w fun e w' => e = .returned (.agg #[.string nm, .int .i64 250, .int .i64 255, .int .i64 0, .string ⟨(datL t f sum id).toArray⟩]) ∧ Below w.heap.size w w' := by
  have hz5 : ∀ W, (zeroValue 54).run Tryz.prog W = .ok (.agg #[.string ByteArray.empty, .int .i64 0, .int .i64 0, .int .i64 0, .string ByteArray.empty]) W := by
    have := zero_of_info (P := Tryz.prog) (t := 54) (v := .agg #[.string ByteArray.empty, .int .i64 0, .int .i64 0, .int .i64 0, .string ByteArray.empty]) (n := 5) (by kernel_rfl)
    exact this.1
  have h6 : ∀ W, Calls Tryz.prog 54 #[.int .i64 (t : Int), .int .i64 6] W fun e w' => e = .returned (.string ⟨(bigL t 6).toArray⟩) ∧ Below W.heap.size W w' := fun W => bigBytesN_any t 6 W (by omega) (by decide) (by decide)
  have h2 : ∀ W, Calls Tryz.prog 54 #[.int .i64 (f : Int), .int .i64 2] W fun e w' => e = .returned (.string ⟨(bigL f 2).toArray⟩) ∧ Below W.heap.size W w' := fun W => bigBytesN_any f 2 W (by omega) (by decide) (by decide)
  have h3 : ∀ W, Calls Tryz.prog 54 #[.int .i64 32, .int .i64 2] W fun e w' => e = .returned (.string ⟨(bigL 32 2).toArray⟩) ∧ Below W.heap.size W w' := fun W => bigBytesN_any 32 2 W (by omega) (by decide) (by decide)
  have h4 : ∀ W, Calls Tryz.prog 54 #[.int .i64 (id : Int), .int .i64 2] W fun e w' => e = .returned (.string ⟨(bigL id 2).toArray⟩) ∧ Below W.heap.size W w' := fun W => bigBytesN_any id 2 W (by omega) (by decide) (by decide)
  obtain ⟨C7, a7, e7⟩ := cat_ex algL (bigL t 6) ⟨#[11, 104, 109, 97, 99, 45, 115, 104, 97, 50, 53, 54, 0]⟩ ⟨(bigL t 6).toArray⟩ rfl rfl (by simp [big_len])
  obtain ⟨C11, a11, e11⟩ := cat_ex _ (bigL f 2) C7 ⟨(bigL f 2).toArray⟩ e7 rfl (by simp [big_len])
  obtain ⟨C13, a13, e13⟩ := cat_ex _ (bigL 32 2) C11 ⟨(bigL 32 2).toArray⟩ e11 rfl (by simp [big_len])
  obtain ⟨C17, a17, e17⟩ := cat_ex _ sum C13 ⟨sum.toArray⟩ e13 rfl (by simp [big_len, hs])
  obtain ⟨C21, a21, e21⟩ := cat_ex _ (bigL id 2) C17 ⟨(bigL id 2).toArray⟩ e17 rfl (by simp [big_len, hs])
  obtain ⟨C22, a22, e22⟩ := cat_ex _ [0, 0, 0, 0] C21 ⟨#[0, 0, 0, 0]⟩ e21 rfl (by simp [big_len, hs])
  have HD : Hid ((⟨(datL t f sum id).toArray⟩ : ByteArray) = C22) := e22.symm
  rw [HD.out]
  clear e7 e11 e13 e17 e21 e22 HD
  have k0 := blk_alloc (blk_new w (sgA nm t f sum id) 68) (.cells #[.string ByteArray.empty, .int .i64 0, .int .i64 0, .int .i64 0, .string ByteArray.empty] 54)
  have hB0 := (Below.refl w.heap.size w).alloc (Nat.le_refl _) (.cells (sgA nm t f sum id) 68)
  have hB1 := hB0.alloc hB0.size (.cells #[.string ByteArray.empty, .int .i64 0, .int .i64 0, .int .i64 0, .string ByteArray.empty] 54)
  have kR := blk_new (w.alloc (.cells (sgA nm t f sum id) 68)) #[.string ByteArray.empty, .int .i64 0, .int .i64 0, .int .i64 0, .string ByteArray.empty] 54
  rw [World.size_alloc] at kR
  obtain ⟨W1, hW1⟩ : ∃ W1, W1 = (w.alloc (.cells (sgA nm t f sum id) 68)).alloc (.cells #[.string ByteArray.empty, .int .i64 0, .int .i64 0, .int .i64 0, .string ByteArray.empty] 54) := ⟨_, rfl⟩
  rw [← hW1] at k0 hB1 kR
  have hS : ∀ W, Below W1.heap.size W1 W → (W.cell? ⟨w.heap.size, 1, none⟩ = some (.int .i64 (t : Int)) ∧ W.cell? ⟨w.heap.size, 2, none⟩ = some (.int .i64 (f : Int)) ∧ W.cell? ⟨w.heap.size, 35, none⟩ = some (.int .i64 (id : Int)) ∧ (convert 22 9 (.slice (some ⟨w.heap.size, 3, none⟩) 32 32)).run Tryz.prog W = .ok (.string ⟨sum.toArray⟩) W) ∧ True := by
    intro W hW
    have k := blk_below k0 hW
    exact ⟨⟨(blk_cell k 1).trans sgA_1, (blk_cell k 2).trans sgA_2, (blk_cell k 35).trans (sgA_35 hs), sum_str k hs⟩, trivial⟩
  have hS0 := hS W1.drew (Below.refl _ _).drew
  have hbl := (Below.refl W1.heap.size W1).drew
  generalize (⟨(bigL t 6).toArray⟩ : ByteArray) = B6 at *
  generalize (⟨(bigL f 2).toArray⟩ : ByteArray) = BF at *
  generalize (⟨(bigL 32 2).toArray⟩ : ByteArray) = B3 at *
  generalize (⟨(bigL id 2).toArray⟩ : ByteArray) = BI at *
  generalize (⟨sum.toArray⟩ : ByteArray) = SM at *
  clear ht hf hi
  go_enter Tryz.func71, Tryz.ntmps71
  go_wp2
  rw [← hW1]
  clear hW1
  refine wp_region_last (S := fun W => (W.cell? ⟨w.heap.size, 1, none⟩ = some (.int .i64 (t : Int)) ∧ W.cell? ⟨w.heap.size, 2, none⟩ = some (.int .i64 (f : Int)) ∧ W.cell? ⟨w.heap.size, 35, none⟩ = some (.int .i64 (id : Int)) ∧ (convert 22 9 (.slice (some ⟨w.heap.size, 3, none⟩) 32 32)).run Tryz.prog W = .ok (.string SM) W) ∧ True) (L := 1000) (by kernel_rfl) hS0 (fun hH => ?_)
  clear hS0
  refine wpAnyL_take (i := 0) (v := ?_) rfl (by kernel_rfl) (by kernel_rfl) (by kernel_rfl) (by kernel_rfl) (fun _ _ _ h => h) (Or.inl ⟨by rfl, ?_⟩) (by assumption) ?_
  rotate_left 1
  · (intro w hSw; go_simp; try (with_reducible rfl))
  refine wpAnyL_take (i := 1) (v := ?_) rfl (by kernel_rfl) (by kernel_rfl) (by kernel_rfl) (by kernel_rfl) (fun _ _ _ h => h) (Or.inl ⟨by rfl, ?_⟩) (by assumption) ?_
  rotate_left 1
  · (intro w hSw; go_simp; try (with_reducible rfl))
  refine wpAnyL_take (i := 4) (v := ?_) rfl (by kernel_rfl) (by kernel_rfl) (by kernel_rfl) (by kernel_rfl) (fun _ _ _ h => h) (Or.inl ⟨by rfl, ?_⟩) (by assumption) ?_
  rotate_left 1
  · (intro w hSw; go_simp; try (with_reducible rfl))
  refine wpAnyL_take (i := 5) (v := ?_) rfl (by kernel_rfl) (by kernel_rfl) (by kernel_rfl) (by kernel_rfl) (fun _ _ _ h => h) (Or.inl ⟨by rfl, ?_⟩) (by assumption) ?_
  rotate_left 1
  · (intro w hSw; go_simp; try (with_reducible rfl))
  refine wpAnyL_take (i := 10) (v := ?_) rfl (by kernel_rfl) (by kernel_rfl) (by kernel_rfl) (by kernel_rfl) (fun _ _ _ h => h) (Or.inl ⟨by rfl, ?_⟩) (by assumption) ?_
  rotate_left 1
  · (intro w hSw; go_simp; try (with_reducible rfl))
  refine wpAnyL_take (i := 11) (v := ?_) rfl (by kernel_rfl) (by kernel_rfl) (by kernel_rfl) (by kernel_rfl) (fun _ _ _ h => h) (Or.inl ⟨by rfl, ?_⟩) (by assumption) ?_
  rotate_left 1
  · (intro w hSw; go_simp; try (with_reducible rfl))
  refine wpAnyL_take (i := 12) (v := ?_) rfl (by kernel_rfl) (by kernel_rfl) (by kernel_rfl) (by kernel_rfl) (fun _ _ _ h => h) (Or.inl ⟨by rfl, ?_⟩) (by assumption) ?_
  rotate_left 1
  · (intro w hSw; go_simp; try (with_reducible rfl))
  refine wpAnyL_take (i := 14) (v := ?_) rfl (by kernel_rfl) (by kernel_rfl) (by kernel_rfl) (by kernel_rfl) (fun _ _ _ h => h) (Or.inl ⟨by rfl, ?_⟩) (by assumption) ?_
  rotate_left 1
  · (intro w hSw; go_simp; try (with_reducible rfl))
  refine wpAnyL_take (i := 15) (v := ?_) rfl (by kernel_rfl) (by kernel_rfl) (by kernel_rfl) (by kernel_rfl) (fun _ _ _ h => h) (Or.inl ⟨by rfl, ?_⟩) (by assumption) ?_
  rotate_left 1
  · (intro w hSw; go_simp; try (with_reducible rfl))
  refine wpAnyL_one (i := 2) (by kernel_rfl) rfl (fun K hK => ?_)
  go_simp
  refine (h6 _).mono ?_
  rintro e w3 ⟨rfl, hb3⟩
  have hb4 := Nm.below_two hbl hb3
  clear hbl hb3
  have hbl := hb4
  clear hb4
  go_wp2_with fail
  refine hK.out _ _ (hS _ hbl) (fun hH => ?_)
  clear hK K
  refine wpAnyL_take (i := 3) (v := ?_) rfl (by kernel_rfl) (by kernel_rfl) (by kernel_rfl) (by kernel_rfl) (fun _ _ _ h => h) (Or.inl ⟨by rfl, ?_⟩) (by assumption) ?_
  rotate_left 1
  · (intro w hSw; go_simp; try (with_reducible rfl))
  refine wpAnyL_one (i := 6) (by kernel_rfl) rfl (fun K hK => ?_)
  go_simp
  refine (h2 _).mono ?_
  rintro e w3 ⟨rfl, hb3⟩
  have hb4 := Nm.below_two hbl hb3
  clear hbl hb3
  have hbl := hb4
  clear hb4
  go_wp2_with fail
  refine hK.out _ _ (hS _ hbl) (fun hH => ?_)
  clear hK K
  refine wpAnyL_take (i := 7) (v := ?_) rfl (by kernel_rfl) (by kernel_rfl) (by kernel_rfl) (by kernel_rfl) (fun _ _ _ h => h) (Or.inl ⟨by rfl, ?_⟩) (by assumption) ?_
  rotate_left 1
  · (intro w hSw; go_simp; try (with_reducible rfl))
  refine wpAnyL_one (i := 8) (by kernel_rfl) rfl (fun K hK => ?_)
  go_simp
  refine (h3 _).mono ?_
  rintro e w3 ⟨rfl, hb3⟩
  have hb4 := Nm.below_two hbl hb3
  clear hbl hb3
  have hbl := hb4
  clear hb4
  go_wp2_with fail
  refine hK.out _ _ (hS _ hbl) (fun hH => ?_)
  clear hK K
  refine wpAnyL_take (i := 9) (v := ?_) rfl (by kernel_rfl) (by kernel_rfl) (by kernel_rfl) (by kernel_rfl) (fun _ _ _ h => h) (Or.inl ⟨by rfl, ?_⟩) (by assumption) ?_
  rotate_left 1
  · (intro w hSw; go_simp; try (with_reducible rfl))
  refine wpAnyL_take (i := 13) (v := ?_) rfl (by kernel_rfl) (by kernel_rfl) (by kernel_rfl) (by kernel_rfl) (fun _ _ _ h => h) (Or.inl ⟨by rfl, ?_⟩) (by assumption) ?_
  rotate_left 1
  · (intro w hSw; go_simp; try (with_reducible rfl))
  refine wpAnyL_one (i := 16) (by kernel_rfl) rfl (fun K hK => ?_)
  go_simp
  refine (h4 _).mono ?_
  rintro e w3 ⟨rfl, hb3⟩
  have hb4 := Nm.below_two hbl hb3
  clear hbl hb3
  have hbl := hb4
  clear hb4
  go_wp2_with fail
  refine hK.out _ _ (hS _ hbl) (fun hH => ?_)
  clear hK K
  refine wpAnyL_take (i := 17) (v := ?_) rfl (by kernel_rfl) (by kernel_rfl) (by kernel_rfl) (by kernel_rfl) (fun _ _ _ h => h) (Or.inl ⟨by rfl, ?_⟩) (by assumption) ?_
  rotate_left 1
  · (intro w hSw; go_simp; try (with_reducible rfl))
  refine wpAnyL_take (i := 18) (v := ?_) rfl (by kernel_rfl) (by kernel_rfl) (by kernel_rfl) (by kernel_rfl) (fun _ _ _ h => h) (Or.inl ⟨by rfl, ?_⟩) (by assumption) ?_
  rotate_left 1
  · (intro w hSw; go_simp; try (with_reducible rfl))
  refine wpAnyL_take (i := 19) (v := ?_) rfl (by kernel_rfl) (by kernel_rfl) (by kernel_rfl) (by kernel_rfl) (fun _ _ _ h => h) (Or.inl ⟨by rfl, ?_⟩) (by assumption) ?_
  rotate_left 1
  · (intro w hSw; go_simp; try (with_reducible rfl))
  refine wpAnyL_done (by kernel_rfl) ?_
  have k1 := blk_below k0 hbl
  have kR1 := blk_below kR hbl
  have hBB := Nm.below_two hB1 hbl
  have hsz := hBB.size
  have q0 := (blk_cell k1 0).trans sgA_0
  clear hS a7 a11 a13 a17 a21 a22 h6 h2 h3 h4 hH
  go_wp2_with (refine wpList_store_blk (.tmp 2) (.tmp 26) 54 rfl rfl rfl (w.heap.size + 1) _ _ kR1 rfl rfl (by kernel_rfl) rfl (by kernel_rfl) ?_; intro w9 k9 o9)
  have hb9 := o9.below hBB (by omega) hsz
  exact bodyPost_ret (v := .agg _) (run_results_row Tryz.results71 rfl k9 Tryz.underlying54 (by kernel_rfl) (by kernel_rfl)) rfl ⟨rfl, hb9⟩
end Go.Proofs.YtfficbpalibmoaaGreatDoor
/- impl.turn by its contract. -/
namespace Go.Proofs.YtfficbpalibmoaaGreatDoor
open Go.RowKit
set_option linter.unusedVariables false

theorem and31 {n : Nat} (h1 : 1 ≤ n) (h2 : n ≤ 31) : bits .and .u64 (IntKind.u64.wrap (-(n : Int))) 31 = ((32 - n : Nat) : Int) := by
  have e : ∀ k : Fin 31, bits .and .u64 (IntKind.u64.wrap (-((k.val + 1 : Nat) : Int))) 31 = ((32 - (k.val + 1) : Nat) : Int) := by decide
  have := e ⟨n - 1, by omega⟩
  rw [show n - 1 + 1 = n by omega] at this
  exact this
set_option maxRecDepth 100000 in
set_option maxHeartbeats 1600000 in
theorem rot_any (x : Wd) (n m : Nat) (h1 : 1 ≤ n) (hm : Hid (m = 32 - n)) (m1 : 1 ≤ m) (m2 : m ≤ 31) (w : World) :
    Calls Tryz.prog 109 #[.int .u32 (x.toNat : Int), .int .i64 (-(n : Int))] w fun e w' => e = .returned (.int .u32 ((turnW x n).toNat : Int)) ∧ w' = w := by
  have hx := x.isLt
  have hb : bits .and .u64 (IntKind.u64.wrap (-(n : Int))) 31 = (m : Int) := by rw [hm.out]; exact and31 h1 (by have := hm.out; omega)
  have i1 : (0 : Int) ≤ (m : Int) := by omega
  have i2 : (m : Int) ≤ 31 := by omega
  go_enter Tryz.func109, Tryz.ntmps109
  go_wp2
  go_ret
  refine ⟨?_, rfl⟩
  have e1 : 32 - m = n := by have := hm.out; omega
  have e2 : 32 - n = m := by have := hm.out; omega
  rw [turnW, BitVec.or_comm, ← w_or, e2, ← w_shr, ← w_shl]
  first | rfl | (rw [← e1]; rfl)
set_option maxRecDepth 100000 in
set_option maxHeartbeats 1600000 in
theorem turn_any (x : Wd) (n : Nat) (h1 : 1 ≤ n) (h2 : n ≤ 31) (w : World) :
    Calls Tryz.prog 108 #[.int .u32 (x.toNat : Int), .int .i64 (n : Int)] w fun e w' => e = .returned (.int .u32 ((turnW x n).toNat : Int)) ∧ w' = w := by
  have i1 : (0 : Int) ≤ (n : Int) := by omega
  have i2 : (n : Int) ≤ 31 := by omega
  have hr := rot_any x n (32 - n) h1 rfl (by omega) (by omega) w
  go_enter Tryz.func108, Tryz.ntmps108
  go_wp2_with (first | (go_at_call 109; refine hr.mono ?_; rintro e wv ⟨rfl, rfl⟩))
  go_ret
  exact ⟨rfl, rfl⟩
end Go.Proofs.YtfficbpalibmoaaGreatDoor
