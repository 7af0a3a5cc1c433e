import Derived.Test.YtmclegfejkoaoaaDoorJShL8
import Derived.Test.YtmclegfejkoaoaaDoorOrdM
import Derived.Test.YtmclegfejkoaoaaDoorJOwnT
/- (impl.signature).record and bytes by their contracts. -/
namespace Go.Proofs.YtmclegfejkoaoaaDoor
open Go.RowKit
set_option linter.unusedVariables false

/-- a signature's cells -/
def sgC (nm : ByteArray) (t f : Nat) (sum : List UInt8) (id : Nat) : List Value := .string nm :: .int .i64 (t : Int) :: .int .i64 (f : Int) :: (Nm.bys sum ++ [.int .i64 (id : Int)])
def sgA (nm : ByteArray) (t f : Nat) (sum : List UInt8) (id : Nat) : Array Value := (sgC nm t f sum id).toArray
theorem sgA_size {nm : ByteArray} {t f id : Nat} {sum : List UInt8} (h : sum.length = 32) : (sgA nm t f sum id).size = 36 := by simp [sgA, sgC, Nm.bys_length, h]
theorem sgA_0 {nm : ByteArray} {t f id : Nat} {sum : List UInt8} : (sgA nm t f sum id)[0]? = some (.string nm) := by simp [sgA, sgC]
theorem sgA_1 {nm : ByteArray} {t f id : Nat} {sum : List UInt8} : (sgA nm t f sum id)[1]? = some (.int .i64 (t : Int)) := by simp [sgA, sgC]
theorem sgA_2 {nm : ByteArray} {t f id : Nat} {sum : List UInt8} : (sgA nm t f sum id)[2]? = some (.int .i64 (f : Int)) := by simp [sgA, sgC]
theorem sgA_35 {nm : ByteArray} {t f id : Nat} {sum : List UInt8} (h : sum.length = 32) : (sgA nm t f sum id)[35]? = some (.int .i64 (id : Int)) := by
  simp only [sgA, sgC, List.getElem?_toArray]
  show (Nm.bys sum ++ [.int .i64 (id : Int)])[32]? = _
  rw [List.getElem?_append_right (by rw [Nm.bys_length]; omega), Nm.bys_length, h]
  rfl
theorem sgA_sum {nm : ByteArray} {t f id i : Nat} {sum : List UInt8} {x : Value} (h : (Nm.bys sum)[i]? = some x) : (sgA nm t f sum id)[3 + i]? = some x := by
  simp only [sgA, sgC, List.getElem?_toArray]
  rw [show 3 + i = i + 1 + 1 + 1 by omega, List.getElem?_cons_succ, List.getElem?_cons_succ, List.getElem?_cons_succ, List.getElem?_append_left (List.getElem?_eq_some_iff.1 h).1]
  exact h

/-- the sum within a signature is read as text -/
theorem sum_str {w : World} {g : Nat} {nm : ByteArray} {t f id : Nat} {sum : List UInt8} {T : TypeId} (h : Blk w g (sgA nm t f sum id) T) (hs : sum.length = 32) : (convert 22 9 (.slice (some ⟨g, 3, none⟩) 32 32)).run Tryd.prog w = .ok (.string ⟨sum.toArray⟩) w := by
  refine by_str (n := 32) ⟨by rw [Nm.bys_length, hs], _, _, rfl, Nat.le_refl _, by unfold maxLen; omega, fun _ => ⟨g, 3, rfl, fun i x hx => ?_⟩⟩
  rw [blk_cell h]
  exact sgA_sum hx

theorem cat_ex (x y : List UInt8) (X Y : ByteArray) (hX : X = ⟨x.toArray⟩) (hY : Y = ⟨y.toArray⟩) (hb : x.length + y.length ≤ 100000000) : ∃ C, (∀ W, (Go.Op.stringOp .add X Y).run Tryd.prog W = .ok (.string C) W) ∧ C = ⟨(x ++ y).toArray⟩ := by
  subst hX
  subst hY
  refine ⟨_, fun W => run_string_add_sum W _ _ (by rw [ba_size, ba_size]; omega), ba_cat x y⟩

/-- A struct or an array handed back. -/
theorem run_results_row {P : Program} {fn : Func} {tmps : Array Value} {w : World} {r : Nat} {t : TypeId} {p : Nat} {cs : Array Value} {d : TypeDesc} (hf : fn.results = #[.cell r t]) (ht : tmps[r]?.getD undef = .pointer (some ⟨p, 0, none⟩)) (hk : Blk w p cs t)
    (hu : P.underlying t = some d) (hd : (match d with | .struct _ | .array _ _ => true | _ => false) = true) (hi : (P.info? t).map (·.size) = some cs.size) : (results fn tmps).run P w = .ok (.agg cs) w := by
  have hl := run_loadVar_row w p t t cs (0, 0) d hk hu hd hi
  simp [results, hf, ht, asAddr, hl]

set_option maxRecDepth 100000 in
set_option maxHeartbeats 3200000 in
theorem record_any (nm : ByteArray) (t f id : Nat) (sum : List UInt8) (hs : sum.length = 32) (ht : t ≤ 281474976710655) (hf : f ≤ 65535) (hi : id ≤ 65535) (w : World) :
    Calls Tryd.prog 31 #[.agg (sgA nm t f sum id)] w fun e w' => e = .returned (.agg #[.string nm, .int .i64 250, .int .i64 255, .int .i64 0, .string ⟨(datL t f sum id).toArray⟩]) ∧ Below w.heap.size w w' := by
  have hz5 : ∀ W, (zeroValue 54).run Tryd.prog W = .ok (.agg #[.string ByteArray.empty, .int .i64 0, .int .i64 0, .int .i64 0, .string ByteArray.empty]) W := by
    have := zero_of_info (P := Tryd.prog) (t := 54) (v := .agg #[.string ByteArray.empty, .int .i64 0, .int .i64 0, .int .i64 0, .string ByteArray.empty]) (n := 5) (by kernel_rfl)
    exact this.1
  have h6 : ∀ W, Calls Tryd.prog 24 #[.int .i64 (t : Int), .int .i64 6] W fun e w' => e = .returned (.string ⟨(bigL t 6).toArray⟩) ∧ Below W.heap.size W w' := fun W => bigBytesN_any t 6 W (by omega) (by decide) (by decide)
  have h2 : ∀ W, Calls Tryd.prog 24 #[.int .i64 (f : Int), .int .i64 2] W fun e w' => e = .returned (.string ⟨(bigL f 2).toArray⟩) ∧ Below W.heap.size W w' := fun W => bigBytesN_any f 2 W (by omega) (by decide) (by decide)
  have h3 : ∀ W, Calls Tryd.prog 24 #[.int .i64 32, .int .i64 2] W fun e w' => e = .returned (.string ⟨(bigL 32 2).toArray⟩) ∧ Below W.heap.size W w' := fun W => bigBytesN_any 32 2 W (by omega) (by decide) (by decide)
  have h4 : ∀ W, Calls Tryd.prog 24 #[.int .i64 (id : Int), .int .i64 2] W fun e w' => e = .returned (.string ⟨(bigL id 2).toArray⟩) ∧ Below W.heap.size W w' := fun W => bigBytesN_any id 2 W (by omega) (by decide) (by decide)
  obtain ⟨C7, a7, e7⟩ := cat_ex algL (bigL t 6) ⟨#[11, 104, 109, 97, 99, 45, 115, 104, 97, 50, 53, 54, 0]⟩ ⟨(bigL t 6).toArray⟩ rfl rfl (by simp [big_len])
  obtain ⟨C11, a11, e11⟩ := cat_ex _ (bigL f 2) C7 ⟨(bigL f 2).toArray⟩ e7 rfl (by simp [big_len])
  obtain ⟨C13, a13, e13⟩ := cat_ex _ (bigL 32 2) C11 ⟨(bigL 32 2).toArray⟩ e11 rfl (by simp [big_len])
  obtain ⟨C17, a17, e17⟩ := cat_ex _ sum C13 ⟨sum.toArray⟩ e13 rfl (by simp [big_len, hs])
  obtain ⟨C21, a21, e21⟩ := cat_ex _ (bigL id 2) C17 ⟨(bigL id 2).toArray⟩ e17 rfl (by simp [big_len, hs])
  obtain ⟨C22, a22, e22⟩ := cat_ex _ [0, 0, 0, 0] C21 ⟨#[0, 0, 0, 0]⟩ e21 rfl (by simp [big_len, hs])
  have HD : Hid ((⟨(datL t f sum id).toArray⟩ : ByteArray) = C22) := e22.symm
  rw [HD.out]
  clear e7 e11 e13 e17 e21 e22 HD
  have k0 := blk_alloc (blk_new w (sgA nm t f sum id) 43) (.cells #[.string ByteArray.empty, .int .i64 0, .int .i64 0, .int .i64 0, .string ByteArray.empty] 54)
  have hB0 := (Below.refl w.heap.size w).alloc (Nat.le_refl _) (.cells (sgA nm t f sum id) 43)
  have hB1 := hB0.alloc hB0.size (.cells #[.string ByteArray.empty, .int .i64 0, .int .i64 0, .int .i64 0, .string ByteArray.empty] 54)
  have kR := blk_new (w.alloc (.cells (sgA nm t f sum id) 43)) #[.string ByteArray.empty, .int .i64 0, .int .i64 0, .int .i64 0, .string ByteArray.empty] 54
  rw [World.size_alloc] at kR
  obtain ⟨W1, hW1⟩ : ∃ W1, W1 = (w.alloc (.cells (sgA nm t f sum id) 43)).alloc (.cells #[.string ByteArray.empty, .int .i64 0, .int .i64 0, .int .i64 0, .string ByteArray.empty] 54) := ⟨_, rfl⟩
  rw [← hW1] at k0 hB1 kR
  have hS : ∀ W, Below W1.heap.size W1 W → (W.cell? ⟨w.heap.size, 1, none⟩ = some (.int .i64 (t : Int)) ∧ W.cell? ⟨w.heap.size, 2, none⟩ = some (.int .i64 (f : Int)) ∧ W.cell? ⟨w.heap.size, 35, none⟩ = some (.int .i64 (id : Int)) ∧ (convert 22 9 (.slice (some ⟨w.heap.size, 3, none⟩) 32 32)).run Tryd.prog W = .ok (.string ⟨sum.toArray⟩) W) ∧ True := by
    intro W hW
    have k := blk_below k0 hW
    exact ⟨⟨(blk_cell k 1).trans sgA_1, (blk_cell k 2).trans sgA_2, (blk_cell k 35).trans (sgA_35 hs), sum_str k hs⟩, trivial⟩
  have hS0 := hS W1.drew (Below.refl _ _).drew
  have hbl := (Below.refl W1.heap.size W1).drew
  generalize (⟨(bigL t 6).toArray⟩ : ByteArray) = B6 at *
  generalize (⟨(bigL f 2).toArray⟩ : ByteArray) = BF at *
  generalize (⟨(bigL 32 2).toArray⟩ : ByteArray) = B3 at *
  generalize (⟨(bigL id 2).toArray⟩ : ByteArray) = BI at *
  generalize (⟨sum.toArray⟩ : ByteArray) = SM at *
  clear ht hf hi
  go_enter Tryd.func31, Tryd.ntmps31
  go_wp2
  rw [← hW1]
  clear hW1
  refine wp_region_last (S := fun W => (W.cell? ⟨w.heap.size, 1, none⟩ = some (.int .i64 (t : Int)) ∧ W.cell? ⟨w.heap.size, 2, none⟩ = some (.int .i64 (f : Int)) ∧ W.cell? ⟨w.heap.size, 35, none⟩ = some (.int .i64 (id : Int)) ∧ (convert 22 9 (.slice (some ⟨w.heap.size, 3, none⟩) 32 32)).run Tryd.prog W = .ok (.string SM) W) ∧ True) (L := 1000) (by kernel_rfl) hS0 (fun hH => ?_)
  clear hS0
  refine wpAnyL_take (i := 0) (v := ?_) rfl (by kernel_rfl) (by kernel_rfl) (by kernel_rfl) (by kernel_rfl) (fun _ _ _ h => h) (Or.inl ⟨by rfl, ?_⟩) (by assumption) ?_
  rotate_left 1
  · (intro w hSw; go_simp; try (with_reducible rfl))
  refine wpAnyL_take (i := 1) (v := ?_) rfl (by kernel_rfl) (by kernel_rfl) (by kernel_rfl) (by kernel_rfl) (fun _ _ _ h => h) (Or.inl ⟨by rfl, ?_⟩) (by assumption) ?_
  rotate_left 1
  · (intro w hSw; go_simp; try (with_reducible rfl))
  refine wpAnyL_take (i := 4) (v := ?_) rfl (by kernel_rfl) (by kernel_rfl) (by kernel_rfl) (by kernel_rfl) (fun _ _ _ h => h) (Or.inl ⟨by rfl, ?_⟩) (by assumption) ?_
  rotate_left 1
  · (intro w hSw; go_simp; try (with_reducible rfl))
  refine wpAnyL_take (i := 5) (v := ?_) rfl (by kernel_rfl) (by kernel_rfl) (by kernel_rfl) (by kernel_rfl) (fun _ _ _ h => h) (Or.inl ⟨by rfl, ?_⟩) (by assumption) ?_
  rotate_left 1
  · (intro w hSw; go_simp; try (with_reducible rfl))
  refine wpAnyL_take (i := 10) (v := ?_) rfl (by kernel_rfl) (by kernel_rfl) (by kernel_rfl) (by kernel_rfl) (fun _ _ _ h => h) (Or.inl ⟨by rfl, ?_⟩) (by assumption) ?_
  rotate_left 1
  · (intro w hSw; go_simp; try (with_reducible rfl))
  refine wpAnyL_take (i := 11) (v := ?_) rfl (by kernel_rfl) (by kernel_rfl) (by kernel_rfl) (by kernel_rfl) (fun _ _ _ h => h) (Or.inl ⟨by rfl, ?_⟩) (by assumption) ?_
  rotate_left 1
  · (intro w hSw; go_simp; try (with_reducible rfl))
  refine wpAnyL_take (i := 12) (v := ?_) rfl (by kernel_rfl) (by kernel_rfl) (by kernel_rfl) (by kernel_rfl) (fun _ _ _ h => h) (Or.inl ⟨by rfl, ?_⟩) (by assumption) ?_
  rotate_left 1
  · (intro w hSw; go_simp; try (with_reducible rfl))
  refine wpAnyL_take (i := 14) (v := ?_) rfl (by kernel_rfl) (by kernel_rfl) (by kernel_rfl) (by kernel_rfl) (fun _ _ _ h => h) (Or.inl ⟨by rfl, ?_⟩) (by assumption) ?_
  rotate_left 1
  · (intro w hSw; go_simp; try (with_reducible rfl))
  refine wpAnyL_take (i := 15) (v := ?_) rfl (by kernel_rfl) (by kernel_rfl) (by kernel_rfl) (by kernel_rfl) (fun _ _ _ h => h) (Or.inl ⟨by rfl, ?_⟩) (by assumption) ?_
  rotate_left 1
  · (intro w hSw; go_simp; try (with_reducible rfl))
  refine wpAnyL_one (i := 2) (by kernel_rfl) rfl (fun K hK => ?_)
  go_simp
  refine (h6 _).mono ?_
  rintro e w3 ⟨rfl, hb3⟩
  have hb4 := Nm.below_two hbl hb3
  clear hbl hb3
  have hbl := hb4
  clear hb4
  go_wp2_with fail
  refine hK.out _ _ (hS _ hbl) (fun hH => ?_)
  clear hK K
  refine wpAnyL_take (i := 3) (v := ?_) rfl (by kernel_rfl) (by kernel_rfl) (by kernel_rfl) (by kernel_rfl) (fun _ _ _ h => h) (Or.inl ⟨by rfl, ?_⟩) (by assumption) ?_
  rotate_left 1
  · (intro w hSw; go_simp; try (with_reducible rfl))
  refine wpAnyL_one (i := 6) (by kernel_rfl) rfl (fun K hK => ?_)
  go_simp
  refine (h2 _).mono ?_
  rintro e w3 ⟨rfl, hb3⟩
  have hb4 := Nm.below_two hbl hb3
  clear hbl hb3
  have hbl := hb4
  clear hb4
  go_wp2_with fail
  refine hK.out _ _ (hS _ hbl) (fun hH => ?_)
  clear hK K
  refine wpAnyL_take (i := 7) (v := ?_) rfl (by kernel_rfl) (by kernel_rfl) (by kernel_rfl) (by kernel_rfl) (fun _ _ _ h => h) (Or.inl ⟨by rfl, ?_⟩) (by assumption) ?_
  rotate_left 1
  · (intro w hSw; go_simp; try (with_reducible rfl))
  refine wpAnyL_one (i := 8) (by kernel_rfl) rfl (fun K hK => ?_)
  go_simp
  refine (h3 _).mono ?_
  rintro e w3 ⟨rfl, hb3⟩
  have hb4 := Nm.below_two hbl hb3
  clear hbl hb3
  have hbl := hb4
  clear hb4
  go_wp2_with fail
  refine hK.out _ _ (hS _ hbl) (fun hH => ?_)
  clear hK K
  refine wpAnyL_take (i := 9) (v := ?_) rfl (by kernel_rfl) (by kernel_rfl) (by kernel_rfl) (by kernel_rfl) (fun _ _ _ h => h) (Or.inl ⟨by rfl, ?_⟩) (by assumption) ?_
  rotate_left 1
  · (intro w hSw; go_simp; try (with_reducible rfl))
  refine wpAnyL_take (i := 13) (v := ?_) rfl (by kernel_rfl) (by kernel_rfl) (by kernel_rfl) (by kernel_rfl) (fun _ _ _ h => h) (Or.inl ⟨by rfl, ?_⟩) (by assumption) ?_
  rotate_left 1
  · (intro w hSw; go_simp; try (with_reducible rfl))
  refine wpAnyL_one (i := 16) (by kernel_rfl) rfl (fun K hK => ?_)
  go_simp
  refine (h4 _).mono ?_
  rintro e w3 ⟨rfl, hb3⟩
  have hb4 := Nm.below_two hbl hb3
  clear hbl hb3
  have hbl := hb4
  clear hb4
  go_wp2_with fail
  refine hK.out _ _ (hS _ hbl) (fun hH => ?_)
  clear hK K
  refine wpAnyL_take (i := 17) (v := ?_) rfl (by kernel_rfl) (by kernel_rfl) (by kernel_rfl) (by kernel_rfl) (fun _ _ _ h => h) (Or.inl ⟨by rfl, ?_⟩) (by assumption) ?_
  rotate_left 1
  · (intro w hSw; go_simp; try (with_reducible rfl))
  refine wpAnyL_take (i := 18) (v := ?_) rfl (by kernel_rfl) (by kernel_rfl) (by kernel_rfl) (by kernel_rfl) (fun _ _ _ h => h) (Or.inl ⟨by rfl, ?_⟩) (by assumption) ?_
  rotate_left 1
  · (intro w hSw; go_simp; try (with_reducible rfl))
  refine wpAnyL_take (i := 19) (v := ?_) rfl (by kernel_rfl) (by kernel_rfl) (by kernel_rfl) (by kernel_rfl) (fun _ _ _ h => h) (Or.inl ⟨by rfl, ?_⟩) (by assumption) ?_
  rotate_left 1
  · (intro w hSw; go_simp; try (with_reducible rfl))
  refine wpAnyL_done (by kernel_rfl) ?_
  have k1 := blk_below k0 hbl
  have kR1 := blk_below kR hbl
  have hBB := Nm.below_two hB1 hbl
  have hsz := hBB.size
  have q0 := (blk_cell k1 0).trans sgA_0
  clear hS a7 a11 a13 a17 a21 a22 h6 h2 h3 h4 hH
  go_wp2_with (refine wpList_store_blk (.tmp 2) (.tmp 26) 54 rfl rfl rfl (w.heap.size + 1) _ _ kR1 rfl rfl (by kernel_rfl) rfl (by kernel_rfl) ?_; intro w9 k9 o9)
  have hb9 := o9.below hBB (by omega) hsz
  exact bodyPost_ret (v := .agg _) (run_results_row Tryd.results31 rfl k9 Tryd.underlying54 (by kernel_rfl) (by kernel_rfl)) rfl ⟨rfl, hb9⟩

set_option maxRecDepth 100000 in
set_option maxHeartbeats 3200000 in
theorem bytes_any (nm : ByteArray) (t f id : Nat) (sum : List UInt8) (hs : sum.length = 32) (hn : nm.size ≤ 1048576) (ht : t ≤ 281474976710655) (hf : f ≤ 65535) (hi : id ≤ 65535) (w : World) :
    Calls Tryd.prog 21 #[.agg (sgA nm t f sum id)] w fun e w' => e = .returned (.string ⟨(recL nm.data.toList (datL t f sum id)).toArray⟩) ∧ Below w.heap.size w w' := by
  have hz5 : ∀ W, (zeroValue 54).run Tryd.prog W = .ok (.agg #[.string ByteArray.empty, .int .i64 0, .int .i64 0, .int .i64 0, .string ByteArray.empty]) W := by
    have := zero_of_info (P := Tryd.prog) (t := 54) (v := .agg #[.string ByteArray.empty, .int .i64 0, .int .i64 0, .int .i64 0, .string ByteArray.empty]) (n := 5) (by kernel_rfl)
    exact this.1
  have hrec := fun W => record_any nm t f id sum hs ht hf hi W
  have hd61 : (datL t f sum id).length = 61 := dat_len hs
  have hinfS : (Tryd.prog.info? 43).map (·.size) = some (sgA nm t f sum id).size := by rw [sgA_size hs]; kernel_rfl
  have hnz : nm.data.toList.length = nm.size := by simp
  have h250 : ∀ W, Calls Tryd.prog 24 #[.int .i64 250, .int .i64 2] W fun e w' => e = .returned (.string ⟨(bigL 250 2).toArray⟩) ∧ Below W.heap.size W w' := fun W => bigBytesN_any 250 2 W (by omega) (by decide) (by decide)
  have h255 : ∀ W, Calls Tryd.prog 24 #[.int .i64 255, .int .i64 2] W fun e w' => e = .returned (.string ⟨(bigL 255 2).toArray⟩) ∧ Below W.heap.size W w' := fun W => bigBytesN_any 255 2 W (by omega) (by decide) (by decide)
  have h0 : ∀ W, Calls Tryd.prog 24 #[.int .i64 0, .int .i64 4] W fun e w' => e = .returned (.string ⟨(bigL 0 4).toArray⟩) ∧ Below W.heap.size W w' := fun W => bigBytesN_any 0 4 W (by omega) (by decide) (by decide)
  obtain ⟨DA, eDA⟩ : ∃ DA : ByteArray, DA = ⟨(datL t f sum id).toArray⟩ := ⟨_, rfl⟩
  have hDs : DA.size = 61 := by rw [eDA, ba_size]; exact hd61
  have h61 : ∀ W, Calls Tryd.prog 24 #[.int .i64 (DA.size : Int), .int .i64 2] W fun e w' => e = .returned (.string ⟨(bigL (datL t f sum id).length 2).toArray⟩) ∧ Below W.heap.size W w' := by
    rw [hDs, hd61]
    exact fun W => bigBytesN_any 61 2 W (by omega) (by decide) (by decide)
  rw [← eDA] at hrec
  obtain ⟨C11, a11, e11⟩ := cat_ex nm.data.toList (bigL 250 2) nm ⟨(bigL 250 2).toArray⟩ (ba_mk nm).symm rfl (by simp [big_len]; omega)
  obtain ⟨C15, a15, e15⟩ := cat_ex _ (bigL 255 2) C11 ⟨(bigL 255 2).toArray⟩ e11 rfl (by simp [big_len]; omega)
  obtain ⟨C19, a19, e19⟩ := cat_ex _ (bigL 0 4) C15 ⟨(bigL 0 4).toArray⟩ e15 rfl (by simp [big_len]; omega)
  obtain ⟨C24, a24, e24⟩ := cat_ex _ (bigL (datL t f sum id).length 2) C19 ⟨(bigL (datL t f sum id).length 2).toArray⟩ e19 rfl (by simp [big_len]; omega)
  obtain ⟨C27, a27, e27⟩ := cat_ex _ (datL t f sum id) C24 DA e24 eDA (by simp [big_len, hd61]; omega)
  have HD : Hid ((⟨(recL nm.data.toList (datL t f sum id)).toArray⟩ : ByteArray) = C27) := e27.symm
  rw [HD.out]
  clear e11 e15 e19 e24 e27 HD eDA hd61 hnz hn ht hf hi hs hDs
  generalize (⟨(bigL 250 2).toArray⟩ : ByteArray) = B1 at *
  generalize (⟨(bigL 255 2).toArray⟩ : ByteArray) = B2 at *
  generalize (⟨(bigL 0 4).toArray⟩ : ByteArray) = B4 at *
  generalize (⟨(bigL (datL t f sum id).length 2).toArray⟩ : ByteArray) = B5 at *
  have k0 := blk_new w (sgA nm t f sum id) 43
  have hB0 := (Below.refl w.heap.size w).alloc (Nat.le_refl _) (.cells (sgA nm t f sum id) 43)
  generalize sgA nm t f sum id = SA at *
  have hnew : ∀ W W' : World, Only W.heap.size (W.alloc (.cells #[.string ByteArray.empty, .int .i64 0, .int .i64 0, .int .i64 0, .string ByteArray.empty] 54)) W' → Below W.heap.size W W' := fun W W' o =>
    o.below ((Below.refl _ W).alloc (Nat.le_refl _) _) (Nat.le_refl _) (by rw [World.size_alloc]; omega)
  go_enter Tryd.func21, Tryd.ntmps21
  go_wp2_with (refine wpList_load_blk (.tmp 1) 43 rfl rfl w.heap.size _ _ k0 rfl Tryd.underlying43 rfl hinfS ?_)
  refine (hrec _).mono ?_
  rintro e w1 ⟨rfl, hb1⟩
  have hB1 := Nm.below_two hB0 hb1
  clear hrec k0 hB0 hb1
  go_wp2_with (refine wpList_store_blk (.tmp 3) (.tmp 5) 54 rfl rfl rfl w1.heap.size _ _ (blk_new _ _ _) rfl rfl (by kernel_rfl) rfl (by kernel_rfl) ?_; intro w5 k5 o5; have b5 := hnew _ _ o5; clear o5)
  have hB5 := Nm.below_two hB1 b5
  clear hB1 b5 hnew hz5 hinfS
  generalize w1.heap.size = g at *
  have hS : ∀ W, Below w5.heap.size w5 W → (W.cell? ⟨g, 0, none⟩ = some (.string nm) ∧ W.cell? ⟨g, 1, none⟩ = some (.int .i64 250) ∧ W.cell? ⟨g, 2, none⟩ = some (.int .i64 255) ∧ W.cell? ⟨g, 3, none⟩ = some (.int .i64 0) ∧ W.cell? ⟨g, 4, none⟩ = some (.string DA)) ∧ True := by
    intro W hW
    have k := blk_below k5 hW
    exact ⟨⟨(blk_cell k 0).trans rfl, (blk_cell k 1).trans rfl, (blk_cell k 2).trans rfl, (blk_cell k 3).trans rfl, (blk_cell k 4).trans rfl⟩, trivial⟩
  have hS0 := hS w5.drew (Below.refl _ _).drew
  have hbl := (Below.refl w5.heap.size w5).drew
  refine wp_region_last (S := fun W => (W.cell? ⟨g, 0, none⟩ = some (.string nm) ∧ W.cell? ⟨g, 1, none⟩ = some (.int .i64 250) ∧ W.cell? ⟨g, 2, none⟩ = some (.int .i64 255) ∧ W.cell? ⟨g, 3, none⟩ = some (.int .i64 0) ∧ W.cell? ⟨g, 4, none⟩ = some (.string DA)) ∧ True) (L := 1000) (by kernel_rfl) hS0 (fun hH => ?_)
  clear hS0
  refine wpAnyL_take (i := 0) (v := ?_) rfl (by kernel_rfl) (by kernel_rfl) (by kernel_rfl) (by kernel_rfl) (fun _ _ _ h => h) (Or.inl ⟨by rfl, ?_⟩) (by assumption) ?_
  rotate_left 1
  · (intro w hSw; go_simp; try (with_reducible rfl))
  refine wpAnyL_take (i := 1) (v := ?_) rfl (by kernel_rfl) (by kernel_rfl) (by kernel_rfl) (by kernel_rfl) (fun _ _ _ h => h) (Or.inl ⟨by rfl, ?_⟩) (by assumption) ?_
  rotate_left 1
  · (intro w hSw; go_simp; try (with_reducible rfl))
  refine wpAnyL_take (i := 2) (v := ?_) rfl (by kernel_rfl) (by kernel_rfl) (by kernel_rfl) (by kernel_rfl) (fun _ _ _ h => h) (Or.inl ⟨by rfl, ?_⟩) (by assumption) ?_
  rotate_left 1
  · (intro w hSw; go_simp; try (with_reducible rfl))
  refine wpAnyL_take (i := 3) (v := ?_) rfl (by kernel_rfl) (by kernel_rfl) (by kernel_rfl) (by kernel_rfl) (fun _ _ _ h => h) (Or.inl ⟨by rfl, ?_⟩) (by assumption) ?_
  rotate_left 1
  · (intro w hSw; go_simp; try (with_reducible rfl))
  refine wpAnyL_take (i := 6) (v := ?_) rfl (by kernel_rfl) (by kernel_rfl) (by kernel_rfl) (by kernel_rfl) (fun _ _ _ h => h) (Or.inl ⟨by rfl, ?_⟩) (by assumption) ?_
  rotate_left 1
  · (intro w hSw; go_simp; try (with_reducible rfl))
  refine wpAnyL_take (i := 7) (v := ?_) rfl (by kernel_rfl) (by kernel_rfl) (by kernel_rfl) (by kernel_rfl) (fun _ _ _ h => h) (Or.inl ⟨by rfl, ?_⟩) (by assumption) ?_
  rotate_left 1
  · (intro w hSw; go_simp; try (with_reducible rfl))
  refine wpAnyL_take (i := 10) (v := ?_) rfl (by kernel_rfl) (by kernel_rfl) (by kernel_rfl) (by kernel_rfl) (fun _ _ _ h => h) (Or.inl ⟨by rfl, ?_⟩) (by assumption) ?_
  rotate_left 1
  · (intro w hSw; go_simp; try (with_reducible rfl))
  refine wpAnyL_take (i := 11) (v := ?_) rfl (by kernel_rfl) (by kernel_rfl) (by kernel_rfl) (by kernel_rfl) (fun _ _ _ h => h) (Or.inl ⟨by rfl, ?_⟩) (by assumption) ?_
  rotate_left 1
  · (intro w hSw; go_simp; try (with_reducible rfl))
  refine wpAnyL_take (i := 14) (v := ?_) rfl (by kernel_rfl) (by kernel_rfl) (by kernel_rfl) (by kernel_rfl) (fun _ _ _ h => h) (Or.inl ⟨by rfl, ?_⟩) (by assumption) ?_
  rotate_left 1
  · (intro w hSw; go_simp; try (with_reducible rfl))
  refine wpAnyL_take (i := 15) (v := ?_) rfl (by kernel_rfl) (by kernel_rfl) (by kernel_rfl) (by kernel_rfl) (fun _ _ _ h => h) (Or.inl ⟨by rfl, ?_⟩) (by assumption) ?_
  rotate_left 1
  · (intro w hSw; go_simp; try (with_reducible rfl))
  refine wpAnyL_take (i := 16) (v := ?_) rfl (by kernel_rfl) (by kernel_rfl) (by kernel_rfl) (by kernel_rfl) (fun _ _ _ h => h) (Or.inl ⟨by rfl, ?_⟩) (by assumption) ?_
  rotate_left 1
  · (intro w hSw; go_simp; try (with_reducible rfl))
  refine wpAnyL_take (i := 19) (v := ?_) rfl (by kernel_rfl) (by kernel_rfl) (by kernel_rfl) (by kernel_rfl) (fun _ _ _ h => h) (Or.inl ⟨by rfl, ?_⟩) (by assumption) ?_
  rotate_left 1
  · (intro w hSw; go_simp; try (with_reducible rfl))
  refine wpAnyL_take (i := 20) (v := ?_) rfl (by kernel_rfl) (by kernel_rfl) (by kernel_rfl) (by kernel_rfl) (fun _ _ _ h => h) (Or.inl ⟨by rfl, ?_⟩) (by assumption) ?_
  rotate_left 1
  · (intro w hSw; go_simp; try (with_reducible rfl))
  refine wpAnyL_one (i := 4) (by kernel_rfl) rfl (fun K hK => ?_)
  go_simp
  refine (h250 _).mono ?_
  rintro e w3 ⟨rfl, hb3⟩
  have hb4 := Nm.below_two hbl hb3
  clear hbl hb3
  have hbl := hb4
  clear hb4
  go_wp2_with fail
  refine hK.out _ _ (hS _ hbl) (fun hH => ?_)
  clear hK K
  refine wpAnyL_take (i := 5) (v := ?_) rfl (by kernel_rfl) (by kernel_rfl) (by kernel_rfl) (by kernel_rfl) (fun _ _ _ h => h) (Or.inl ⟨by rfl, ?_⟩) (by assumption) ?_
  rotate_left 1
  · (intro w hSw; go_simp; try (with_reducible rfl))
  refine wpAnyL_one (i := 8) (by kernel_rfl) rfl (fun K hK => ?_)
  go_simp
  refine (h255 _).mono ?_
  rintro e w3 ⟨rfl, hb3⟩
  have hb4 := Nm.below_two hbl hb3
  clear hbl hb3
  have hbl := hb4
  clear hb4
  go_wp2_with fail
  refine hK.out _ _ (hS _ hbl) (fun hH => ?_)
  clear hK K
  refine wpAnyL_take (i := 9) (v := ?_) rfl (by kernel_rfl) (by kernel_rfl) (by kernel_rfl) (by kernel_rfl) (fun _ _ _ h => h) (Or.inl ⟨by rfl, ?_⟩) (by assumption) ?_
  rotate_left 1
  · (intro w hSw; go_simp; try (with_reducible rfl))
  refine wpAnyL_one (i := 12) (by kernel_rfl) rfl (fun K hK => ?_)
  go_simp
  refine (h0 _).mono ?_
  rintro e w3 ⟨rfl, hb3⟩
  have hb4 := Nm.below_two hbl hb3
  clear hbl hb3
  have hbl := hb4
  clear hb4
  go_wp2_with fail
  refine hK.out _ _ (hS _ hbl) (fun hH => ?_)
  clear hK K
  refine wpAnyL_take (i := 13) (v := ?_) rfl (by kernel_rfl) (by kernel_rfl) (by kernel_rfl) (by kernel_rfl) (fun _ _ _ h => h) (Or.inl ⟨by rfl, ?_⟩) (by assumption) ?_
  rotate_left 1
  · (intro w hSw; go_simp; try (with_reducible rfl))
  refine wpAnyL_one (i := 17) (by kernel_rfl) rfl (fun K hK => ?_)
  go_simp
  refine (h61 _).mono ?_
  rintro e w3 ⟨rfl, hb3⟩
  have hb4 := Nm.below_two hbl hb3
  clear hbl hb3
  have hbl := hb4
  clear hb4
  go_wp2_with fail
  refine hK.out _ _ (hS _ hbl) (fun hH => ?_)
  clear hK K
  refine wpAnyL_take (i := 18) (v := ?_) rfl (by kernel_rfl) (by kernel_rfl) (by kernel_rfl) (by kernel_rfl) (fun _ _ _ h => h) (Or.inl ⟨by rfl, ?_⟩) (by assumption) ?_
  rotate_left 1
  · (intro w hSw; go_simp; try (with_reducible rfl))
  refine wpAnyL_take (i := 21) (v := ?_) rfl (by kernel_rfl) (by kernel_rfl) (by kernel_rfl) (by kernel_rfl) (fun _ _ _ h => h) (Or.inl ⟨by rfl, ?_⟩) (by assumption) ?_
  rotate_left 1
  · (intro w hSw; go_simp; try (with_reducible rfl))
  refine wpAnyL_take (i := 22) (v := ?_) rfl (by kernel_rfl) (by kernel_rfl) (by kernel_rfl) (by kernel_rfl) (fun _ _ _ h => h) (Or.inl ⟨by rfl, ?_⟩) (by assumption) ?_
  rotate_left 1
  · (intro w hSw; go_simp; try (with_reducible rfl))
  refine wpAnyL_done (by kernel_rfl) ?_
  have hBB := Nm.below_two hB5 hbl
  clear hS a11 a15 a19 a24 a27 h250 h255 h0 h61 hH
  go_wp2
  go_ret
  exact ⟨rfl, hBB⟩
end Go.Proofs.YtmclegfejkoaoaaDoor
