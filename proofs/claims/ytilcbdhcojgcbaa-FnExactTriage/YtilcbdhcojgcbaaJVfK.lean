import Derived.Test.YtilcbdhcojgcbaaJVfE
import Derived.Test.YtilcbdhcojgcbaaJHd1
import Derived.Laws.AppendOwn
/- impl.readSignature by its contract: data of 61 bytes. -/
namespace Go.Proofs.Ytilcbdhcojgcbaa
open Go.RowKit
set_option linter.unusedVariables false

theorem ifs4 {α : Type} (p q r s : Prop) [Decidable p] [Decidable q] [Decidable r] [Decidable s] (f : Bool → α) : (if p then if q then if r then if s then f true else f false else f false else f false else f false) = f (decide p && (decide q && (decide r && decide s))) := by
  by_cases hp : p
  · by_cases hq : q
    · by_cases hr : r
      · by_cases hs : s
        · simp [hp, hq, hr, hs]
        · simp [hp, hq, hr, hs]
      · simp [hp, hq, hr]
    · simp [hp, hq]
  · simp [hp]
theorem exec_load {P : Program} {a : Act} {o : Oper} {X : World} (t : TypeId) (p : Operand) (ho : o.op = .load t p) (b : Nat) (cs : Array Value) (d : TypeDesc) (hp : a.eval p = .pointer (some ⟨b, 0, none⟩)) (hk : Blk X b cs t) (hu : P.underlying t = some d)
    (hd : (match d with | .struct _ | .array _ _ => true | _ => false) = true) (hi : (P.info? t).map (·.size) = some cs.size) : (execOp a.eval o).run P X = .ok (.value (.agg cs)) X := by
  unfold execOp
  simp only [ho, hp, Instr.loadAt, Instr.sureAddr, Sem.run_bind, Sem.run_pure, Result.andThen_ok, run_loadVar_row X b t t cs (0, 0) d hk hu hd hi]
theorem sgA_set {nm : ByteArray} {t f id : Nat} {sum : List UInt8} (h : sum.length = 32) : (sgA nm t f sum 0).setIfInBounds 35 (.int .i64 (id : Int)) = sgA nm t f sum id := by
  apply Array.ext'
  simp only [sgA, sgC, Array.toList_setIfInBounds]
  show List.set (.string nm :: .int .i64 (t : Int) :: .int .i64 (f : Int) :: (Nm.bys sum ++ [.int .i64 ((0 : Nat) : Int)])) (32 + 1 + 1 + 1) _ = _
  rw [List.set_cons_succ, List.set_cons_succ, List.set_cons_succ, List.set_append_right _ _ (by rw [Nm.bys_length]; omega), Nm.bys_length, h]
  rfl
theorem cutB_str (l : List UInt8) (D : ByteArray) (hD : D.data.toList = l) (a b : Nat) : (D.extract a b).data.toList = (l.drop a).take (b - a) := by
  simp only [ByteArray.data_extract, Array.toList_extract, List.extract_eq_take_drop]
  rw [hD]

set_option maxRecDepth 100000 in
set_option maxHeartbeats 6400000 in
theorem readSig_long (r : Rm) (w : World) (hd : r.dat.length = 61) :
    Calls Try.prog 47 #[.agg #[.string ⟨r.owner.toArray⟩, .int .i64 (r.ty : Int), .int .i64 (r.cl : Int), .int .i64 (r.ttl : Int), .string ⟨r.dat.toArray⟩]] w fun e w' => e = .returned (.tuple #[.agg (sgR r), .bool (rdB r)]) ∧ Below w.heap.size w w' := by
  obtain ⟨D, hD⟩ : ∃ D : ByteArray, D = ⟨r.dat.toArray⟩ := ⟨_, rfl⟩
  have hDd : D.data.toList = r.dat := by rw [hD]
  have hDz : D.size = 61 := by rw [hD, ba_size]; exact hd
  have hne : ((D.size : Int) != 61) = false := by rw [bne_eq_false_iff_eq]; omega
  have i13 : (13 : Int) ≤ (D.size : Int) := by omega
  obtain ⟨A, hA⟩ : ∃ A, D.extract 0 13 = A := ⟨_, rfl⟩
  obtain ⟨B, hB⟩ : ∃ B, D.extract 13 D.size = B := ⟨_, rfl⟩
  have hAd : A.data.toList = r.dat.take 13 := by rw [← hA, cutB_str r.dat D hDd]; simp
  have hBd : B.data.toList = r.dat.drop 13 := by rw [← hB, cutB_str r.dat D hDd, hDz, List.take_of_length_le (by simp; omega)]
  have hAz : A.size = 13 := by rw [← hA, ByteArray.size_extract]; omega
  have hBz : B.size = 48 := by rw [← hB, ByteArray.size_extract]; omega
  have b6 : (6 : Int) ≤ (B.size : Int) := by omega
  have b8 : (8 : Int) ≤ (B.size : Int) := by omega
  have b10 : (10 : Int) ≤ (B.size : Int) := by omega
  obtain ⟨X6, hX6⟩ : ∃ X, B.extract 0 6 = X := ⟨_, rfl⟩
  obtain ⟨X8, hX8⟩ : ∃ X, B.extract 6 8 = X := ⟨_, rfl⟩
  obtain ⟨C, hC⟩ : ∃ X, B.extract 10 B.size = X := ⟨_, rfl⟩
  have hCd : C.data.toList = r.dat.drop 23 := by rw [← hC, cutB_str _ B hBd, List.drop_drop, hBz, List.take_of_length_le (by simp; omega)]
  have hCz : C.size = 38 := by rw [← hC, ByteArray.size_extract]; omega
  obtain ⟨X2, hX2⟩ : ∃ X, C.extract 32 34 = X := ⟨_, rfl⟩
  have c34 : (34 : Int) ≤ (C.size : Int) := by omega
  have r6 : ∀ W, Calls Try.prog 57 #[.string X6] W fun e w' => e = .returned (.int .i64 (sT r.dat : Int)) ∧ w' = W := by
    intro W
    have := readBig_any X6 W (by rw [← hX6, ByteArray.size_extract]; omega)
    rw [← hX6, cutB_str _ B hBd] at this
    rw [← hX6]
    exact this
  have r8 : ∀ W, Calls Try.prog 57 #[.string X8] W fun e w' => e = .returned (.int .i64 (sF r.dat : Int)) ∧ w' = W := by
    intro W
    have := readBig_any X8 W (by rw [← hX8, ByteArray.size_extract]; omega)
    rw [← hX8, cutB_str _ B hBd, List.drop_drop] at this
    rw [← hX8]
    exact this
  have r2 : ∀ W, Calls Try.prog 57 #[.string X2] W fun e w' => e = .returned (.int .i64 (sI r.dat : Int)) ∧ w' = W := by
    intro W
    have := readBig_any X2 W (by rw [← hX2, ByteArray.size_extract]; omega)
    rw [← hX2, cutB_str _ C hCd, List.drop_drop] at this
    rw [← hX2]
    exact this
  have HSM : Hid (bytesV (C.extract 0 32) = (byA (sS r.dat)).toList) := by
    show _ = _
    rw [bytesV, cutB_str _ C hCd]
    simp [byA, sS]
  have hsl : (sS r.dat).length = 32 := by simp [sS]; omega
  have hft := fun W => foldText_any A W (by omega)
  have hfs : (Nm.small A).size = 13 := by rw [Nm.small_size]; exact hAz
  have hfd : (Nm.small A).data.toList = (r.dat.take 13).map Nm.low := by rw [Nm.small_data, hAd]; rfl
  have ht := numL_small (l := (r.dat.drop 13).take 6) (by simp; omega)
  have hT : sT r.dat ≤ 281474976710655 := by unfold sT; omega
  have hF : sF r.dat ≤ 65535 := by have := num_two (l := (r.dat.drop 19).take 2) (by simp; omega); unfold sF; omega
  have hI : sI r.dat ≤ 65535 := by have := num_two (l := (r.dat.drop 55).take 2) (by simp; omega); unfold sI; omega
  have hrec := fun W => record_any ⟨r.owner.toArray⟩ (sT r.dat) (sF r.dat) (sI r.dat) (sS r.dat) hsl hT hF hI W
  have HEQ : Hid (((Nm.small A ++ B).toList == (⟨(datL (sT r.dat) (sF r.dat) (sS r.dat) (sI r.dat)).toArray⟩ : ByteArray).toList) = (decide ((r.dat.take 13).map Nm.low = algL) && (decide ((r.dat.drop 21).take 2 = [0, 32]) && decide (r.dat.drop 57 = [0, 0, 0, 0])))) := by
    show _ = _
    have e1 : (Nm.small A ++ B).toList = (r.dat.take 13).map Nm.low ++ r.dat.drop 13 := by
      rw [ByteArray.toList_eq, ByteArray.data_append, Array.toList_append, hfd, hBd]
    have e2 : (⟨(datL (sT r.dat) (sF r.dat) (sS r.dat) (sI r.dat)).toArray⟩ : ByteArray).toList = datL (sT r.dat) (sF r.dat) (sS r.dat) (sI r.dat) := by rw [ByteArray.toList_eq]
    rw [e1, e2, Bool.eq_iff_iff, beq_iff_eq, dat_iff hd (by simp; omega)]
    simp only [Bool.and_eq_true, decide_eq_true_eq]
  have HRD : Hid (rdB r = (decide (r.ty = 250) && (decide (r.cl = 255) && (decide (r.ttl = 0) && (decide ((r.dat.take 13).map Nm.low = algL) && (decide ((r.dat.drop 21).take 2 = [0, 32]) && decide (r.dat.drop 57 = [0, 0, 0, 0]))))))) := by
    show _ = _
    rw [rdB, datB, decide_eq_true hd, Bool.true_and]
  rw [← hD]
  have hz36 : ∀ W, (zeroValue 73).run Try.prog W = .ok (.agg sg0) W := by
    have := zero_of_info (P := Try.prog) (t := 73) (v := .agg sg0) (n := 36) (by kernel_rfl)
    exact this.1
  obtain ⟨O, hO⟩ : ∃ O : ByteArray, O = ⟨r.owner.toArray⟩ := ⟨_, rfl⟩
  rw [← hO] at hrec ⊢
  have HO := Nm.hide hO
  have k0 := blk_new w #[.string O, .int .i64 (r.ty : Int), .int .i64 (r.cl : Int), .int .i64 (r.ttl : Int), .string D] 56
  have hB0 := (Below.refl w.heap.size w).alloc (Nat.le_refl _) (.cells #[.string O, .int .i64 (r.ty : Int), .int .i64 (r.cl : Int), .int .i64 (r.ttl : Int), .string D] 56)
  have hBs := hB0.alloc hB0.size (.cells sg0 73)
  have k1 := blk_new (w.alloc (.cells #[.string O, .int .i64 (r.ty : Int), .int .i64 (r.cl : Int), .int .i64 (r.ttl : Int), .string D] 56)) sg0 73
  have k0' := blk_alloc k0 (.cells sg0 73)
  rw [World.size_alloc] at k1
  have HDz := Nm.hide hDz
  have HBz := Nm.hide hBz
  have HCz := Nm.hide hCz
  have HFs := Nm.hide hfs
  clear hO hD hDd hAd hBd hCd hAz hfd ht hT hF hI k0 hB0 hDz hBz hCz hfs
  have c4 := (blk_cell k0' 4).trans rfl
  have c0 := (blk_cell k0' 0).trans rfl
  have hsz : ((w.alloc (.cells #[.string O, .int .i64 (r.ty : Int), .int .i64 (r.cl : Int), .int .i64 (r.ttl : Int), .string D] 56)).alloc (.cells sg0 73)).heap.size = w.heap.size + 2 := by rw [World.size_alloc, World.size_alloc]
  have HSZ := Nm.hide hsz
  clear hsz
  go_enter Try.func47, Try.ntmps47
  go_wp2
  generalize (w.alloc (.cells #[.string O, .int .i64 (r.ty : Int), .int .i64 (r.cl : Int), .int .i64 (r.ttl : Int), .string D] 56)).alloc (.cells sg0 73) = W at *
  refine wp_region_last (S := fun W => W.cell? ⟨w.heap.size, 4, none⟩ = some (.string D)) (L := 1000) (by kernel_rfl) c4 (fun hH => ?_)
  refine wpAnyL_take (i := 0) (v := ?_) rfl (by kernel_rfl) (by kernel_rfl) (by kernel_rfl) (by kernel_rfl) (fun _ _ _ h => h) (Or.inl ⟨by rfl, ?_⟩) (by assumption) ?_
  rotate_left 1
  · (intro w hSw; go_simp; try (with_reducible rfl))
  refine wpAnyL_take (i := 1) (v := ?_) rfl (by kernel_rfl) (by kernel_rfl) (by kernel_rfl) (by kernel_rfl) (fun _ _ _ h => h) (Or.inl ⟨by rfl, ?_⟩) (by assumption) ?_
  rotate_left 1
  · (intro w hSw; go_simp; try (with_reducible rfl))
  refine wpAnyL_take (i := 2) (v := ?_) rfl (by kernel_rfl) (by kernel_rfl) (by kernel_rfl) (by kernel_rfl) (fun _ _ _ h => h) (Or.inl ⟨by rfl, ?_⟩) (by assumption) ?_
  rotate_left 1
  · (intro w hSw; go_simp; try (with_reducible rfl))
  refine wpAnyL_take (i := 3) (v := ?_) rfl (by kernel_rfl) (by kernel_rfl) (by kernel_rfl) (by kernel_rfl) (fun _ _ _ h => h) (Or.inl ⟨by rfl, ?_⟩) (by assumption) ?_
  rotate_left 1
  · (intro w hSw; go_simp; try (with_reducible rfl))
  refine wpAnyL_take (i := 4) (v := ?_) rfl (by kernel_rfl) (by kernel_rfl) (by kernel_rfl) (by kernel_rfl) (fun _ _ _ h => h) (Or.inl ⟨by rfl, ?_⟩) (by assumption) ?_
  rotate_left 1
  · (intro w hSw; go_simp; try (with_reducible rfl))
  refine wpAnyL_take (i := 5) (v := ?_) rfl (by kernel_rfl) (by kernel_rfl) (by kernel_rfl) (by kernel_rfl) (fun _ _ _ h => h) (Or.inl ⟨by rfl, ?_⟩) (by assumption) ?_
  rotate_left 1
  · (intro w hSw; go_simp; try (with_reducible rfl))
  refine wpAnyL_take (i := 6) (v := ?_) rfl (by kernel_rfl) (by kernel_rfl) (by kernel_rfl) (by kernel_rfl) (fun _ _ _ h => h) (Or.inl ⟨by rfl, ?_⟩) (by assumption) ?_
  rotate_left 1
  · (intro w hSw; go_simp; try (with_reducible rfl))
  refine wpAnyL_take (i := 7) (v := ?_) rfl (by kernel_rfl) (by kernel_rfl) (by kernel_rfl) (by kernel_rfl) (fun _ _ _ h => h) (Or.inl ⟨by rfl, ?_⟩) (by assumption) ?_
  rotate_left 1
  · (intro w hSw; go_simp; try (with_reducible rfl))
  refine wpAnyL_done (by kernel_rfl) ?_
  go_simp
  go_upto_region 4 with fail
  go_cut [6] from 19 to 27 (fun v6 wx => ∃ g, v6 = .pointer (some ⟨g, 0, none⟩) ∧ w.heap.size + 2 ≤ g ∧ Blk wx g (sgA O (sT r.dat) (sF r.dat) z32 0) 73 ∧ Blk wx w.heap.size #[.string O, .int .i64 (r.ty : Int), .int .i64 (r.cl : Int), .int .i64 (r.ttl : Int), .string D] 56 ∧ Blk wx (w.heap.size + 1) sg0 73 ∧ Below w.heap.size w wx)
  case first =>
    have kD0 : Blk W.drew w.heap.size _ _ := k0'
    have kD1 : Blk W.drew (w.heap.size + 1) _ _ := k1
    have kN := blk_new W.drew sg0 73
    have hN : (W.drew).heap.size = w.heap.size + 2 := HSZ.out
    have hinK := sgI_info (sgA O (sT r.dat) (sF r.dat) z32 0) (sgA_size z32_len)
    have hszK : sg0.size = (sgA O (sT r.dat) (sF r.dat) z32 0).size := by rw [sg0_size, sgA_size z32_len]
    have hon := sgA_one O (sT r.dat) (sF r.dat) 0 z32
    have hSA : (W.drew.alloc (.cells sg0 73)).cell? ⟨w.heap.size, 0, none⟩ = some (.string O) := (blk_cell (blk_alloc kD0 _) 0).trans rfl
    have HFIN : Hid (∀ w2, Blk w2 (W.drew).heap.size (sgA O (sT r.dat) (sF r.dat) z32 0) 73 → Only (W.drew).heap.size (W.alloc (.cells sg0 73)).drew.drew w2 → w.heap.size + 2 ≤ (W.drew).heap.size ∧ Blk w2 (W.drew).heap.size (sgA O (sT r.dat) (sF r.dat) z32 0) 73 ∧ Blk w2 w.heap.size #[.string O, .int .i64 (r.ty : Int), .int .i64 (r.cl : Int), .int .i64 (r.ttl : Int), .string D] 56 ∧ Blk w2 (w.heap.size + 1) sg0 73 ∧ Below w.heap.size w w2) := by
      intro w2 k2 o2
      refine ⟨by omega, k2, o2.blk (blk_drew (blk_drew (blk_alloc k0' _))) (by omega), o2.blk (blk_drew (blk_drew (blk_alloc k1 _))) (by omega), ?_⟩
      exact o2.below ((hBs.alloc hBs.size _).drew.drew) (by omega) (by show w.heap.size ≤ (W.alloc _).heap.size; rw [World.size_alloc]; have := HSZ.out; omega)
    clear hN kD1 kD0
    refine wp_region_last (S := fun X => X.cell? ⟨w.heap.size, 0, none⟩ = some (.string O)) (L := 10) (by kernel_rfl) c0 (fun hH => ?_)
    refine wpAnyL_take (i := 0) (v := ?_) rfl (by kernel_rfl) (by kernel_rfl) (by kernel_rfl) (by kernel_rfl) (fun _ _ _ h => h) (Or.inl ⟨by rfl, ?_⟩) (by assumption) ?_
    rotate_left 1
    · (intro w hSw; go_simp; try (with_reducible rfl))
    refine wpAnyL_take (i := 1) (v := ?_) rfl (by kernel_rfl) (by kernel_rfl) (by kernel_rfl) (by kernel_rfl) (fun _ _ _ h => h) (Or.inl ⟨by rfl, ?_⟩) (by assumption) ?_
    rotate_left 1
    · (intro w hSw; go_simp; try (with_reducible rfl))
    refine wpAnyL_take (i := 2) (v := ?_) rfl (by kernel_rfl) (by kernel_rfl) (by kernel_rfl) (by kernel_rfl) (fun _ _ _ h => h) (Or.inl ⟨by rfl, ?_⟩) (by assumption) ?_
    rotate_left 1
    · (intro w hSw; go_simp; try (with_reducible rfl))
    refine wpAnyL_take (i := 3) (v := ?_) rfl (by kernel_rfl) (by kernel_rfl) (by kernel_rfl) (by kernel_rfl) (fun _ _ _ h => h) (Or.inl ⟨by rfl, ?_⟩) (by assumption) ?_
    rotate_left 1
    · (intro w hSw; go_simp; try (with_reducible rfl))
    refine wpAnyL_take (i := 5) (v := ?_) rfl (by kernel_rfl) (by kernel_rfl) (by kernel_rfl) (by kernel_rfl) (fun _ _ _ h => h) (Or.inl ⟨by rfl, ?_⟩) (by assumption) ?_
    rotate_left 1
    · (intro w hSw; go_simp; try (with_reducible rfl))
    refine wpAnyL_take (i := 6) (v := ?_) rfl (by kernel_rfl) (by kernel_rfl) (by kernel_rfl) (by kernel_rfl) (fun _ _ _ h => h) (Or.inl ⟨by rfl, ?_⟩) (by assumption) ?_
    rotate_left 1
    · (intro w hSw; go_simp; try (with_reducible rfl))
    refine wpAnyL_two (i := 4) (j := 9) (by kernel_rfl) rfl rfl (fun K hK => ?_) (fun K hK => ?_)
    · go_simp
      refine (r6 _).mono ?_
      rintro e wv ⟨rfl, hwv⟩
      obtain rfl := hwv.symm
      clear hwv
      go_wp2_with fail
      refine hK.out _ _ c0 (fun _ => ?_)
      clear hK K
      refine wpAnyL_two (i := 7) (j := 9) (by kernel_rfl) rfl rfl (fun K hK => ?_) (fun K hK => ?_)
      · go_simp
        refine (r8 _).mono ?_
        rintro e wv ⟨rfl, hwv⟩
        obtain rfl := hwv.symm
        clear hwv
        go_wp2_with fail
        refine hK.out _ _ c0 (fun _ => ?_)
        clear hK K
        refine wpAnyL_take (i := 8) (v := .agg (sgA O (sT r.dat) (sF r.dat) z32 0)) rfl (by kernel_rfl) (by kernel_rfl) (by kernel_rfl) (by kernel_rfl) (fun _ _ _ h => h) (Or.inl ⟨by rfl, fun X hSw => by go_simp; rfl⟩) (by assumption) ?_
        refine wpAnyL_one (i := 9) (by kernel_rfl) rfl (fun K hK => ?_)
        go_simp
        refine hK.out _ _ hSA (fun _ => ?_)
        clear hK K
        refine wpAnyL_end (by kernel_rfl) rfl (by kernel_rfl) (fun K hK => ?_)
        rw [if_pos (by rfl)]
        refine wp_store_blk (.tmp 6) (.tmp 27) 73 rfl rfl (W.drew).heap.size _ _ kN rfl rfl hinK hszK hon ?_
        intro w2 k2 o2
        refine hK.out _ _ ?_
        clear hK K
        have F := HFIN.out w2 k2 o2
        go_wp2_with fail
        go_meet
        exact ⟨_, rfl, F⟩
      · go_simp
        refine hK.out _ _ hSA (fun _ => ?_)
        clear hK K
        refine wpAnyL_one (i := 7) (by kernel_rfl) rfl (fun K hK => ?_)
        go_simp
        refine (r8 _).mono ?_
        rintro e wv ⟨rfl, hwv⟩
        obtain rfl := hwv.symm
        clear hwv
        go_wp2_with fail
        refine hK.out _ _ hSA (fun _ => ?_)
        clear hK K
        refine wpAnyL_take (i := 8) (v := .agg (sgA O (sT r.dat) (sF r.dat) z32 0)) rfl (by kernel_rfl) (by kernel_rfl) (by kernel_rfl) (by kernel_rfl) (fun _ _ _ h => h) (Or.inl ⟨by rfl, fun X hSw => by go_simp; rfl⟩) (by assumption) ?_
        refine wpAnyL_end (by kernel_rfl) rfl (by kernel_rfl) (fun K hK => ?_)
        rw [if_pos (by rfl)]
        refine wp_store_blk (.tmp 6) (.tmp 27) 73 rfl rfl (W.drew).heap.size _ _ kN rfl rfl hinK hszK hon ?_
        intro w2 k2 o2
        refine hK.out _ _ ?_
        clear hK K
        have F := HFIN.out w2 k2 o2
        go_wp2_with fail
        go_meet
        exact ⟨_, rfl, F⟩
    · go_simp
      refine hK.out _ _ hSA (fun _ => ?_)
      clear hK K
      refine wpAnyL_one (i := 4) (by kernel_rfl) rfl (fun K hK => ?_)
      go_simp
      refine (r6 _).mono ?_
      rintro e wv ⟨rfl, hwv⟩
      obtain rfl := hwv.symm
      clear hwv
      go_wp2_with fail
      refine hK.out _ _ hSA (fun _ => ?_)
      clear hK K
      refine wpAnyL_one (i := 7) (by kernel_rfl) rfl (fun K hK => ?_)
      go_simp
      refine (r8 _).mono ?_
      rintro e wv ⟨rfl, hwv⟩
      obtain rfl := hwv.symm
      clear hwv
      go_wp2_with fail
      refine hK.out _ _ hSA (fun _ => ?_)
      clear hK K
      refine wpAnyL_take (i := 8) (v := .agg (sgA O (sT r.dat) (sF r.dat) z32 0)) rfl (by kernel_rfl) (by kernel_rfl) (by kernel_rfl) (by kernel_rfl) (fun _ _ _ h => h) (Or.inl ⟨by rfl, fun X hSw => by go_simp; rfl⟩) (by assumption) ?_
      refine wpAnyL_end (by kernel_rfl) rfl (by kernel_rfl) (fun K hK => ?_)
      rw [if_pos (by rfl)]
      refine wp_store_blk (.tmp 6) (.tmp 27) 73 rfl rfl (W.drew).heap.size _ _ kN rfl rfl hinK hszK hon ?_
      intro w2 k2 o2
      refine hK.out _ _ ?_
      clear hK K
      have F := HFIN.out w2 k2 o2
      go_wp2_with fail
      go_meet
      exact ⟨_, rfl, F⟩
  case rest =>
    obtain ⟨g, rfl, hg, kg, kp, kq, hbx⟩ := hcut
    have HIC : Hid (32 ≤ C.size) := by have := HCz.out; show _ ≤ _; omega
    have hgs : (sgA O (sT r.dat) (sF r.dat) z32 0).size = 36 := sgA_size z32_len
    clear k0' k1 hBs c4 c0 HSZ r6 r8
    go_wp2_with (refine wpList_copy_strL rfl (.tmp 31) (.tmp 32) 22 9 rfl 5 Try.underlying22 (by kernel_rfl) g 3 32 32 rfl C rfl _ _ kg HIC.out (by rw [hgs]; decide) ?_; intro w3 k3 o3; rw [HSM.out, spl_sum z32_len hsl] at k3; have kp3 := o3.blk kp (by omega); have kq3 := o3.blk kq (by omega); have hb3 := o3.below hbx (by omega) hbx.size; clear o3 kg kp kq hbx)
    refine (r2 _).mono ?_
    rintro e wv ⟨rfl, hwv⟩
    obtain rfl := hwv.symm
    clear hwv
    have c35 := (blk_cell k3 35).trans (sgA_35 hsl)
    have f35 := blk_frozen k3 35
    have k4 := blk_set k3 35 (.int .i64 (sI r.dat : Int))
    rw [sgA_set hsl] at k4
    have P4 := And.intro k4 (And.intro (blk_far (i := 35) (v := .int .i64 (sI r.dat : Int)) kp3 (show w.heap.size ≠ g by omega)) (And.intro (blk_far (i := 35) (v := .int .i64 (sI r.dat : Int)) kq3 (show w.heap.size + 1 ≠ g by omega)) (hb3.setCell (p := ⟨g, 35, none⟩) (by show w.heap.size ≤ g; omega) (.int .i64 (sI r.dat : Int)))))
    clear k4 k3 kp3 kq3 hb3 r2
    go_wp2_with fail
    refine gen_world (Pr := fun X => Blk X g (sgA O (sT r.dat) (sF r.dat) (sS r.dat) (sI r.dat)) 73 ∧ Blk X w.heap.size #[.string O, .int .i64 (r.ty : Int), .int .i64 (r.cl : Int), .int .i64 (r.ttl : Int), .string D] 56 ∧ Blk X (w.heap.size + 1) sg0 73 ∧ Below w.heap.size w X) (G := fun X => Calls _ _ _ X _) P4 ?_
    clear P4 c35 f35
    rintro X ⟨k4, kp4, kq4, hb4⟩
    refine (hft _).mono ?_
    rintro e w5 ⟨rfl, b5⟩
    have k5 := blk_below k4 b5
    have kp5 := blk_below kp4 b5
    have kq5 := blk_below kq4 b5
    have hb5 := Nm.below_two hb4 b5
    clear k4 kp4 kq4 hb4 b5 hft
    have c4 := (blk_cell kp5 4).trans rfl
    have f4 := blk_frozen kp5 4
    obtain ⟨FB, hFB⟩ : ∃ F, Nm.small A ++ B = F := ⟨_, rfl⟩
    rw [hFB] at HEQ
    have hz1 : (Nm.small A).size ≤ 13 := by have := HFs.out; omega
    have hz2 : B.size ≤ 48 := by have := HBz.out; omega
    have P6 := And.intro (blk_far (i := 4) (v := .string FB) k5 (show g ≠ w.heap.size by omega)) (And.intro (blk_set kp5 4 (.string FB)) (And.intro (blk_far (i := 4) (v := .string FB) kq5 (show w.heap.size + 1 ≠ w.heap.size by omega)) (hb5.setCell (p := ⟨w.heap.size, 4, none⟩) (Nat.le_refl _) (.string FB))))
    clear k5 kp5 kq5 hb5
    go_wp2
    refine gen_world (Pr := fun X => Blk X g (sgA O (sT r.dat) (sF r.dat) (sS r.dat) (sI r.dat)) 73 ∧ Blk X w.heap.size _ 56 ∧ Blk X (w.heap.size + 1) sg0 73 ∧ Below w.heap.size w X) (G := fun X => Code.wp _ _ _ _ X) P6 ?_
    clear P6 c4 f4
    rintro Y ⟨k6, kp6, kq6, hb6⟩
    have hinR := sgI_info (sgA O (sT r.dat) (sF r.dat) (sS r.dat) (sI r.dat)) (sgA_size hsl)
    refine wp_region_last (S := fun X => Blk X g (sgA O (sT r.dat) (sF r.dat) (sS r.dat) (sI r.dat)) 73 ∧ Blk X w.heap.size #[.string O, .int .i64 (r.ty : Int), .int .i64 (r.cl : Int), .int .i64 (r.ttl : Int), .string FB] 56) (L := 1000) (by kernel_rfl) ⟨k6, kp6⟩ (fun hH => ?_)
    refine wpAnyL_take (i := 0) (v := .agg (sgA O (sT r.dat) (sF r.dat) (sS r.dat) (sI r.dat))) rfl (by kernel_rfl) (by kernel_rfl) (by kernel_rfl) (by kernel_rfl) (fun _ _ _ h => h) (Or.inl ⟨by rfl, ?_⟩) (by assumption) ?_
    · intro X hS
      exact exec_load 73 (.tmp 6) rfl g _ _ (by rfl) hS.1 Try.underlying73 rfl hinR
    refine wpAnyL_take (i := 1) (v := .agg #[.string O, .int .i64 (r.ty : Int), .int .i64 (r.cl : Int), .int .i64 (r.ttl : Int), .string FB]) rfl (by kernel_rfl) (by kernel_rfl) (by kernel_rfl) (by kernel_rfl) (fun _ _ _ h => h) (Or.inl ⟨by rfl, ?_⟩) (by assumption) ?_
    · intro X hS
      exact exec_load 56 (.tmp 1) rfl w.heap.size _ _ (by rfl) hS.2 Try.underlying56 rfl (by kernel_rfl)
    refine wpAnyL_take (i := 2) (v := .agg (sgA O (sT r.dat) (sF r.dat) (sS r.dat) (sI r.dat))) rfl (by kernel_rfl) (by kernel_rfl) (by kernel_rfl) (by kernel_rfl) (fun _ _ _ h => h) (Or.inl ⟨by rfl, ?_⟩) (by assumption) ?_
    · intro X hS
      exact exec_load 73 (.tmp 6) rfl g _ _ (by rfl) hS.1 Try.underlying73 rfl hinR
    refine wpAnyL_one (i := 3) (by kernel_rfl) rfl (fun K hK => ?_)
    go_simp
    refine (hrec _).mono ?_
    rintro e w7 ⟨rfl, b7⟩
    have S7 := And.intro (blk_below (blk_drew k6) b7) (blk_below (blk_drew kp6) b7)
    have kq7 := blk_below (blk_drew kq6) b7
    have hb7 := Nm.below_two hb6.drew b7
    clear kq6 hb6 b7 hrec k6 kp6
    go_wp2_with fail
    refine hK.out _ _ S7 (fun _ => ?_)
    clear hK K
    generalize (⟨(datL (sT r.dat) (sF r.dat) (sS r.dat) (sI r.dat)).toArray⟩ : ByteArray) = DD at *
    refine wpAnyL_take (i := 4) (v := .bool (rdB r)) rfl (by kernel_rfl) (by kernel_rfl) (by kernel_rfl) (by kernel_rfl) (fun _ _ _ h => h) (Or.inl ⟨by rfl, ?_⟩) (by assumption) ?_
    · intro X hS
      go_simp
      rw [HRD.out, ← HEQ.out]
      have e1 : decide ((r.ty : Int) = 250) = decide (r.ty = 250) := decide_eq_decide.2 (by omega)
      have e2 : decide ((r.cl : Int) = 255) = decide (r.cl = 255) := decide_eq_decide.2 (by omega)
      have e4 : decide (FB.toList = DD.toList) = (FB.toList == DD.toList) := by rw [Bool.eq_iff_iff]; simp
      rw [← e1, ← e2, ← e4]
      exact ifs4 _ _ _ _ (fun b => Result.ok (Next.value (Value.bool b)) X)
    refine wpAnyL_one (i := 5) (by kernel_rfl) rfl (fun K hK => ?_)
    rw [if_pos (by rfl)]
    refine wp_store_blk (.tmp 2) (.tmp 43) 73 rfl rfl (w.heap.size + 1) _ _ kq7 rfl rfl hinR (by rw [sg0_size, sgA_size hsl]) (sgA_one _ _ _ _ _) ?_
    intro w8 k8 o8
    refine hK.out _ _ ⟨o8.blk S7.1 (by omega), o8.blk S7.2 (by omega)⟩ (fun _ => ?_)
    clear hK K
    have hb8 := o8.below hb7 (by omega) hb7.size
    clear o8 hb7 kq7
    refine wpAnyL_take (i := 6) (v := ?_) rfl (by kernel_rfl) (by kernel_rfl) (by kernel_rfl) (by kernel_rfl) (fun _ _ _ h => h) (Or.inl ⟨by rfl, ?_⟩) (by assumption) ?_
    rotate_left 1
    · (intro w hSw; go_simp; try (with_reducible rfl))
    refine wpAnyL_done (by kernel_rfl) ?_
    go_wp2
    refine bodyPost_ret (v := .tuple #[.agg (sgA O (sT r.dat) (sF r.dat) (sS r.dat) (sI r.dat)), .bool (rdB r)]) (run_results_row2 rfl (by rfl) (by rfl) k8 Try.underlying73 rfl hinR) (by rfl) ⟨?_, hb8⟩
    rw [sgR, ← HO.out]
end Go.Proofs.Ytilcbdhcojgcbaa
/- (*reader).name by its contract. -/
namespace Go.Proofs.Ytilcbdhcojgcbaa
open Go.RowKit
set_option linter.unusedVariables false

theorem Try.infoRd : (Try.prog.info? 5).map (fun i => (i.zero, i.size, i.bytes)) = some (some (.int .u8 0), 1, 1) := by kernel_rfl

theorem gr_step {w w1 w2 : World} {g : Nat} (h : w.grownBy w1 (some g)) (h2 : w1.grownBy w2 (some g)) : w.grownBy w2 (some g) :=
  ⟨h2.os.trans h.os, h2.tape.trans h.tape, h2.output.trans h.output, Nat.le_trans h.size h2.size, fun k hk hne => (h2.block k (Nat.lt_of_lt_of_le hk h.size) hne).trans (h.block k hk hne)⟩

theorem gr_own {w w1 w2 : World} {g : Nat} {row : Option Nat} (h : w.grownBy w1 (some g)) (h2 : w1.grownBy w2 row) (hr : ∀ k, row = some k → w.heap.size ≤ k) : w.grownBy w2 (some g) :=
  ⟨h2.os.trans h.os, h2.tape.trans h.tape, h2.output.trans h.output, Nat.le_trans h.size h2.size, fun k hk hne =>
    (h2.block k (Nat.lt_of_lt_of_le hk h.size) (fun e => by have := hr k e.symm; omega)).trans (h.block k hk hne)⟩

theorem gr_below {w w1 w2 : World} {g : Nat} (h : w.grownBy w1 (some g)) (h2 : Below w1.heap.size w1 w2) : w.grownBy w2 (some g) :=
  ⟨h2.os.trans h.os, h2.tape.trans h.tape, h2.output.trans h.output, Nat.le_trans h.size h2.size, fun k hk hne =>
    (h2.block k (Nat.lt_of_lt_of_le hk h.size)).trans (h.block k hk hne)⟩

theorem rd_lt {w : World} {g p : Nat} {v : Value} (h : Rd w g v p) : g < w.heap.size := (Array.getElem?_eq_some_iff.1 h).1

theorem rd_below {w w1 : World} {g p : Nat} {v : Value} (h : Rd w g v p) (hb : Below w.heap.size w w1) : Rd w1 g v p := by
  unfold Rd
  rw [hb.block g (rd_lt h)]; exact h

theorem rd_grown {w w1 : World} {g p : Nat} {v : Value} {row : Option Nat} (h : Rd w g v p) (hg : w.grownBy w1 row) (hr : row ≠ some g) : Rd w1 g v p := by
  unfold Rd
  rw [hg.block g (rd_lt h) (fun e => hr e.symm)]; exact h

/-- A row of the call's own is not a reader's block: its elements are of another type. -/
theorem row_rd {w : World} {B e m g p : Nat} {v V : Value} {xs : List Value} (h : w.ownsRow B e 1 v m xs) (hs : Rd w g V p) (hne : e ≠ 92) : v.ownBlock = none ∨ v.ownBlock ≠ some g := by
  rcases h.2 with ⟨rfl, _⟩ | ⟨g', cap', cur, rfl, _, hh, _⟩
  · exact .inl rfl
  · right
    simp only [Value.ownBlock, ne_eq, Option.some.injEq]
    intro e2
    subst e2
    unfold Rd at hs
    rw [hh] at hs
    simp at hs
    exact hne hs.2

theorem row_rd' {w : World} {B e m g p : Nat} {v V : Value} {xs : List Value} (h : w.ownsRow B e 1 v m xs) (hs : Rd w g V p) (hne : e ≠ 92) : v.ownBlock ≠ some g := by
  rcases row_rd h hs hne with h | h
  · rw [h]; simp
  · exact h

/-- How far a name has been read: the row 'vo' holds 'acc', the reader that walks lies in gw, the first one (in g) behind the first pointer. -/
structure NSt (w wr : World) (g gw : Nat) (V : Value) (n : Nat) (vo : Value) (acc : List UInt8) (nx : Option Nat) (pos : Nat) : Prop where
  own : wr.ownsRow w.heap.size 5 1 vo acc.length (Nm.bys acc)
  rd : Rd wr gw V pos
  le : pos ≤ n
  ptr : (nx = none ∧ gw = g) ∨ ∃ x, nx = some x ∧ x ≤ n ∧ Rd wr g V x ∧ w.heap.size ≤ gw
  grown : w.grownBy wr (some g)
  lt : g < w.heap.size

section
variable {w wr w1 : World} {g gw n pos pos1 : Nat} {V vo vo1 : Value} {acc acc1 : List UInt8} {nx : Option Nat}

theorem NSt.far (h : NSt w wr g gw V n vo acc nx pos) (hg : wr.grownBy w1 (some gw)) : w.grownBy w1 (some g) := by
  rcases h.ptr with ⟨_, rfl⟩ | ⟨x, _, _, _, hge⟩
  · exact gr_step h.grown hg
  · exact gr_own h.grown hg (fun k hk => by simp at hk; omega)

theorem NSt.read (h : NSt w wr g gw V n vo acc nx pos) (hg : wr.grownBy w1 (some gw)) (hr : Rd w1 gw V pos1) (hle : pos1 ≤ n) : NSt w w1 g gw V n vo acc nx pos1 := by
  refine ⟨h.own.kept hg (row_rd h.own h.rd (by decide)), hr, hle, ?_, h.far hg, h.lt⟩
  rcases h.ptr with hp | ⟨x, hx, hxn, hrx, hge⟩
  · exact .inl hp
  · refine .inr ⟨x, hx, hxn, rd_grown hrx hg ?_, hge⟩
    have := h.lt
    simp; omega

theorem NSt.app (h : NSt w wr g gw V n vo acc nx pos) (hg : wr.grownBy w1 vo.ownBlock) (ho : w1.ownsRow w.heap.size 5 1 vo1 acc1.length (Nm.bys acc1)) : NSt w w1 g gw V n vo1 acc1 nx pos := by
  refine ⟨ho, rd_grown h.rd hg (row_rd' h.own h.rd (by decide)), h.le, ?_, gr_own h.grown hg (fun k hk => (h.own.lt k hk).1), h.lt⟩
  rcases h.ptr with hp | ⟨x, hx, hxn, hrx, hge⟩
  · exact .inl hp
  · exact .inr ⟨x, hx, hxn, rd_grown hrx hg (row_rd' h.own hrx (by decide)), hge⟩

theorem NSt.alloc (h : NSt w wr g gw V n vo acc nx pos) (o : Obj) : NSt w (wr.alloc o) g gw V n vo acc nx pos := by
  have hb : Below wr.heap.size wr (wr.alloc o) := (Below.refl _ _).alloc (Nat.le_refl _) o
  refine ⟨h.own.alloc _, rd_below h.rd hb, h.le, ?_, gr_below h.grown hb, h.lt⟩
  rcases h.ptr with hp | ⟨x, hx, hxn, hrx, hge⟩
  · exact .inl hp
  · exact .inr ⟨x, hx, hxn, rd_below hrx hb, hge⟩

theorem NSt.lead (h : NSt w wr g gw V n vo acc nx pos) {tq : Nat} (hto : tq ≤ n) :
    NSt w (wr.alloc (.cells #[V, .int .i64 (tq : Int)] 92)) g wr.heap.size V n vo acc (some (nx.getD pos)) tq := by
  have hb : Below wr.heap.size wr (wr.alloc (.cells #[V, .int .i64 (tq : Int)] 92)) := (Below.refl _ _).alloc (Nat.le_refl _) _
  refine ⟨h.own.alloc _, ?_, hto, ?_, gr_below h.grown hb, h.lt⟩
  · unfold Rd; show (wr.heap.push _)[wr.heap.size]? = _; simp
  · rcases h.ptr with ⟨rfl, rfl⟩ | ⟨x, rfl, hxn, hrx, hge⟩
    · exact .inr ⟨pos, rfl, h.le, rd_below h.rd hb, h.grown.size⟩
    · exact .inr ⟨x, rfl, hxn, rd_below hrx hb, h.grown.size⟩

theorem NSt.done (h : NSt w wr g gw V n vo acc nx pos) : Rd wr g V (nx.getD pos) ∧ nx.getD pos ≤ n := by
  rcases h.ptr with ⟨rfl, rfl⟩ | ⟨x, rfl, hxn, hrx, hge⟩
  · exact ⟨h.rd, h.le⟩
  · exact ⟨hrx, hxn⟩
end

/-- A slice's length. -/
def slLen : Value → Nat
  | .slice _ n _ => n
  | _ => 0

theorem own_len {w : World} {B e n : Nat} {v : Value} {xs : List Value} (h : w.ownsRow B e 1 v n xs) : slLen v = n := by
  rcases h.2 with ⟨rfl, rfl⟩ | ⟨g', cap', cur, rfl, _⟩ <;> rfl

theorem num_one {l : List UInt8} {p : Nat} (h : p < l.length) : numL ((l.drop p).take 1) = byAt l p := by
  rw [List.drop_eq_getElem_cons h, List.take_succ_cons, List.take_zero, numL, byAt, List.getD_eq_getElem?_getD, List.getElem?_eq_getElem h]
  simp

theorem take_more {l : List UInt8} {p k : Nat} (h : p < l.length) : (l.drop p).take (1 + k) = UInt8.ofNat (byAt l p) :: (l.drop (p + 1)).take k := by
  rw [List.drop_eq_getElem_cons h, Nat.add_comm, List.take_succ_cons, byAt, List.getD_eq_getElem?_getD, List.getElem?_eq_getElem h]
  simp

end Go.Proofs.Ytilcbdhcojgcbaa
