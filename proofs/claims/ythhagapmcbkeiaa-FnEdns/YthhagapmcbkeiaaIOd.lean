import Derived.Test.YthhagapmcbkeiaaJShL8
import Derived.Test.YthhagapmcbkeiaaJWiP
import Derived.Test.YthhagapmcbkeiaaJShK
import Derived.Test.YthhagapmcbkeiaaJSgR
import Derived.Deep.QuietTactic
import Derived.BigQuiet
/- impl.optionsData by its contract. -/
namespace Go.Proofs.Ythhagapmcbkeiaa
open Go.RowKit
set_option linter.unusedVariables false

/-- Whether options may be told. -/
def odB (xs : List (Int × ByteArray)) : Bool := xs.all optB && decide ((optsL xs).length ≤ 65535)
/-- Their bytes. -/
def odS (xs : List (Int × ByteArray)) : ByteArray := if odB xs then ⟨(optsL xs).toArray⟩ else ByteArray.empty
theorem odS_bad {xs : List (Int × ByteArray)} (h : odB xs = false) : odS xs = ⟨#[]⟩ := by rw [odS, h]; rfl
theorem odS_ok {xs : List (Int × ByteArray)} (h : odB xs = true) : odS xs = ⟨(optsL xs).toArray⟩ := by rw [odS, h]; rfl

theorem optsL_mono {xs : List (Int × ByteArray)} {k : Nat} : (optsL (xs.take k)).length ≤ (optsL xs).length := by
  have e : xs = xs.take k ++ xs.drop k := (List.take_append_drop k xs).symm
  have h2 : optsL xs = optsL (xs.take k) ++ optsL (xs.drop k) := by
    conv => lhs; rw [e]
    simp only [optsL, List.flatMap_append]
  rw [h2, List.length_append]
  omega

set_option maxRecDepth 100000 in
set_option maxHeartbeats 3200000 in
theorem optionsData_any (v : Value) (xs : List (Int × ByteArray)) (w : World) (h : CRow w v xs.length 2 (opVs xs)) (hs : xs.length + osum xs ≤ 1048576) :
    Calls Try.prog 15 #[v] w fun e w' => e = .returned (.tuple #[.string (odS xs), .bool (odB xs)]) ∧ Below w.heap.size w w' := by
  have hin := fun n m W => within_any n m W
  obtain ⟨_, av, cv, rfl, hcap, hmx, hcc⟩ := h
  have hfb := Lib.fresh_isBuilder 74 5 w
  have hB0 := (Below.refl w.heap.size w).alloc (Nat.le_refl _) (.cells #[.pointer none, .slice none 0 0] 74)
  have hz0 : w.heap.size < (w.alloc (.cells #[.pointer none, .slice none 0 0] 74)).heap.size := by simp
  go_enter Try.func15, Try.ntmps15
  go_wp2
  go_loopw [9] (fun i wr => ∃ k : Nat, k ≤ xs.length ∧ i = .int .i64 k ∧ Lib.IsBuilder 74 5 w.heap.size w.heap.size (Lib.byteCells (optsL (xs.take k))) wr ∧ Hid ((xs.take k).all optB = true) ∧ (optsL (xs.take k)).length ≤ 65535 ∧ Below w.heap.size w wr) (fun i _ => xs.length - (intOf i).toNat)
  case atStart => exact ⟨0, Nat.zero_le _, rfl, hfb, rfl, by simp [optsL], hB0⟩
  case round =>
    clear hfb hB0 hz0
    obtain ⟨k, hk, rfl, hbu, HA, hln, hbel⟩ := hrel
    have hlw := bu_lt hbu
    by_cases hlt : k < xs.length
    · obtain ⟨x, hxk⟩ : ∃ x, xs[k]? = some x := ⟨_, List.getElem?_eq_getElem hlt⟩
      obtain ⟨b, off, rfl, hcell⟩ := hcc (by omega)
      obtain ⟨c0, c1⟩ := op_cells hcell hxk
      have put : ∀ {O : Nat} {z : Value}, w.cell? ⟨b, O, none⟩ = some z → wr.cell? ⟨b, O, none⟩ = some z := fun h => (hbel.cell (World.block_lt_of_cell? w _ h)).trans h
      replace c0 := put c0
      replace c1 := put c1
      have hox := osum_mem xs x (List.mem_of_getElem? hxk)
      have i1 : (0 : Int) ≤ (k : Int) := by omega
      have i2 : (k : Int) < (xs.length : Int) := by omega
      have HXK := Nm.hide hxk
      have hBo := (Below.refl wr.heap.size wr).alloc (Nat.le_refl _) (.cells #[.int .i64 x.1, .string x.2] 45)
      have hbo := Nm.below_two hbel hBo
      have kO := blk_new wr #[.int .i64 x.1, .string x.2] 45
      have hbuo := bu_below hbu hBo
      have h4 := hin x.1 65535
      have HM : Hid ((optsL (xs.take (k + 1))).length ≤ (optsL xs).length) := optsL_mono
      have HST : Hid (optsL (xs.take (k + 1)) = optsL (xs.take k) ++ optL x) := optsL_step hxk
      obtain ⟨PL, ePL⟩ : ∃ P, P = optsL (xs.take k) := ⟨_, rfl⟩
      rw [← ePL] at hbuo hln HST
      have HPL := Nm.hide ePL
      have hbl : (Lib.byteCells PL).length = PL.length := Lib.byteCells_length _
      have hlen := fun W (hW : Lib.IsBuilder 74 5 w.heap.size w.heap.size (Lib.byteCells PL) W) => Try.Builder_Len _ _ _ W hW
      rw [hbl] at hlen
      clear hcc hcell put hxk hbel hbu ePL
      cases b4 : (decide (0 ≤ x.1) && decide (x.1 ≤ 65535)) with
      | false =>
        have HE : Hid (odB xs = false) := by
          show _ = _
          have hf : xs.all optB = false := by
            rw [Bool.eq_false_iff]
            intro hall
            have := List.all_eq_true.1 hall x (List.mem_of_getElem? HXK.out)
            rw [optB, b4] at this
            cases this
          rw [odB, hf]
          rfl
        rw [b4] at h4
        clear b4
        obtain ⟨xc, xd⟩ := x
        simp only at c0 c1 h4 hbo kO hbuo
        go_wp2
        go_quiet ((go_at_call 16; with_reducible exact Calls.quiet_of_same (h4 _)))
        go_wp2
        go_ret2
        refine ⟨?_, hbo.trans ⟨rfl, rfl, rfl, Nat.le_refl _, fun _ _ => rfl⟩⟩
        rw [odS_bad HE.out, HE.out]
        rfl
      | true =>
        rw [b4] at h4
        by_cases hbig : 65535 < PL.length + 4 + x.2.size
        · have HE : Hid (odB xs = false) := by
            show _ = _
            have h1 := HM.out
            have h2 : (optsL (xs.take (k + 1))).length = PL.length + (4 + x.2.size) := by rw [HST.out, List.length_append, optL_len]
            rw [odB, decide_eq_false (by omega : ¬ (optsL xs).length ≤ 65535), Bool.and_false]
          have hb2 : decide ((65535 : Int) < (PL.length : Int) + 4 + (x.2.size : Int)) = true := by rw [decide_eq_true_eq]; omega
          clear b4
          obtain ⟨xc, xd⟩ := x
          simp only at c0 c1 h4 hbo kO hbuo hb2
          go_wp2
          go_quiet ((first | (go_at_call 16; with_reducible exact Calls.quiet_of_same (h4 _)) | (go_at_call 27; exact Calls.quiet_of_same (hlen _ (bu_below hbuo ⟨rfl, rfl, rfl, Nat.le_refl _, fun _ _ => rfl⟩)))))
          go_wp2
          go_ret2
          refine ⟨?_, hbo.trans ⟨rfl, rfl, rfl, Nat.le_refl _, fun _ _ => rfl⟩⟩
          rw [odS_bad HE.out, HE.out]
          rfl
        · have hb2 : decide ((65535 : Int) < (PL.length : Int) + 4 + (x.2.size : Int)) = false := by rw [decide_eq_false_iff_not]; omega
          have HA2 : Hid ((xs.take (k + 1)).all optB = true) := by
            show _ = _
            rw [opt_all HXK.out, HA.out, optB, b4, decide_eq_true (by omega : x.2.size ≤ 65535)]
            rfl
          simp only [Bool.and_eq_true, decide_eq_true_eq] at b4
          obtain ⟨N, hN⟩ : ∃ N : Nat, x.1 = (N : Int) := ⟨x.1.toNat, by omega⟩
          obtain ⟨xc, xd⟩ := x
          simp only at c0 c1 h4 hbo kO hbuo hb2 hN b4 hbig hox HXK
          subst hN
          have hp1 : ∀ W, Calls Try.prog 29 #[.int .i64 (N : Int), .int .i64 2] W fun e w' => e = .returned (.string ⟨(bigL N 2).toArray⟩) ∧ Below W.heap.size W w' := fun W => bigBytesN_any N 2 W (by omega) (by decide) (by decide)
          have hp2 : ∀ W, Calls Try.prog 29 #[.int .i64 (xd.size : Int), .int .i64 2] W fun e w' => e = .returned (.string ⟨(bigL xd.size 2).toArray⟩) ∧ Below W.heap.size W w' := fun W => bigBytesN_any xd.size 2 W (by omega) (by decide) (by decide)
          obtain ⟨P1, eP1⟩ : ∃ D : ByteArray, D = ⟨(bigL N 2).toArray⟩ := ⟨_, rfl⟩
          obtain ⟨P2, eP2⟩ : ∃ D : ByteArray, D = ⟨(bigL xd.size 2).toArray⟩ := ⟨_, rfl⟩
          rw [← eP1] at hp1
          rw [← eP2] at hp2
          have hxl : xd.data.toList.length = xd.size := by simp
          obtain ⟨C1, hC1, eC1⟩ := cat_ex (bigL N 2) (bigL xd.size 2) P1 P2 eP1 eP2 (by simp [big_len])
          obtain ⟨C2, hC2, eC2⟩ := cat_ex _ xd.data.toList C1 xd eC1 (ba_mk xd).symm (by rw [List.length_append, big_len, big_len, hxl]; omega)
          have HAP : Hid (Lib.byteCells PL ++ Lib.strCells C2 = Lib.byteCells (optsL (xs.take (k + 1)))) := by
            show _ = _
            rw [Lib.strCells_eq, HST.out, Lib.byteCells_append, eC2, optL]
            simp
          have HLN : Hid ((optsL (xs.take (k + 1))).length ≤ 65535) := by
            show _ ≤ _
            rw [HST.out, List.length_append, optL_len]
            simp only
            omega
          have hCz : C2.size = 4 + xd.size := by
            rw [eC2]
            show Array.size _ = _
            simp [big_len]
            omega
          have o0 := (blk_cell kO 0).trans rfl
          have o1 := (blk_cell kO 1).trans rfl
          clear eP1 eP2 eC1 eC2 hxl
          go_wp2
          go_quiet ((first | (go_at_call 16; with_reducible exact Calls.quiet_of_same (h4 _)) | (go_at_call 27; exact Calls.quiet_of_same (hlen _ (bu_below hbuo ⟨rfl, rfl, rfl, Nat.le_refl _, fun _ _ => rfl⟩)))))
          go_wp2
          have hdr : Below (wr.alloc (.cells #[.int .i64 (N : Int), .string xd] 45)).heap.size (wr.alloc (.cells #[.int .i64 (N : Int), .string xd] 45)) ((wr.alloc (.cells #[.int .i64 (N : Int), .string xd] 45)).drewN nq) := ⟨rfl, rfl, rfl, Nat.le_refl _, fun _ _ => rfl⟩
          have kO7 := blk_below kO hdr
          have hb7 := Nm.below_two hbo hdr
          have hu7 := bu_below hbuo hdr
          clear kO hbo hbuo o0 o1 hlen h4 hbl
          generalize (wr.alloc (.cells #[.int .i64 (N : Int), .string xd] 45)).drewN nq = W7 at *
          refine wp_region_last (S := fun W => W.cell? ⟨wr.heap.size, 0, none⟩ = some (.int .i64 (N : Int)) ∧ W.cell? ⟨wr.heap.size, 1, none⟩ = some (.string xd)) (L := 1000) (by kernel_rfl) ⟨(blk_cell kO7 0).trans rfl, (blk_cell kO7 1).trans rfl⟩ (fun hH => ?_)
          refine wpAnyL_take (i := 0) (v := ?_) rfl (by kernel_rfl) (by kernel_rfl) (by kernel_rfl) (by kernel_rfl) (fun _ _ _ h => h) (Or.inl ⟨by rfl, ?_⟩) (by assumption) ?_
          rotate_left 1
          · (intro w hSw; obtain ⟨s1, s2⟩ := hSw; go_simp; try (with_reducible rfl))
          refine wpAnyL_take (i := 1) (v := ?_) rfl (by kernel_rfl) (by kernel_rfl) (by kernel_rfl) (by kernel_rfl) (fun _ _ _ h => h) (Or.inl ⟨by rfl, ?_⟩) (by assumption) ?_
          rotate_left 1
          · (intro w hSw; obtain ⟨s1, s2⟩ := hSw; go_simp; try (with_reducible rfl))
          refine wpAnyL_take (i := 3) (v := ?_) rfl (by kernel_rfl) (by kernel_rfl) (by kernel_rfl) (by kernel_rfl) (fun _ _ _ h => h) (Or.inl ⟨by rfl, ?_⟩) (by assumption) ?_
          rotate_left 1
          · (intro w hSw; obtain ⟨s1, s2⟩ := hSw; go_simp; try (with_reducible rfl))
          refine wpAnyL_take (i := 4) (v := ?_) rfl (by kernel_rfl) (by kernel_rfl) (by kernel_rfl) (by kernel_rfl) (fun _ _ _ h => h) (Or.inl ⟨by rfl, ?_⟩) (by assumption) ?_
          rotate_left 1
          · (intro w hSw; obtain ⟨s1, s2⟩ := hSw; go_simp; try (with_reducible rfl))
          refine wpAnyL_take (i := 5) (v := ?_) rfl (by kernel_rfl) (by kernel_rfl) (by kernel_rfl) (by kernel_rfl) (fun _ _ _ h => h) (Or.inl ⟨by rfl, ?_⟩) (by assumption) ?_
          rotate_left 1
          · (intro w hSw; obtain ⟨s1, s2⟩ := hSw; go_simp; try (with_reducible rfl))
          refine wpAnyL_take (i := 8) (v := ?_) rfl (by kernel_rfl) (by kernel_rfl) (by kernel_rfl) (by kernel_rfl) (fun _ _ _ h => h) (Or.inl ⟨by rfl, ?_⟩) (by assumption) ?_
          rotate_left 1
          · (intro w hSw; obtain ⟨s1, s2⟩ := hSw; go_simp; try (with_reducible rfl))
          refine wpAnyL_take (i := 9) (v := ?_) rfl (by kernel_rfl) (by kernel_rfl) (by kernel_rfl) (by kernel_rfl) (fun _ _ _ h => h) (Or.inl ⟨by rfl, ?_⟩) (by assumption) ?_
          rotate_left 1
          · (intro w hSw; obtain ⟨s1, s2⟩ := hSw; go_simp; try (with_reducible rfl))
          refine wpAnyL_one (i := 2) (by kernel_rfl) rfl (fun K hK' => ?_)
          go_simp
          refine (hp1 _).mono ?_
          rintro e w8 ⟨rfl, b8⟩
          have b8' := (Below.refl _ W7).drew.trans b8
          have kO8 := blk_below kO7 b8'
          have hb8 := Nm.below_two hb7 b8'
          have hu8 := bu_below hu7 b8'
          clear b8 b8' kO7 hb7 hu7 hp1
          go_wp2_with fail
          refine hK'.out _ _ ⟨(blk_cell kO8 0).trans rfl, (blk_cell kO8 1).trans rfl⟩ (fun hH => ?_)
          clear hK' K
          refine wpAnyL_one (i := 6) (by kernel_rfl) rfl (fun K hK' => ?_)
          go_simp
          refine (hp2 _).mono ?_
          rintro e w9 ⟨rfl, b9⟩
          have kO9 := blk_below kO8 b9
          have hb9 := Nm.below_two hb8 b9
          have hu9 := bu_below hu8 b9
          clear b9 kO8 hb8 hu8 hp2
          go_wp2_with fail
          refine hK'.out _ _ ⟨(blk_cell kO9 0).trans rfl, (blk_cell kO9 1).trans rfl⟩ (fun hH => ?_)
          clear hK' K
          refine wpAnyL_take (i := 7) (v := ?_) rfl (by kernel_rfl) (by kernel_rfl) (by kernel_rfl) (by kernel_rfl) (fun _ _ _ h => h) (Or.inl ⟨by rfl, ?_⟩) (by assumption) ?_
          rotate_left 1
          · (intro w hSw; obtain ⟨s1, s2⟩ := hSw; go_simp; try (with_reducible rfl))
          refine wpAnyL_take (i := 10) (v := ?_) rfl (by kernel_rfl) (by kernel_rfl) (by kernel_rfl) (by kernel_rfl) (fun _ _ _ h => h) (Or.inl ⟨by rfl, ?_⟩) (by assumption) ?_
          rotate_left 1
          · (intro w hSw; obtain ⟨s1, s2⟩ := hSw; go_simp; try (with_reducible rfl))
          refine wpAnyL_one (i := 11) (by kernel_rfl) rfl (fun K hK' => ?_)
          go_simp
          refine (writeString_any _ _ _ C2 _ hu9 (by rw [Lib.byteCells_length]; omega) hb9.size).mono ?_
          rintro e w10 ⟨rfl, hu10, b10, hk10⟩
          rw [HAP.out] at hu10
          have hb10 := hb9.trans b10
          have kO10 := hk10 _ _ _ (by decide) (by decide) kO9
          clear b10 hk10 kO9 hb9 hu9 HAP
          go_wp2_with fail
          refine hK'.out _ _ ⟨(blk_cell kO10 0).trans rfl, (blk_cell kO10 1).trans rfl⟩ (fun hH => ?_)
          clear hK' K
          refine wpAnyL_done (by kernel_rfl) ?_
          clear hH kO10
          go_wp2_with fail
          go_roundw
          case rel => exact ⟨k + 1, by omega, by go_num, .inr hu10, HA2, HLN.out, hb10⟩
          case measure => simp [intOf]; omega
    · have hkl : k = xs.length := by omega
      subst hkl
      rw [List.take_length] at hbu HA hln
      have i2 : ¬ (xs.length : Int) < (xs.length : Int) := by omega
      have HE : Hid (odB xs = true) := by
        show _ = _
        rw [odB, HA.out, decide_eq_true hln]
        rfl
      have hst := fun W hW hz => Try.Builder_String_any w.heap.size w.heap.size (optsL xs) W hW hz
      clear hcc
      go_wp2_with (go_at_call 30; refine (hst _ hbu hbel.size).mono ?_; rintro e w3 ⟨rfl, hb3⟩)
      go_ret2
      refine ⟨?_, hbel.trans hb3⟩
      rw [odS_ok HE.out, HE.out]
      rfl
end Go.Proofs.Ythhagapmcbkeiaa
