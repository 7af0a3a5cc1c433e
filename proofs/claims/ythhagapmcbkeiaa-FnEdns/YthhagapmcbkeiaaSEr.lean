import Derived.Test.YthhagapmcbkeiaaJShL8
import Derived.Test.YthhagapmcbkeiaaJWiT
import Derived.Test.YthhagapmcbkeiaaJSgR
/- spec.EdnsRecord by its contract. -/
namespace Go.Proofs.Ythhagapmcbkeiaa
open Go.RowKit
set_option linter.unusedVariables false

/-- What is answered. -/
def erP (size code flags : Int) (xs : List (Int × ByteArray)) : Ending := .returned (.tuple #[.agg (if erB size code flags xs then erA size code flags xs else erZ), .int .i64 (if erB size code flags xs then 0 else 32)])
theorem erP_bad {size code flags : Int} {xs : List (Int × ByteArray)} (h : erB size code flags xs = false) : erP size code flags xs = .returned (.tuple #[.agg erZ, .int .i64 32]) := by rw [erP, h]; rfl
theorem erP_ok {size code flags : Int} {xs : List (Int × ByteArray)} (h : erB size code flags xs = true) : erP size code flags xs = .returned (.tuple #[.agg (erA size code flags xs), .int .i64 0]) := by rw [erP, h]; rfl
theorem er_back {w W : World} {size code flags : Int} {xs : List (Int × ByteArray)} {a : Act} {c : Array Value} {n : Value} (hk : Blk W w.heap.size c 27) (hB : Below w.heap.size w W) (h8 : a.tmps[8]?.getD undef = .pointer (some ⟨w.heap.size, 0, none⟩)) (h9 : a.tmps[9]?.getD undef = n) (hd : a.defers = []) (hc : erP size code flags xs = .returned (.tuple #[.agg c, n])) (hz : c.size = 5) :
    bodyPost Try.prog Try.f5 (fun e w' => e = erP size code flags xs ∧ Below w.heap.size w w') .ret a W := by
  have hl := run_loadVar_row W w.heap.size 27 27 c (0, 0) _ hk Try.underlying27 rfl (by rw [hz]; kernel_rfl)
  refine bodyPost_ret (v := .tuple #[.agg c, n]) ?_ hd ⟨hc.symm, hB⟩
  simp [results, Try.results5, h8, h9, asAddr, hl]

set_option maxRecDepth 100000 in
set_option maxHeartbeats 3200000 in
theorem specEdnsRecord_any (size code flags : Int) (v : Value) (xs : List (Int × ByteArray)) (w : World) (h : CRow w v xs.length 2 (opVs xs)) (hs : xs.length + osum xs ≤ 1048576) :
    Calls Try.prog 5 #[.int .i64 size, .int .i64 code, .int .i64 flags, v] w fun e w' => e = erP size code flags xs ∧ Below w.heap.size w w' := by
  obtain ⟨j0, hj, k0, k1, k2⟩ := info_parts Try.infoBy
  have kR := blk_new w erZ 27
  have hB0 := (Below.refl w.heap.size w).alloc (Nat.le_refl _) (.cells erZ 27)
  have hin := fun n m W => l04In_any n m W
  obtain ⟨_, av, cv, rfl, hcap, hmx, hcc⟩ := h
  cases b1 : (decide (0 ≤ size) && decide (size ≤ 65535)) with
  | false =>
    have HE : Hid (erB size code flags xs = false) := by show _ = _; rw [erB, b1]; rfl
    have h1 := hin size 65535
    rw [b1] at h1
    simp only [erZ] at kR hB0
    clear hcc b1
    go_enter Try.func5, Try.ntmps5
    go_wp2_with (first | (go_at_call 13; with_reducible refine (h1 _).mono ?_; rintro e wf ⟨rfl, hw⟩; obtain rfl := hw.symm; clear hw) | (refine wpList_store_blk (.tmp 8) (.tmp 28) 27 rfl rfl rfl w.heap.size _ _ kR rfl rfl (by kernel_rfl) rfl (by kernel_rfl) ?_; intro wz kz oz))
    exact er_back kz (oz.below hB0 (Nat.le_refl _) hB0.size) rfl rfl rfl (erP_bad HE.out) rfl
  | true =>
  cases b2 : (decide (0 ≤ flags) && decide (flags ≤ 65535)) with
  | false =>
    have HE : Hid (erB size code flags xs = false) := by show _ = _; rw [erB, b1, b2]; rfl
    have h1 := hin size 65535
    have h2 := hin flags 65535
    rw [b1] at h1
    rw [b2] at h2
    simp only [erZ] at kR hB0
    clear hcc b1 b2
    go_enter Try.func5, Try.ntmps5
    go_wp2_with (first | (go_at_call 13; with_reducible refine (h1 _).mono ?_; rintro e wf ⟨rfl, hw⟩; obtain rfl := hw.symm; clear hw) | (go_at_call 13; with_reducible refine (h2 _).mono ?_; rintro e wf ⟨rfl, hw⟩; obtain rfl := hw.symm; clear hw) | (refine wpList_store_blk (.tmp 8) (.tmp 28) 27 rfl rfl rfl w.heap.size _ _ kR rfl rfl (by kernel_rfl) rfl (by kernel_rfl) ?_; intro wz kz oz))
    exact er_back kz (oz.below hB0 (Nat.le_refl _) hB0.size) rfl rfl rfl (erP_bad HE.out) rfl
  | true =>
  cases b3 : (decide (0 ≤ code) && decide (code ≤ 255)) with
  | false =>
    have HE : Hid (erB size code flags xs = false) := by show _ = _; rw [erB, b1, b2, b3]; rfl
    have h1 := hin size 65535
    have h2 := hin flags 65535
    have h3 := hin code 255
    rw [b1] at h1
    rw [b2] at h2
    rw [b3] at h3
    simp only [erZ] at kR hB0
    clear hcc b1 b2 b3
    go_enter Try.func5, Try.ntmps5
    go_wp2_with (first | (go_at_call 13; with_reducible refine (h1 _).mono ?_; rintro e wf ⟨rfl, hw⟩; obtain rfl := hw.symm; clear hw) | (go_at_call 13; with_reducible refine (h2 _).mono ?_; rintro e wf ⟨rfl, hw⟩; obtain rfl := hw.symm; clear hw) | (go_at_call 13; with_reducible refine (h3 _).mono ?_; rintro e wf ⟨rfl, hw⟩; obtain rfl := hw.symm; clear hw) | (refine wpList_store_blk (.tmp 8) (.tmp 28) 27 rfl rfl rfl w.heap.size _ _ kR rfl rfl (by kernel_rfl) rfl (by kernel_rfl) ?_; intro wz kz oz))
    exact er_back kz (oz.below hB0 (Nat.le_refl _) hB0.size) rfl rfl rfl (erP_bad HE.out) rfl
  | true =>
    have HEB : Hid (erB size code flags xs = (xs.all optB && decide ((optsL xs).length ≤ 65535))) := by show _ = _; rw [erB, b1, b2, b3]; rfl
    have h1 := hin size 65535
    have h2 := hin flags 65535
    have h3 := hin code 255
    rw [b1] at h1
    rw [b2] at h2
    rw [b3] at h3
    simp only [Bool.and_eq_true, decide_eq_true_eq] at b1 b2 b3
    have kR1 := blk_alloc kR (.cells #[] 5)
    have hro := World.ownsRow_made (base := w.heap.size + 1) (size := 1) (e := 5) (w.alloc (.cells erZ 27)) #[] 0 (by simp) (by decide) rfl
    have hBs := hB0.alloc hB0.size (.cells #[] 5)
    rw [World.size_alloc] at hro
    simp only [erZ] at kR1 hBs hro
    clear kR hB0
    go_enter Try.func5, Try.ntmps5
    go_wp2_with (first | (go_at_call 13; with_reducible refine (h1 _).mono ?_; rintro e wf ⟨rfl, hw⟩; obtain rfl := hw.symm; clear hw) | (go_at_call 13; with_reducible refine (h2 _).mono ?_; rintro e wf ⟨rfl, hw⟩; obtain rfl := hw.symm; clear hw) | (go_at_call 13; with_reducible refine (h3 _).mono ?_; rintro e wf ⟨rfl, hw⟩; obtain rfl := hw.symm; clear hw))
    clear h1 h2 h3
    go_loopw [10, 11] (fun u i wr => ∃ k : Nat, k ≤ xs.length ∧ i = .int .i64 k ∧ wr.ownsRow (w.heap.size + 1) 5 1 u (optsL (xs.take k)).length (Nm.bys (optsL (xs.take k))) ∧ Hid ((xs.take k).all optB = true) ∧ Blk wr w.heap.size #[.string ByteArray.empty, .int .i64 0, .int .i64 0, .int .i64 0, .string ByteArray.empty] 27 ∧ Below w.heap.size w wr) (fun _ i _ => xs.length - (intOf i).toNat)
    case atStart => exact ⟨0, Nat.zero_le _, rfl, hro, rfl, kR1, hBs⟩
    case round =>
      clear hro kR1 hBs
      obtain ⟨k, hk, rfl, hown, HA, kR, hbel⟩ := hrel
      have hlw := blk_lt kR
      have hll : (optsL (xs.take k)).length = 4 * k + osum (xs.take k) := by rw [optsL_len, List.length_take, Nat.min_eq_left hk]
      have hot := osum_take_le xs k
      by_cases hlt : k < xs.length
      · obtain ⟨x, hxk⟩ : ∃ x, xs[k]? = some x := ⟨_, List.getElem?_eq_getElem hlt⟩
        obtain ⟨b, off, rfl, hcell⟩ := hcc (by omega)
        obtain ⟨c0, c1⟩ := op_cells hcell hxk
        have put : ∀ {O : Nat} {z : Value}, w.cell? ⟨b, O, none⟩ = some z → wr.cell? ⟨b, O, none⟩ = some z := fun h => (hbel.cell (World.block_lt_of_cell? w _ h)).trans h
        replace c0 := put c0
        replace c1 := put c1
        have hox := osum_mem xs x (List.mem_of_getElem? hxk)
        have i1 : (0 : Int) ≤ (k : Int) := by omega
        have i2 : (k : Int) < (xs.length : Int) := by omega
        have HXK := Nm.hide hxk
        have HLL := Nm.hide hll
        have hBo := (Below.refl wr.heap.size wr).alloc (Nat.le_refl _) (.cells #[.int .i64 x.1, .string x.2] 45)
        have kRo := blk_below kR hBo
        have hbo := Nm.below_two hbel hBo
        have kO := blk_new wr #[.int .i64 x.1, .string x.2] 45
        have ho := own_below hown hBo
        obtain ⟨ua, uc, rfl⟩ := own_sl hown
        have h4 := hin x.1 65535
        clear hcc hcell put hxk kR hown hbel hll hot
        cases b4 : (decide (0 ≤ x.1) && decide (x.1 ≤ 65535)) with
        | false =>
          have HE : Hid (erB size code flags xs = false) := by
            show _ = _
            have hf : xs.all optB = false := by
              rw [Bool.eq_false_iff]
              intro hall
              have := List.all_eq_true.1 hall x (List.mem_of_getElem? HXK.out)
              rw [optB, b4] at this
              cases this
            rw [HEB.out, hf]
            rfl
          rw [b4] at h4
          clear b4
          obtain ⟨xc, xd⟩ := x
          simp only at c0 c1 h4 kRo hbo kO ho
          go_wp2_with (first | (go_at_call 13; with_reducible refine (h4 _).mono ?_; rintro e wf ⟨rfl, hw⟩; obtain rfl := hw.symm; clear hw) | (refine wpList_store_blk (.tmp 8) (.tmp 50) 27 rfl rfl rfl w.heap.size _ _ kRo rfl rfl (by kernel_rfl) rfl (by kernel_rfl) ?_; intro wz kz oz))
          exact er_back kz (oz.below hbo (Nat.le_refl _) hbo.size) rfl rfl rfl (erP_bad HE.out) rfl
        | true =>
          rw [b4] at h4
          by_cases hbig : 65535 < x.2.size
          · have HE : Hid (erB size code flags xs = false) := by
              show _ = _
              have hf : xs.all optB = false := by
                rw [Bool.eq_false_iff]
                intro hall
                have := List.all_eq_true.1 hall x (List.mem_of_getElem? HXK.out)
                rw [optB, decide_eq_false (by omega : ¬ x.2.size ≤ 65535), Bool.and_false] at this
                cases this
              rw [HEB.out, hf]
              rfl
            have hb2 : (65535 : Int) < (x.2.size : Int) := by omega
            clear b4
            obtain ⟨xc, xd⟩ := x
            simp only at c0 c1 h4 kRo hbo kO ho hb2
            go_wp2_with (first | (go_at_call 13; with_reducible refine (h4 _).mono ?_; rintro e wf ⟨rfl, hw⟩; obtain rfl := hw.symm; clear hw) | (refine wpList_store_blk (.tmp 8) (.tmp 50) 27 rfl rfl rfl w.heap.size _ _ kRo rfl rfl (by kernel_rfl) rfl (by kernel_rfl) ?_; intro wz kz oz))
            exact er_back kz (oz.below hbo (Nat.le_refl _) hbo.size) rfl rfl rfl (erP_bad HE.out) rfl
          · have hb2 : ¬ (65535 : Int) < (x.2.size : Int) := by omega
            have HA2 : Hid ((xs.take (k + 1)).all optB = true) := by
              show _ = _
              rw [opt_all HXK.out, HA.out, optB, b4, decide_eq_true (by omega : x.2.size ≤ 65535)]
              rfl
            simp only [Bool.and_eq_true, decide_eq_true_eq] at b4
            obtain ⟨N, hN⟩ : ∃ N : Nat, x.1 = (N : Int) := ⟨x.1.toNat, by omega⟩
            obtain ⟨xc, xd⟩ := x
            simp only at c0 c1 h4 kRo hbo kO ho hb2 hN b4 hbig hox HXK
            subst hN
            have hp1 : ∀ W, Calls Try.prog 14 #[.int .i64 (N : Int), .int .i64 2] W fun e w' => e = .returned (.string ⟨(bigL N 2).toArray⟩) ∧ Below W.heap.size W w' := fun W => l02PutN_any N 2 W (by omega) (by decide) (by decide)
            have hp2 : ∀ W, Calls Try.prog 14 #[.int .i64 (xd.size : Int), .int .i64 2] W fun e w' => e = .returned (.string ⟨(bigL xd.size 2).toArray⟩) ∧ Below W.heap.size W w' := fun W => l02PutN_any xd.size 2 W (by omega) (by decide) (by decide)
            obtain ⟨P1, eP1⟩ : ∃ D : ByteArray, D = ⟨(bigL N 2).toArray⟩ := ⟨_, rfl⟩
            obtain ⟨P2, eP2⟩ : ∃ D : ByteArray, D = ⟨(bigL xd.size 2).toArray⟩ := ⟨_, rfl⟩
            rw [← eP1] at hp1
            rw [← eP2] at hp2
            have hxl : xd.data.toList.length = xd.size := by simp
            obtain ⟨C1, hC1, eC1⟩ := cat_ex (bigL N 2) (bigL xd.size 2) P1 P2 eP1 eP2 (by simp [big_len])
            obtain ⟨C2, hC2, eC2⟩ := cat_ex _ xd.data.toList C1 xd eC1 (ba_mk xd).symm (by rw [List.length_append, big_len, big_len, hxl]; omega)
            obtain ⟨OL, eOL⟩ : ∃ O, O = optL ((N : Int), xd) := ⟨_, rfl⟩
            have eC : C2.data.toList = OL := by
              rw [eC2, eOL, optL]
              simp
            have hCz : C2.size = OL.length := by rw [← eC]; simp
            have hOLn : OL.length = 4 + xd.size := by rw [eOL, optL_len]
            have HEC := Nm.hide eC
            have HOL := Nm.hide eOL
            have HCz := Nm.hide hCz
            have hCb : C2.size ≤ 65539 := by omega
            have o0 := (blk_cell kO 0).trans rfl
            have o1 := (blk_cell kO 1).trans rfl
            clear eP1 eP2 eC1 eC2 eOL eC hCz hxl
            go_wp2_with (go_at_call 13; with_reducible refine (h4 _).mono ?_; rintro e wf ⟨rfl, hw⟩; obtain rfl := hw.symm; clear hw)
            refine wp_region_last (S := fun W => W.cell? ⟨wr.heap.size, 0, none⟩ = some (.int .i64 (N : Int)) ∧ W.cell? ⟨wr.heap.size, 1, none⟩ = some (.string xd)) (L := 1000) (by kernel_rfl) ⟨o0, o1⟩ (fun hH => ?_)
            refine wpAnyL_take (i := 0) (v := ?_) rfl (by kernel_rfl) (by kernel_rfl) (by kernel_rfl) (by kernel_rfl) (fun _ _ _ h => h) (Or.inl ⟨by rfl, ?_⟩) (by assumption) ?_
            rotate_left 1
            · (intro w hSw; obtain ⟨s1, s2⟩ := hSw; go_simp; try (with_reducible rfl))
            refine wpAnyL_take (i := 1) (v := ?_) rfl (by kernel_rfl) (by kernel_rfl) (by kernel_rfl) (by kernel_rfl) (fun _ _ _ h => h) (Or.inl ⟨by rfl, ?_⟩) (by assumption) ?_
            rotate_left 1
            · (intro w hSw; obtain ⟨s1, s2⟩ := hSw; go_simp; try (with_reducible rfl))
            refine wpAnyL_take (i := 3) (v := ?_) rfl (by kernel_rfl) (by kernel_rfl) (by kernel_rfl) (by kernel_rfl) (fun _ _ _ h => h) (Or.inl ⟨by rfl, ?_⟩) (by assumption) ?_
            rotate_left 1
            · (intro w hSw; obtain ⟨s1, s2⟩ := hSw; go_simp; try (with_reducible rfl))
            refine wpAnyL_take (i := 4) (v := ?_) rfl (by kernel_rfl) (by kernel_rfl) (by kernel_rfl) (by kernel_rfl) (fun _ _ _ h => h) (Or.inl ⟨by rfl, ?_⟩) (by assumption) ?_
            rotate_left 1
            · (intro w hSw; obtain ⟨s1, s2⟩ := hSw; go_simp; try (with_reducible rfl))
            refine wpAnyL_take (i := 5) (v := ?_) rfl (by kernel_rfl) (by kernel_rfl) (by kernel_rfl) (by kernel_rfl) (fun _ _ _ h => h) (Or.inl ⟨by rfl, ?_⟩) (by assumption) ?_
            rotate_left 1
            · (intro w hSw; obtain ⟨s1, s2⟩ := hSw; go_simp; try (with_reducible rfl))
            refine wpAnyL_take (i := 8) (v := ?_) rfl (by kernel_rfl) (by kernel_rfl) (by kernel_rfl) (by kernel_rfl) (fun _ _ _ h => h) (Or.inl ⟨by rfl, ?_⟩) (by assumption) ?_
            rotate_left 1
            · (intro w hSw; obtain ⟨s1, s2⟩ := hSw; go_simp; try (with_reducible rfl))
            refine wpAnyL_take (i := 9) (v := ?_) rfl (by kernel_rfl) (by kernel_rfl) (by kernel_rfl) (by kernel_rfl) (fun _ _ _ h => h) (Or.inl ⟨by rfl, ?_⟩) (by assumption) ?_
            rotate_left 1
            · (intro w hSw; obtain ⟨s1, s2⟩ := hSw; go_simp; try (with_reducible rfl))
            refine wpAnyL_one (i := 2) (by kernel_rfl) rfl (fun K hK' => ?_)
            go_simp
            refine (hp1 _).mono ?_
            rintro e w8 ⟨rfl, b8⟩
            have b8' := (Below.refl _ (wr.alloc (.cells #[.int .i64 (N : Int), .string xd] 45))).drew.trans b8
            have kO8 := blk_below kO b8'
            have kR8 := blk_below kRo b8'
            have hb8 := Nm.below_two hbo b8'
            have ho8 := own_below ho b8'
            clear b8 b8' kO kRo hbo ho o0 o1 hp1
            go_wp2_with fail
            refine hK'.out _ _ ⟨(blk_cell kO8 0).trans rfl, (blk_cell kO8 1).trans rfl⟩ (fun hH => ?_)
            clear hK' K
            refine wpAnyL_one (i := 6) (by kernel_rfl) rfl (fun K hK' => ?_)
            go_simp
            refine (hp2 _).mono ?_
            rintro e w9 ⟨rfl, b9⟩
            have kO9 := blk_below kO8 b9
            have kR9 := blk_below kR8 b9
            have hb9 := Nm.below_two hb8 b9
            have ho9 := own_below ho8 b9
            clear b9 kO8 kR8 hb8 ho8 hp2
            go_wp2_with fail
            refine hK'.out _ _ ⟨(blk_cell kO9 0).trans rfl, (blk_cell kO9 1).trans rfl⟩ (fun hH => ?_)
            clear hK' K
            refine wpAnyL_take (i := 7) (v := ?_) rfl (by kernel_rfl) (by kernel_rfl) (by kernel_rfl) (by kernel_rfl) (fun _ _ _ h => h) (Or.inl ⟨by rfl, ?_⟩) (by assumption) ?_
            rotate_left 1
            · (intro w hSw; obtain ⟨s1, s2⟩ := hSw; go_simp; try (with_reducible rfl))
            refine wpAnyL_take (i := 10) (v := ?_) rfl (by kernel_rfl) (by kernel_rfl) (by kernel_rfl) (by kernel_rfl) (fun _ _ _ h => h) (Or.inl ⟨by rfl, ?_⟩) (by assumption) ?_
            rotate_left 1
            · (intro w hSw; obtain ⟨s1, s2⟩ := hSw; go_simp; try (with_reducible rfl))
            refine wpAnyL_take (i := 11) (v := ?_) rfl (by kernel_rfl) (by kernel_rfl) (by kernel_rfl) (by kernel_rfl) (fun _ _ _ h => h) (Or.inl ⟨by rfl, ?_⟩) (by assumption) ?_
            rotate_left 1
            · (intro w hSw; obtain ⟨s1, s2⟩ := hSw; go_simp; try (with_reducible rfl))
            refine wpAnyL_done (by kernel_rfl) ?_
            clear hH kO9
            go_wp2_with fail
            go_loopw [10, 14] (fun u i wz => ∃ j : Nat, j ≤ C2.size ∧ i = .int .i64 j ∧ wz.ownsRow (w.heap.size + 1) 5 1 u (optsL (xs.take k) ++ OL.take j).length (Nm.bys (optsL (xs.take k) ++ OL.take j)) ∧ Blk wz w.heap.size #[.string ByteArray.empty, .int .i64 0, .int .i64 0, .int .i64 0, .string ByteArray.empty] 27 ∧ Below w.heap.size w wz) (fun _ i _ => C2.size - (intOf i).toNat)
            case atStart => exact ⟨0, Nat.zero_le _, rfl, by simpa using ho9, kR9, hb9⟩
            case round =>
              obtain ⟨j, hj', rfl, hown, kR, hbel⟩ := hrel
              clear ho9 kR9 hb9
              have hlw := blk_lt kR
              have hpl : (optsL (xs.take k) ++ OL.take j).length ≤ 6000000 := by
                have := HLL.out
                have h2 := osum_take_le xs k
                rw [List.length_append, List.length_take]
                omega
              by_cases hlt2 : j < C2.size
              · have i3 : (0 : Int) ≤ (j : Int) := by omega
                have i4 : (j : Int) < (C2.size : Int) := by omega
                have HT : Hid (optsL (xs.take k) ++ OL.take (j + 1) = (optsL (xs.take k) ++ OL.take j) ++ [C2[j]]) := by
                  show _ = _
                  have hd := Nm.get_data hlt2
                  have := Nm.take_step hd
                  rw [HEC.out] at this
                  rw [this, List.append_assoc]
                generalize optsL (xs.take k) ++ OL.take j = PL at *
                obtain ⟨PL2, eP2⟩ : ∃ P, P = optsL (xs.take k) ++ OL.take (j + 1) := ⟨_, rfl⟩
                rw [← eP2] at HT
                have HP2 := Nm.hide eP2
                clear eP2
                obtain ⟨ya, yc, rfl⟩ := own_sl hown
                have hrow : ∀ q, Value.ownBlock (.slice ya PL.length yc) = some q → w.heap.size + 1 ≤ q := fun q hq => (hown.lt q hq).1
                go_wp2_with (at_builtin; refine wpList_append_own _ rfl (.tmp 68) (.tmp 72) 22 rfl (w.heap.size + 1) 5 j0 (.int .u8 0) 1 1 Try.underlying22 hj k0 k1 k2 rfl (by decide) _ _ _ rfl (hown.alloc _) ⟨wr.heap.size, 0, none⟩ 1 1 [.int .u8 (C2[j].toNat : Int)] rfl rfl (cell_one_new _ _ _) (Nm.one_cell _ rfl) (by unfold maxLen; omega) (by omega) (by simp; omega) ?_; intro vb wb hown8 hgrow8 hnl8; clear hnl8)
                have hB8 : Below (w.heap.size + 1) wr wb := ((Below.refl _ wr).alloc (by omega) _).grown hgrow8 (by rw [World.size_alloc]; omega) hrow
                have kR8 := (hB8.block _ (Nat.lt_succ_self _)).trans kR
                have hbel8 := hbel.trans (hB8.mono (Nat.le_succ _))
                have hown9 : wb.ownsRow (w.heap.size + 1) 5 1 vb PL2.length (Nm.bys PL2) := by
                  rw [HT.out, List.length_append, Nm.bys_append]
                  exact hown8
                obtain ⟨za, zc, rfl⟩ := own_sl hown9
                clear hgrow8 hown hbel kR hB8 hrow hown8
                go_roundw
                case rel => exact ⟨j + 1, by omega, by go_num, by rw [← HP2.out]; exact hown9, kR8, hbel8⟩
                case measure => simp [intOf]; omega
              · have hje : j = C2.size := by omega
                have HT : Hid (optsL (xs.take k) ++ OL.take j = optsL (xs.take (k + 1))) := by
                  show _ = _
                  rw [hje, HCz.out, List.take_length, optsL_step HXK.out, HOL.out]
                rw [HT.out] at hown
                obtain ⟨ya, yc, rfl⟩ := own_sl hown
                go_wp2
                go_roundw
                case rel => exact ⟨k + 1, by omega, by go_num, hown, HA2, kR, hbel⟩
                case measure => simp [intOf]; omega
      · have hkl : k = xs.length := by omega
        subst hkl
        rw [List.take_length] at hown HA hll hot
        have i2 : ¬ (xs.length : Int) < (xs.length : Int) := by omega
        obtain ⟨RL, eRL⟩ : ∃ R, R = optsL xs := ⟨_, rfl⟩
        rw [← eRL] at hown hll
        have HRL := Nm.hide eRL
        obtain ⟨ua, uc, rfl⟩ := own_sl hown
        have hRb : RL.length ≤ 6000000 := by omega
        clear hcc eRL hll hot
        by_cases hbig : 65535 < RL.length
        · have HE : Hid (erB size code flags xs = false) := by
            show _ = _
            rw [HEB.out, ← HRL.out, decide_eq_false (by omega : ¬ RL.length ≤ 65535), Bool.and_false]
          have hb2 : (65535 : Int) < (RL.length : Int) := by omega
          go_wp2_with ((refine wpList_store_blk (.tmp 8) (.tmp 77) 27 rfl rfl rfl w.heap.size _ _ kR rfl rfl (by kernel_rfl) rfl (by kernel_rfl) ?_; intro wz kz oz))
          exact er_back kz (oz.below hbel (Nat.le_refl _) hbel.size) rfl rfl rfl (erP_bad HE.out) rfl
        · have HE : Hid (erB size code flags xs = true) := by
            show _ = _
            rw [HEB.out, ← HRL.out, decide_eq_true (by omega : RL.length ≤ 65535), HA.out]
            rfl
          have hb2 : ¬ (65535 : Int) < (RL.length : Int) := by omega
          have hcv := row_strB (CRow.of_owns hown)
          obtain ⟨RS, eRS⟩ : ∃ S : ByteArray, S = ⟨RL.toArray⟩ := ⟨_, rfl⟩
          rw [← eRS] at hcv
          have HRS := Nm.hide eRS
          clear eRS
          go_wp2_with ((refine wpList_store_blk (.tmp 8) (.tmp 85) 27 rfl rfl rfl w.heap.size _ _ kR rfl rfl (by kernel_rfl) rfl (by kernel_rfl) ?_; intro wz kz oz))
          exact er_back kz (oz.below hbel (Nat.le_refl _) hbel.size) rfl rfl rfl (by rw [erP_ok HE.out, erA, ← HRL.out, ← HRS.out]; rfl) rfl
end Go.Proofs.Ythhagapmcbkeiaa
